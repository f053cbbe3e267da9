import PyProof.Rows.All
import Wide.All
import OpenK.AllK
import Wide.FinOn
import Lean
import PyProof.EqAt
import PyProof.EqKinds
import PyProof.TupleCall
import PySem.Challenge.RW_blockdeal_k15_patches_by_rules
open PySem renaming wpAny_bind->aa,wpAny_pure->ae,Value->af,PyData->ah,Addr->aj,Shared->aq,Program->aJ,Heap->aW,Around->aX,World->a7,Expr->bg,wpAny_newObj_type->bG,wpAny_call_entry->bK,Paired->bR,wpAny_holding->bU,wpAny_rule->b7,wpAny_standAt->b9,wpAny_setField_rec->cj,wpAny_callSpecial?_slot->cm,wpAny_askSetting->cn,wpAny_field->cu,wpAny_mono->cA,Builtin->dh,FuncData->dz,wpAny_setState_of->dE,codeAny_builtin->dJ,wpAny_truthy_bool->dX,wpAny_typeOf->dY,SetTable->eC,Stmt->eK,wpAny_typeNameOfWhole_itemiter->eO,sizeLine_eq->eT,wpAny_seqItems->eX,wpAny_setField->eY,Scope->e8,wpAny_newList->ff,NameKind->fk,wpAny_passesOwn->fB,wpAny_ite_split->fE,wpAny_comprehension_free->fR,wpAny_attempt->fT,mem_of_lookup->fW,wpAny_Call_Name_kw->gr,builtinLookup_eq_fast->gH,wpAny_pyIter_list->gJ,wpAny_updateSeq->ig,wpAny_pyIter_tuple->ik,DictEntry->iD,codeAny_mono->iG,wpAny_isOneOf_itemiter->iT,fits_of_scanBound->iW,wpAny_isInstance->i7,IsTupleKey->i8,plainId_quiet->kf,wpAny_updateSeq_pair->ku,wpAny_execs_nil->kC,Result->kD,typeLookup_type->kO,wpAny_setEntries_of->kU,codeAny_loop->k6,wpAny_load->lF,wpAny_newFunctionEnv_cells->lJ,wpAny_newTuple->lQ,wpAny_fieldsOf->lX,tupleKind_room_in1->lY,wpAny_noted->mH,wpAny_of_eq->mN,wpAny_dictEntries->mO,wpAny_pyIter_slot->mP,IsPart->mQ,Builtin->mT,wpAny_onRaise->mV,wpAny_pyNext_tuple_item->mZ,Arguments->m5,noFill_tuple_add->m6,wpAny_Call_method0_late->m7,wpAny_pyNext_tuple_end->nG,codeAny_compStart_list->nJ,IsPair->nU,codeAny_of_tree->og,wpAny_dictEpoch->om,wpAny_notOrdered_dict->ou,wpAny_newFunctionEnv->oG,wpAny_runValue->oP,wpAny_letGo->oU,isSubtype_stop->oV,isSubtype_type->o5,evalArgs_none->ph,KeyKind->pG,seq_tuple_add->pH,wpAny_handled->pJ,wpAny_notedAt->pK,sub_AttributeError->p5,wpAny_assign_Name->rm,concat_meets->rF,wpAny_sequenceKey->rG,seqIndex_neg->rH,slot_list_getitem->rJ,ExcName->rT,OsState->rV,wpAny_storeSet_of->rZ,wpAny_execs_cons->su,PassesOwn->sv,wpAny_pyIter_zip->sG,Model->sO,seqIndex_of->sP,wpAny_throw->sU,IsZip->sV,wpAny_loadPart'->sZ,wpAny_specialOf->tG,BindsTo->tJ,wpAny_Name->tL,wpAny_bindName->tM,typeIs_str->tS,sliceRange_one->tT,Params->tU,entryFor_alias->ue,TriplesOk->vH,ask->vO,wpAny_ite->vP,PyData->vY,Within->vZ,Keyword->we,Value->xf,CmpOp->xn,pick_run->xu,ReadsAll->xD,call->yV,Fin->Bt
open PySem.Heap renaming get?_push_of_some->ag,lt_size->aw,get?_push_size->ax,get?_update_other->bz,get?_update_self->bO,get?_push_ne->cf,size_update->cH,SameBut->cN,size_push->cZ,get?_update_ne->hU,NewAttrErr->oj,ExtBut->xK
open List renaming mem_cons->au,getElem?_eq_getElem->av,mem_append->aC,mem_singleton->aF,size_toArray->aG,getElem?_eq_some_iff->aH,mem_append_right->aK,length_cons->aL,getElem?_map->aN,mem_of_getElem?->aP,length_map->aR,length_append->aS,append_assoc->aY,pairwise_iff_getElem->aZ,getElem_of_mem->bh,pairwise_cons->bo,map_cons->bp,not_mem_nil->bq,drop_eq_getElem_cons->br,getElem?_append_right->bw,getElem?_append_left->bE,getD_eq_getElem?_getD->bH,mem_cons_of_mem->b8,getElem?_eq_none->ck,pairwise_map->cz,map_map->cD,mem_map->cE,mem_cons_self->cM,of_mem_zip->cS,length_nil->cT,append_nil->df,all_eq_true->dw,getElem?_take_of_lt->dG,nodup_cons->dI,map_append->dM,getElem?_set_ne->dP,length_take->dQ,lookup_cons->dR,getElem_mem->dS,take_of_length_le->dZ,filterMap_cons->eE,length_singleton->eI,range->eJ,getElem?_drop->eM,cons_append->eN,pairwise_append->eW,getElem?_replicate->eZ,map_congr_left->e9,map_snd_zip->fi,take_append_drop->ft,mem_filter->fA,nil_append->fC,find?_cons->fF,mem_append_left->fG,length->fI,mem_of_mem_take->fM,replicate_succ->fY,mem_map_of_mem->f9,replicate->gf,drop_length->gh,getElem?_cons_succ->gj,perm_middle->gk,length_eq_zero_iff->gm,getElem?_set_self->gp,mem_filterMap->gq,map_nil->gx,drop_of_length_le->gy,length_range->gO,take_succ->gR,mem_of_mem_drop->gS,getElem?_of_mem->gV,length_drop->gW,map_fst_zip->gX,set_cons_succ->iz,getElem?_cons_zero->iE,pairwise_singleton->iF,mapM_toArray->iM,any_map->iP,nodup_append->iS,length_filter_le->iX,all_toArray->i6,forIn_cons->kE,length_zip->kN,getElem?_range->kQ,replicate_zero->kW,getD_cons_succ->kX,getD_cons_zero->kY,perm_append_comm_assoc->k8,mem_range->lC,zip_cons_cons->lK,forIn_nil->lT,length_eraseIdx_of_lt->mf,set_cons_zero->mj,mem_take_iff_getElem->ml,getElem?_zip_eq_some->mm,any_eq_false->mE,take_sublist->mF,getElem?_set->mJ,ext_getElem?->mK,drop_sublist->mM,length_erase_of_mem->mW,eraseIdx_cons_succ->m8,zipIdx_cons->nt,take_length->ny,mem_flatten->nF,length_pos_of_mem->nV,foldl_cons->n9,length_replicate->oo,perm_append_comm->ot,getElem?_toArray->oA,eq_nil_or_concat->oB,concat_eq_append->oC,mem_iff_getElem?->oE,drop_zero->oM,forall_mem_cons->oW,mem_erase_of_ne->oY,length_pos_iff->pF,filter_append->pZ,find?_eq_none->p7,getElem_drop->rX,any_eq_true->sN,zipIdx_nil->tD,nodup_nil->t5,take_nil->vf,drop_nil->vg,map_tail->vo,any_cons->vv,map_take->vF,map_drop->vG,zip_map->wo,lookup->xy,map_id->xJ
open Nat renaming ne_of_lt->aA,lt_of_lt_of_le->aB,le_refl->aD,le_trans->bZ,zero_le->cw,lt_or_ge->cx,ne_of_gt->cW,lt_trichotomy->ef,zero_add->eS,le_of_lt->fc,le_add_right->fj,le_succ->fK,add_sub_of_le->fN,testBit_succ->gZ,lt_irrefl->hY,lt_of_lt_of_eq->iy,mod_eq_zero_of_dvd->iQ,dvd_of_mod_eq_zero->iR,min_eq_left->kG,pow_succ->ly,lt_trans->lA,eq_zero_or_pos->lW,lt_or_eq_of_le->lZ,lt_succ_self->m9,shiftLeft_eq->ng,testBit_zero->nA,sub_self->nY,testBit_and->oh,eq_of_testBit_eq->oX,add_assoc->pI,eq_or_lt_of_le->pU,lt_of_le_of_lt->pW,add_sub_cancel->pY,mul_comm->rR,lt_succ_of_lt->rS,le_of_not_lt->sD,and_le_left->tF,not_lt->ua,mul_assoc->vq,sub_zero->wt,le_total->wy,le_of_eq->wC,one_mul->xC,pow_pos->xX,not_le->Aa,mod_lt->Ah
open PyProof.Rows renaming wpS_bind->aE,wpS_pure->aI,SortSt->bV,Keyed->bW,wpS_forRange->cy,slot_tuple_getitem->cB,size_push'->eo,wpS_mono->eV,SortKind->fq,listItems_at->fO,IntsAre->fX,callWith_type1->gK,wpS_modify->i5,Top->i9,wpS_get->kc,listUpdate_at->ke,entry_proto_collect'->km,get?_update_seq->kH,entry_list_sort->kI,AllBare->kZ,assignInOrder_cons->lE,slot_list_sort->lR,wpS_lift->nj,entry_list_iadd'->nu,subscriptTail_builtinR->nH,pairsOf_size->nQ,plain_sorted->nR,entry_sorted->nT,wpS_reverse->oN,mirror_perm->oO,kind_sorted->oQ,args_list_sort->oR,boot_sorted->oS,entry_tuple_getitem->pf,args_tuple_getitem->pT,IsTup->rh,assignInOrder_nil->rn,args_sorted1->rN,callWith_builtin1->sA,seqEpoch_at->sS,oneTypeOnly'_eq->tB,slicePart_none->tQ,Subscript_->tR,elem'_eq->xG,ksk_rest->xU,lt_int->yf
open PySem.Str renaming ofString->aM,empty->o8,length->yO
open PySem.Value renaming ref->aO,type->a8,none->dO,int->iY,bool->iZ,isInt->kg,isInt_shape->rg,str->sr,isStrOf->uK,float->xg
open Option.some renaming inj->aQ
open Array renaming getElem?_eq_getElem->aT,toList->a9,getElem?_toList->bP,toList_append->bY,length_toList->cC,perm_iff_toList_perm->c9,getElem?_eq_none->gC,getD->gD,toList_push->gN,push->iw,toArray_toList->kv,getElem_toList->kB,getElem?_extract->nN,toList_extract->oJ,toList_reverse->oK,toList_modify->pE,toList_map->sE,size_push->tH
open Bool renaming false_eq_true->aU,false_ne_true->bf,and_eq_true->cc,not_true->fU,not_eq_true'->gM,not_false->gT,eq_iff_iff->ic,false_and->lG,true_and->mS,or_eq_false_iff->oI,and_eq_true_iff->o6,false_or->pN,not_eq_false'->pV,eq_false_iff->rM
open Int renaming le_refl->aV,dvd_of_emod_eq_zero->bu,pow_succ->bM,toNat_natCast->bQ,mul_le_mul_of_nonneg_right->cG,le_of_lt->cP,mul_comm->cQ,one_mul->cU,mul_le_mul_of_nonneg_left->dD,emod_eq_zero_of_dvd->dU,add_mul->eG,le_trans->eR,mul_assoc->fe,emod_lt_of_pos->gA,natCast_pow->gF,lt_or_le->gY,mul_neg_of_pos_of_neg->hG,emod_nonneg->ie,lt_or_eq_of_le->iB,pow_add->kh,mul_ediv_cancel->kT,natCast_nonneg->lH,fdiv_eq_ediv_of_nonneg->lI,not_lt->lP,lt_of_mul_lt_mul_right->lV,lt_of_mul_lt_mul_left->mo,mul_one->mD,lt_trichotomy->mL,eq_ofNat_of_zero_le->nc,natCast_zero->nE,le_ediv_iff_mul_le->nK,ediv_lt_iff_lt_mul->nL,emod_add_mul_ediv->oD,add_emod->rQ,mul_add->sW,emod_two_eq->tE,dvd_trans->vp,toNat->vW,sub_mul->xF
open PySem.SetTable renaming below->bt,grown->eD,orStandIn->p9,insertAt->rW,Probe->ub,fits->vC
open Iff renaming rfl->bL
open PySem.Builtin.SmallTypes renaming nextOf->bN,ownedTupleIsFree->dH,ownedTupleHandOut->hV
open PySem.Obj renaming mapSeq->bS,data_mapFields->cR,isFreed_of_fields->fw,cls_mapFields->iO,mapFields->mY,putSet->uc
open ForInStep renaming yield->bT
open PySem.W renaming kia_one->bX,boot_heap->dF,fnOf->eQ,kitx_dict->fH,keepIn->gQ,cellsFrom_some->iH,codeIn->iI,methodObj->mC,boot_drawn->nX,instObj->n8,lookIn->oF,boot_toks->o9,kitx_tuple->pP,callWith_K->pR,kitx_list->rC,plainGet->sy,findIn->tO,kitOne->tP,TabsAt->t9,ghost_get->vT,SharedT->wB
open PySem.PyData renaming int->cg,hasDict->c8,bool->eU,hasDict_of_canLay->fS,hasDictAll->gL,canLayAll0->iN,depthAll->kJ,tuple->nZ,none->oH,canLay0->oT,eqv->pX,depth->rO,dict->sQ,eqvAll->vn,list->xE
open False renaming elim->cF
open PySem.NameKind renaming free->cI
open PySem.F renaming slot_dict_itemiterator_next->cJ,plain_extend_loop->cK,slot_tuple_getattribute->fz,args_dict_itemiterator_next_1->g6,entry_dict_itemiterator_next->hW,args_tuple_add_2->hZ,entry_tuple_add->iC,slot_tuple_add->iJ,args_tuple_iterator_next_1->kK,slot_zip_next->kM,slot_dict_items_iter->kP,entry_tuple_iterator_next->lg,slot_tuple_iterator_next->lU,entry_extend_loop->my,plainAttrs_list->ni,plain_list_iadd->nC,slot_dict_items->nD,args_zip_next_1->rP,entry_zip_next->sF,slot_set_iter->tI
open Option renaming map_eq_some_iff->cO,getD_some->fh,map_some->gE,map_eq_none_iff->nW,getD_none->sC
open Classical renaming choose_spec->cV,byContradiction->g8,choose->i4
open PySem.Builtin.List renaming listExtendWith->cX,listSameRef->fV,listItems->iL,listLengthHint->lB,listUpdate->vM
open PySem.Builtin renaming bitXor->cY,bitNot->gn,bitAnd->gP
open PySem.PyData.dict renaming inj->dg,injEq->rK
open PySem.PassesOwn renaming never->dN
open Ne renaming symm->dW
open PySem.Heap.SameBut renaming update->eF,refl->mI
open PySem.Builtin.Dict_items renaming ownedTupleIsFree->fg,ownsTuple->gG,ownedTupleFields->h8,pairFromOwner->iU,newIterator->sM,dictOf->uE
open List.Perm renaming append_left->fv,trans->kF,append_right->nM,refl->tX
open PySem.Builtin.Slice renaming slicePlaces->fx,sliceAdjust->g7,sliceApplied->lN,slicePartIndex->tf,sliceFields->uA
open And renaming intro->fD
open Prod renaming ext->fJ
open Function renaming comp_def->fL,comp->pO
open PySem.Paired renaming length->fP
open PySem.Builtin.Tuple renaming tupleExact->fQ,tupleItemsOf->lO,tupleCompareSizes->se,tupleIsExact->tZ,tupleHashOf->uC
open PySem.Builtin.Int renaming intBits->fZ
open PySem.Code renaming quiet_builtin->gz
open PySem.Around renaming under_plainId->gU
open PySem.Calls renaming call_function_entry->g9,callWith_builtin->iK,Name_function_global->lD,call_len_list->pd,spliced_cons->pQ,spliced_nil->rE
open List.cons renaming inj->h7,injEq->tm
open True renaming intro->ip
open PySem.SeqAt.EqAt renaming int_int->iu
open Or renaming inl->iA
open PySem.SetTable.below renaming go->iV
open PySem.W.Hook renaming none->ka,obs->xZ,val->x6
open Sum renaming inl->kb,inr->o7
open PySem.Setting renaming mk->mh
open List.Pairwise renaming nil->mG,imp_of_mem->mU,sublist->oq,filterMap->vV,and->AE,map->AU
open PySem.Builtin.Dict renaming addKeywords->mX,updateFrom->nB,showsAll->oz,selfAndRest->vt,pairItems->wz,noArgs->yp
open PySem.W.RowW renaming records->n0
open Prod.mk renaming inj->oZ,injEq->vh
open PySem.Shared renaming TypeIs->pM,heap->xM
open PySem.SeqAt renaming EqAt->pS
open PySem.PyData.list renaming injEq->rL
open PySem.SetTable.probe renaming go->rY
open PySem.pickOrder renaming go->r8
open PySem.Txt renaming slice->sI
open PySem.Heap.DictOfH renaming new->sJ
open Array.Perm renaming refl->tz
open PySem.PyData.int renaming inj->t8
open PySem.Builtin.Frozenset renaming oneOther->ud,addrOf->vA,sizeOf->vD
open PySem.EqNone renaming eq_none_none->ug,eq_none_bool->uh,eq_bool_none->uj,ne_none_none->uq,ne_none_bool->ur,ne_bool_none->uu,eq_none_int->uN,eq_none_str->uO,eq_int_none->uP,eq_str_none->uR,ne_none_int->uT,ne_none_str->uU,ne_int_none->uV,ne_str_none->uX
open PySem.EqMixed renaming eq_bool_str->um,eq_str_bool->uo,ne_bool_str->uw,ne_str_bool->uz,eq_int_str->uQ,eq_str_int->uS,ne_int_str->uW,ne_str_int->uY
open PyProof.Rows.LSm renaming kept_iter->vd
open PySem.Builtin.Range renaming rangeSize->vJ
open PySem.Heap.IsSliceOf renaming new->yM
open PySem.W.WShape renaming has->yU
open PySem.Walks renaming list->yW
open PyProof.Rows.SortSt renaming mk'->yZ
open PySem.Heap.IsTuple renaming push->AF
open PySem.Flow renaming next->A4
open PySem.W.WData renaming int->Bo
open PySem.Heap.IsList renaming push->Bu
open PySem.PyData.tuple renaming inj->BF
open PySem.Data renaming func->BH
local macro_rules | `(tactic| walk_at "V") => `(tactic| first | exact Or.inl rfl | exact Or.inr (Or.inl rfl) | exact Or.inr (Or.inr rfl))
local macro_rules | `(tactic| walk_at "F") => `(tactic| first | exact .inl rfl | exact .inr rfl | assumption)
abbrev qF:=PySem.W.Frag
abbrev qB:=List (Int×Int)
abbrev qN:=vY->Nat->Prop
abbrev qM:=PySem.Str->Option xf
abbrev qV:=xf->PySem.Shared->Prop
abbrev qD:=List vY
abbrev qO:=List (PySem.Addr×PySem.Obj)
set_option Elab.async false
set_option linter.all false
set_option maxRecDepth 100000
set_option maxHeartbeats 4000000
namespace L2
open PySem PySem.Spec PyProof.Rows
abbrev Key:=Sum Int Str
def Ug:Key->af->Bool
 | .inl k,v=>kg k v
 | .inr x,v=>uK x v
def keyH(w:a7):Key->Int
 | .inl k=>hashInt k
 | .inr x=>hashStr w x
theorem QD:∀{k:Key}{v:af},Ug k v=true->(∃i t,k=kb i/\v=iY i t)\/(∃x t,k=o7 x/\v=sr x t)
 | .inl i,v,h=>by obtain⟨t,e⟩:=rg (k:=i) (v:=v) h;exact .inl ⟨i,t,rfl,e⟩
 | .inr x,v,h=>by obtain⟨t,e⟩:=Value.isStrOf_shape (x:=x) (v:=v) h;exact .inr ⟨x,t,rfl,e⟩
theorem zdL(i:Int)(t:Tok):Ug (.inl i) (.int i t)=true:=by simp[Ug,kg]
theorem zkC(x:Str)(t:Tok):Ug (.inr x) (.str x t)=true:=by simp[Ug,uK]
theorem zqQ(a b:Int):decide ((kb a:Key)=kb b)=(a == b):=by by_cases e:a=b;subst e;simp;have h:¬(kb a:Key)=kb b:=fun q=>e (Sum.inl.inj q);rw[decide_eq_false h];exact(beq_eq_false_iff_ne.mpr e).symm
theorem zqN(a b:Str):decide ((o7 a:Key)=o7 b)=decide (a=b):=by by_cases e:a=b;subst e;simp;have h:¬(o7 a:Key)=o7 b:=fun q=>e (Sum.inr.inj q);rw[decide_eq_false h,decide_eq_false e]
theorem zqP(a:Int)(b:Str):decide ((kb a:Key)=o7 b)=false:=decide_eq_false (fun q=>nomatch q)
theorem zqO(a:Str)(b:Int):decide ((o7 a:Key)=kb b)=false:=decide_eq_false (fun q=>nomatch q)
def Ju(prog:aJ)(w:a7):pG prog w Key where
 is:=Ug
 hash:=keyH w
 inj:=fun v a b C o=>by rcases QD C with⟨i,t,rfl,rfl⟩|⟨x,t,rfl,rfl⟩;rcases QD o with⟨j,u,rfl,e⟩|⟨y,u,rfl,e⟩;injection e with e1 _;rw[e1];exact nomatch e;rcases QD o with⟨j,u,rfl,e⟩|⟨y,u,rfl,e⟩;exact nomatch e;injection e with e1 _;rw[e1]
 byValue:=fun k v h=>by rcases QD h with⟨i,t,rfl,rfl⟩|⟨x,t,rfl,rfl⟩ <;> rfl
 pyHash:=fun l h=>by rcases QD l with⟨i,t,rfl,rfl⟩|⟨x,t,rfl,rfl⟩;exact wpAny_pyHash_int h;exact wpAny_pyHash_str h
 eqBool:=fun G l h=>by rcases QD G with⟨i,t,rfl,rfl⟩|⟨x,t,rfl,rfl⟩;rcases QD l with⟨j,u,rfl,rfl⟩|⟨y,u,rfl,rfl⟩;rw[zqQ]at h;exact wpAny_eqBool_int h;rw[zqP]at h;exact SeqAt.EqAt.int_str i t y u _ _ _ _ h;rcases QD l with⟨j,u,rfl,rfl⟩|⟨y,u,rfl,rfl⟩;rw[zqO]at h;exact SeqAt.EqAt.str_int x t j u _ _ _ _ h;rw[zqN]at h;exact wpAny_eqBool_str h
 «strs»:=fun k x t v h=>by rcases QD h with⟨i,u,rfl,e⟩|⟨y,u,rfl,e⟩;exact nomatch e;injection e with e1 _;subst e1;cases v <;> rfl
theorem zgG(prog:aJ)(w:a7)(i:Int)(t:Tok):(Ju prog w).is (.inl i) (.int i t)=true:=zdL i t
theorem zgF(prog:aJ)(w:a7)(x:Str)(t:Tok):(Ju prog w).is (.inr x) (.str x t)=true:=zkC x t
inductive V where
 | non|bl (b:Bool)|int (i:Int)|str (x:Str)|byt (b:Array UInt8)|flt (b:UInt64)|ref (a:aj)|ty (n:String)
 deriving DecidableEq
def RelV:V->af->Prop
 | .non,u=>u=dO
 | .bl b,u=>u=iZ b
 | .int i,u=>∃t,u=iY i t
 | .str x,u=>∃t,u=sr x t
 | .byt b,u=>∃t,u=Value.bytes b t
 | .flt b,u=>∃t,u=xg b t
 | .ref a,u=>u=aO a
 | .ty n,u=>u=a8 n
abbrev Vals:List V->List af->Prop:=bR RelV
theorem Vals.length{xs:List V}{l:List af}(r:Vals xs l):xs.length=l.length:=fP r
theorem Vals.get:∀{xs:List V}{v:List af}{i:Nat}{x:V},Vals xs v->xs[i]?=some x->∃u,v[i]?=some u/\RelV x u
 | _,_,_,_,.nil,e=>by simp at e
 | _,_,0,_,.cons r _,e=>by simp at e;subst e;exact⟨_,rfl,r⟩
 | _,_,i+1,x,.cons _ t,e=>by obtain⟨u,h1,y⟩:=Vals.get (i:=i) (x:=x) t (by simpa using e);exact⟨u,by simpa using h1,y⟩
theorem Vals.set{x:V}{u:af}(r:RelV x u):∀{xs:List V}{v:List af} (i:Nat),Vals xs v->Vals (xs.set i x) (v.set i u)
 | _,_,_,.nil=>.nil
 | _,_,0,.cons _ t=>.cons r t
 | _,_,i+1,.cons q t=>.cons q (Vals.set r i t)
theorem Vals.append{xs ys:List V}{l u:List af}(h:Vals xs l)(s:Vals ys u):Vals (xs++ys) (l++u):=by
 induction h with
 | nil=>exact s
 | cons r _ v=>exact .cons r v
theorem Vals.take:∀{xs:List V}{u:List af} (n:Nat),Vals xs u->Vals (xs.take n) (u.take n)
 | _,_,0,_=>.nil
 | _,_,_+1,.nil=>.nil
 | _,_,n+1,.cons r t=>.cons r (Vals.take n t)
theorem Vals.drop:∀{xs:List V}{u:List af} (n:Nat),Vals xs u->Vals (xs.drop n) (u.drop n)
 | _,_,0,r=>r
 | _,_,_+1,.nil=>.nil
 | _,_,n+1,.cons _ t=>Vals.drop n t
def RelO:Option V->Option af->Prop
 | some v,some u=>RelV v u
 | none,none=>True
 | _,_=>False
def KV{l:Type}:List (l×V)->List (l×af)->Prop:=bR fun(p:l×V) (q:l×af)=>p.1=q.1/\RelV p.2 q.2
def kV:Key->V
 | .inl i=>.int i
 | .inr x=>.str x
inductive HO where
 | lst (xs:List V)
 | tup (xs:List V)
 | dK (kvs:List (Key×V))|dT (kvs:List (List Key×V))
 | set (S:Int->Bool) (n:Nat)
 | ins (C dx:aj) (fs:List (Str×V))
 | own (x:aj)
 | xd (fs:List (Str×V))
 | met (f x:aj)
 | rng (lo hi:Int)
 | frz (o:Obj) (u:HO)
 | tbl (q:Str)
 | ext (φ:aW->Prop)
abbrev Hp:=aj->Option HO
def upd(H:Hp)(a:aj)(o:HO):Hp:=fun b=>if b=a then some o else H b
theorem Jo{H:Hp}{a:aj}{o:HO}:upd H a o a=some o:=by unfold upd;rw[if_pos rfl]
theorem Jc{H:Hp}{a b:aj}{o:HO}(h:b≠a):upd H a o b=H b:=by unfold upd;rw[if_neg h]
theorem Qg{H:Hp}{a b:aj}{o:HO}(h:H a=some o)(h':H b=none):a≠b:=by intro e;subst e;rw[h]at h';cases h'
def IsTD(h:aW)(a:aj)(items:Array af):Prop:=∃o,h.get? a=some o/\o.cls=.type "tuple" /\ (∃n,o.data=.seq items n)/\o.dict=none
theorem IsTD.tup{h:aW}{a:aj}{items:Array af}(x:IsTD h a items):rh h a items:=by obtain⟨o,e,c,d,_⟩:=x;exact⟨o,e,c,d⟩
theorem IsTD.lt{h:aW}{a:aj}{items:Array af}(x:IsTD h a items):a<h.objs.size:=x.tup.lt
theorem IsTD.new(h:aW)(items:Array af):IsTD (h.push { cls:=.type "tuple",data:=.seq items }) h.objs.size items:=⟨_,ax _ rfl,rfl,⟨_,rfl⟩,rfl⟩
def TabOk(H:Hp)(q:Str)(ps:Array af):Prop:=vH ps.toList/\∀(pos:Pos) (v:af),codeAmong pos ps.toList=some v->∃(c:aj) (o:Obj) (u:HO) (vs:Array af) (t:Tok),v=.ref c/\H c=some (.frz o u)/\o.data=.fields vs/\vs[1]?=some (.str q t)
section
variable(P:aJ)(w:a7)
def Jx(H:Hp)(h:aW)(a:aj):HO->Prop
 | .lst xs=>xs.length<=sizeLine/\∃(its:List af) (n:Nat),Vals xs its/\h.get? a=some { cls:=.type "list",data:=.seq its.toArray n }
 | .tup xs=>xs.length<=sizeLine/\∃its:List af,Vals xs its/\IsTD h a its.toArray
 | .dK G=>G.length<=sizeLine/\(a == sysModules)=false/\∃vs,KV G vs/\h.DictOf (Ju P w) a vs
 | .dT G=>G.length<=sizeLine/\(a == sysModules)=false/\∃xs:List (List Key×aj×af),
   bR (fun(p:List Key×V) (q:List Key×aj×af)=>p.1=q.1/\H q.2.1=some (.tup (p.1.map kV))/\RelV p.2 q.2.2) G xs /\
   ∃o es ep,h.get? a=some o/\o.ExactDict/\o.data=.dict es ep/\es.toList=xs.map (entryOfKey (tupleKind (Ju P w)))/\(xs.map (·.1)).Nodup
 | .set S n=>h.SetOf (intKind P w) a S n
 | .ins C J fs=>H J=some (.own a)/\fs.length<=1000/\J≠a/\h.get? a=some (n8 C J) /\
   ∃I,h.Ns1 J I/\(∀f,RelO (fs.lookup f) (I f))/\vZ I (fs.map (·.1))
 | .own _=>∃o,h.get? a=some o
 | .xd fs=>∃I,h.Ns1 a I/\∀f,RelO (fs.lookup f) (I f)
 | .rng lo hi=>∃t u v,h.get? a=some { cls:=.type "range",data:=.fields #[.int lo t,.int hi u,.int 1 v] }
 | .frz o u=>h.get? a=some o/\Jx H h a u
 | .tbl q=>∃ps:Array af,h.get? a=some { cls:=.none,data:=.fields ps }/\TabOk H q ps
 | .met f x=>h.get? a=some (mC (.ref f) (.ref x))
 | .ext L=>L h/\(∃o,h.get? a=some o)/\∀h1 R:aW,L h1->(∀o,h1.get? a=some o->R.get? a=some o)->L R
def HOk(H:Hp)(h:aW):Prop:=∀a o,H a=some o->Jx P w H h a o
end
section
variable{P:aJ}{w:a7}{H H':Hp}{h h':aW}{a:aj}{o:HO}
theorem Jx.lt(x:Jx P w H h a o):a<h.objs.size:=by
 cases o with
 | lst xs=>obtain⟨_,_,_,_,e⟩:=x;exact aw e
 | tup xs=>obtain⟨_,_,_,p⟩:=x;exact p.lt
 | dK l=>obtain⟨_,_,_,_,o,_,_,e,_⟩:=x;exact aw e
 | dT l=>obtain⟨_,_,_,_,o,_,_,e,_⟩:=x;exact aw e
 | set S n=>obtain⟨o,_,_,_,e,_⟩:=x;exact aw e
 | ins C I fs=>obtain⟨_,_,_,e,_⟩:=x;exact aw e
 | own y=>obtain⟨_,e⟩:=x;exact aw e
 | xd fs=>obtain⟨_,⟨_,_,_,e,_⟩,_⟩:=x;exact aw e
 | rng lo hi=>obtain⟨_,_,_,e⟩:=x;exact aw e
 | frz G u=>obtain⟨e,_⟩:=x;exact aw e
 | tbl q=>obtain⟨_,e,_⟩:=x;exact aw e
 | met f y=>exact aw (show h.get? a=some _ from x)
 | ext v=>obtain⟨_,⟨_,e⟩,_⟩:=x;exact aw e
theorem Paired.mapP{α u:Type}{F G:α->u->Prop}{l₁:List α}{l₂:List u}(h:bR F l₁ l₂)(f:∀a b,F a b->G a b):bR G l₁ l₂:=by
 induction h with
 | nil=>exact .nil
 | cons r _ v=>exact .cons (f _ _ r) v
theorem Jx.stay(x:Jx P w H h a o)(k:∀b u,(b=a\/H b=some (.own a))->h.get? b=some u->h'.get? b=some u)
  (R:∀b,H b=some (.own a)->H' b=some (.own a)) (U:∀b xs,H b=some (.tup xs)->H' b=some (.tup xs)) (hf:∀b G u,H b=some (.frz G u)->H' b=some (.frz G u)):Jx P w H' h' a o:=by
 induction o with
 | lst xs=>obtain⟨z,its,n,r,e⟩:=x;exact⟨z,its,n,r,k _ _ (.inl rfl) e⟩
 | tup xs=>obtain⟨z,its,r,G,e,c⟩:=x;exact⟨z,its,r,G,k _ _ (.inl rfl) e,c⟩
 | dK L=>obtain⟨z,y,vs,r,G,es,ep,e,c⟩:=x;exact⟨z,y,vs,r,G,es,ep,k _ _ (.inl rfl) e,c⟩
 | dT L =>obtain⟨z,y,xs,r,G,es,ep,e,c⟩:=x;exact⟨z,y,xs,Paired.mapP r fun p q z=>⟨z.1,U _ _ z.2.1,z.2.2⟩,G,es,ep,k _ _ (.inl rfl) e,c⟩
 | set S n=>obtain⟨G,es,ep,t,e,c⟩:=x;exact⟨G,es,ep,t,k _ _ (.inl rfl) e,c⟩
 | ins C dx fs =>obtain⟨d,z,ne,e,N,⟨I,es,ep,J,c⟩,r⟩:=x;exact⟨R _ d,z,ne,k _ _ (.inl rfl) e,N,⟨I,es,ep,k _ _ (.inr d) J,c⟩,r⟩
 | own y=>obtain⟨G,e⟩:=x;exact⟨G,k _ _ (.inl rfl) e⟩
 | xd fs=>obtain⟨N,⟨I,es,ep,e,c⟩,r⟩:=x;exact⟨N,⟨I,es,ep,k _ _ (.inl rfl) e,c⟩,r⟩
 | rng lo hi=>obtain⟨t,u,v,e⟩:=x;exact⟨t,u,v,k _ _ (.inl rfl) e⟩
 | frz G u Z=>obtain⟨e,q⟩:=x;exact⟨k _ _ (.inl rfl) e,Z q⟩
 | tbl q =>obtain⟨ps,e,z,r⟩:=x;refine⟨ps,k a _ (.inl rfl) e,z,fun pos Y m=>?_⟩;obtain⟨c,o,u,vs,t,e1,J,e3⟩:=r pos Y m;exact⟨c,o,u,vs,t,e1,hf _ _ _ J,e3⟩
 | met f y =>have e:h.get? a=some (mC (.ref f) (.ref y)):=x;show h'.get? a=some (mC (.ref f) (.ref y));exact k a _ (.inl rfl) e
 | ext φ=>obtain⟨p,⟨o,e⟩,st⟩:=x;exact⟨st _ _ p fun o q=>k _ _ (.inl rfl) q,⟨o,k _ _ (.inl rfl) e⟩,st⟩
theorem HOk.lt(x:HOk P w H h)(e:H a=some o):a<h.objs.size:=(x a o e).lt
theorem HOk.fresh(x:HOk P w H h)(e:h.objs.size<=a):H a=none:=by
 cases q:H a with
 | none=>rfl
 | some u=>exact absurd (aB (x.lt q) e) (hY _)
theorem HOk.kept(x:HOk P w H h)(k:∀b u,h.get? b=some u->h'.get? b=some u):HOk P w H h':=fun a o e =>
 (x a o e).stay (fun b u _ q=>k b u q) (fun _ q=>q) (fun _ _ q=>q) fun _ _ _ q=>q
theorem HOk.laid(x:HOk P w H h)(k:∀b u,h.get? b=some u->h'.get? b=some u)(C:h.objs.size<=a)(new:Jx P w (upd H a o) h' a o):HOk P w (upd H a o) h':=fun b u e=>by have l:=x.fresh C;by_cases hb:b=a;subst hb;rw[Jo]at e;cases e;exact new;rw[Jc hb]at e;exact(x b u e).stay (fun c v _ q=>k c v q) (fun c q=>by rw[Jc (Qg q l)];exact q) (fun c xs q=>by rw[Jc (Qg q l)];exact q) fun c G xs q=>by rw[Jc (Qg q l)];exact q
end
def Rd(H:Hp)(a:aj)(u:HO):Prop:=H a=some u\/∃o,H a=some (.frz o u)
theorem Rd.ok{P:aJ}{w:a7}{H:Hp}{h:aW}{a:aj}{u:HO}(r:Rd H a u)(x:HOk P w H h):Jx P w H h a u:=by rcases r with r|⟨o,r⟩;exact x a u r;obtain⟨_,q⟩:=x a _ r;exact q
def Mut:Option HO->Prop
 | some (.lst _)=>True
 | some (.dK _)=>True
 | some (.dT _)=>True
 | some (.set _ _)=>True
 | some (.ins _ _ _)=>True
 | some (.ext _)=>True
 | _=>False
section
variable{P:aJ}{w:a7}{H:Hp}{h h':aW}{x e:aj}{o':HO}
theorem HOk.write(ok:HOk P w H h)(l:Mut (H x))(he:e=x\/H e=some (.own x))(k:∀b u,b≠e->h.get? b=some u->h'.get? b=some u)(J:∃u,h'.get? e=some u)
  (new:Jx P w (upd H x o') h' x o'):HOk P w (upd H x o') h':=fun b u q=>by
 have N:∀c y,H c=some (.own y)->c≠x:=fun c y r z=>by subst z;rw[r]at l;exact l
 have C:∀c xs,H c=some (.tup xs)->c≠x:=fun c xs r z=>by subst z;rw[r]at l;exact l
 have G:∀c I xs,H c=some (.frz I xs)->c≠x:=fun c I xs r z=>by subst z;rw[r]at l;exact l
 by_cases hb:b=x;subst hb;rw[Jo]at q;cases q;exact new;rw[Jc hb]at q;by_cases hbe:b=e;have L:H b=some (.own x):=by rcases he with z|z;exact absurd (hbe.trans z) hb;rw[hbe];exact z
 rw[q]at L;cases L;obtain⟨v,R⟩:=J;exact⟨v,by rw[hbe];exact R⟩;refine(ok b u q).stay (fun c v hc r=>k c v ?_ r) (fun c r=>by rw[Jc (N c b r)];exact r) (fun c xs r=>by rw[Jc (C c xs r)];exact r) fun c I xs r=>by rw[Jc (G c I xs r)];exact r
 rcases hc with rfl|hc;exact hbe;rintro rfl;rcases he with z|z;exact N c b hc z;rw[hc]at z;cases z;exact hb rfl
end
structure Un(fs ex:List aj)(H H':Hp)(h h':aW):Prop where
 keep:∀b o,h.get? b=some o->H b=none->b∉fs->b∉ex->h'.get? b=some o
 slot:∀b o,h.get? b=some o->H b=none->b∈fs->b∉ex->∃sl,h'.get? b=some { o with slots:=sl }
 free:∀b o,h.get? b=some o->H b=none->b∉ex->H' b=none
 there:∀b o,h.get? b=some o->b∉ex->∃o',h'.get? b=some o'
 tups:∀b xs,H b=some (.tup xs)->H' b=some (.tup xs)
 frzs:∀b o u,H b=some (.frz o u)->H' b=some (.frz o u)
 tbls:∀b q,H b=some (.tbl q)->H' b=some (.tbl q)
section
variable{fs fs' ex ex':List aj}{H H1 H2:Hp}{h h1 h2 h':aW}{a x e:aj}{o:HO}
theorem Un.any(u:Un fs ex H H1 h h1){b:aj}{l:Obj}(q:h.get? b=some l)(n:H b=none)(hx:b∉ex):∃v,h1.get? b=some { l with slots:=v }:=by by_cases hb:b∈fs;exact u.slot b l q n hb hx;exact⟨l.slots,u.keep b l q n hb hx⟩
theorem Un.kept(k:∀b u,h.get? b=some u->h'.get? b=some u):Un fs ex H H h h' :=
 ⟨fun b l q _ _ _=>k b l q,fun b l q _ _ _=>⟨l.slots,k b l q⟩,fun _ _ _ n _=>n,fun b l q _=>⟨l,k b l q⟩,fun _ _ q=>q,fun _ _ _ q=>q,fun _ _ q=>q⟩
theorem Un.refl:Un fs ex H H h h:=Un.kept fun _ _ q=>q
theorem Un.laid(k:∀b u,h.get? b=some u->h'.get? b=some u)(v:h.objs.size<=a)(l:H a=none):Un fs ex H (upd H a o) h h' where
 keep:=fun b u q _ _ _=>k b u q
 slot:=fun b u q _ _ _=>⟨u.slots,k b u q⟩
 free:=fun b u q n _=>by rw[Jc (aA (aB (aw q) v))];exact n
 there:=fun b u q _=>⟨u,k b u q⟩
 tups:=fun b xs q=>by rw[Jc (Qg q l)];exact q
 frzs:=fun b u xs q=>by rw[Jc (Qg q l)];exact q
 tbls:=fun b ps q=>by rw[Jc (Qg q l)];exact q
theorem Un.write(l:Mut (H x))(he:e=x\/H e=some (.own x))(k:∀b u,b≠e->h.get? b=some u->h'.get? b=some u)(y:∃u,h'.get? e=some u):Un fs ex H (upd H x o) h h':=by
 have hx:∀b,H b=none->b≠x:=fun b n z=>by subst z;rw[n]at l;exact l
 have C:∀b,H b=none->b≠e:=fun b n z=>by subst z;rcases he with r|r;exact hx b n r;rw[n]at r;cases r
 have v:∀b u,H b=some u->¬Mut (some u)->b≠x:=fun b u q nm z=>by subst z;rw[q]at l;exact nm l
 refine⟨fun b u q n _ _=>k b u (C b n) q,fun b u q n _ _=>⟨u.slots,k b u (C b n) q⟩,fun b u q n _=>by rw[Jc (hx b n)];exact n,fun b u q _=>?_,
  fun b xs q=>by rw[Jc (v b _ q fun z=>z)];exact q,fun b u xs q=>by rw[Jc (v b _ q fun z=>z)];exact q,fun b ps q=>by rw[Jc (v b _ q fun z=>z)];exact q⟩
 by_cases hbe:b=e;subst hbe;exact y;exact⟨u,k b u hbe q⟩
end
def trk(h:aW)(H:Hp):List aj:=(eJ h.objs.size).filter fun a=>(H a).isSome
def hidT(h:aW)(H:Hp):aW:=PySem.W.hideAll h (trk h H)
theorem zkO(h:aW)(H:Hp):(hidT h H).objs.size=h.objs.size:=PySem.W.hideAll_size _ _
theorem zmG{h:aW}{H:Hp}{b:aj}{o:Obj}(e:h.get? b=some o)(n:H b=none):(hidT h H).get? b=some o :=
 PySem.W.hideAll_get _ e fun l=>by have q:(H b).isSome=true:=(fA.mp l).2;rw[n]at q;simp at q
theorem zoq{h:aW}{H:Hp}{b:aj}{o:Obj}(e:(hidT h H).get? b=some o):h.get? b=some o/\H b=none:=by
 have l:h.get? b=some o:=PySem.W.of_hideAll (trk h H) e;refine⟨l,?_⟩;cases q:H b with
 | none=>rfl
 | some x =>have u:b∈trk h H:=fA.mpr ⟨lC.mpr (aw l),by simp[q]⟩;have z:(hidT h H).get? b=none:=PySem.W.hideAll_none (trk h H) u;rw[z]at e;cases e
structure Mod(K:qF)(mg:qM)(base:aW):Prop where
 kin:K.In base
 glob:base.Ns mainGlobals mg
 blt:∃mb,base.Ns builtinsNs mb/\∀x:Str,x ≠ "__name__" -> mb x=bootBuiltins x
 nolimit:base.NoLimit
structure Cx where
 prog:aJ
 w:a7
 K:qF
 mg:Str->Option af
 base:aW
 A:aX
 N:List Str
 s₀:aq
 H₀:Hp
 env:Env
 outer:List Env
 stack:List Env
 ex:List aj
 fn:Str->Bool
 calm:Bool
 pn:List (aj×Obj)
 xe:af->aq->Prop
def frs(l:List Env):List aj:=l.filterMap (·.frame)
abbrev Cx.fs(X:Cx):List aj:=frs X.outer
def Vis(sc:e8)(x:Str):Prop:=sc.names.lookup x=some .local\/sc.names.lookup x=some .cell\/sc.names.lookup x=some .free
def Loc(sc:e8)(x:Str):Prop:=sc.names.lookup x=some .local\/sc.names.lookup x=some .cell
def Look(env:Env)(h:aW)(m:qM)(x:Str)(u:af):Prop :=
 (env.kindOf x=some .local/\m x=some u)\/((env.kindOf x=some .cell\/env.kindOf x=some .free)/\∃c,env.cells.lookup x=some c/\h.IsCell c (some u))
structure Cx.Ok(X:Cx):Prop where
 mod:Mod X.K X.mg X.base
 kind:X.env.scope.kind=.function
 glob:X.env.globals=mainGlobals
 blt:X.env.builtins=builtinsNs
 above:X.s₀.heap.objs.size<=X.env.locals
 inj:∀x y c,X.env.cells.lookup x=some c->X.env.cells.lookup y=some c->x=y
 has:∀x,(X.env.kindOf x=some .cell\/X.env.kindOf x=some .free)->∃c,X.env.cells.lookup x=some c
 cab:∀x c,X.fn x=true->X.env.cells.lookup x=some c->X.s₀.heap.objs.size<=c
 hd:X.calm=true->X.A.handled=none
 frames:X.A.frames=some X.stack
 stk:X.stack=X.outer\/(X.stack=X.env::X.outer/\X.env.frame=some X.env.locals)
 exf:∀b∈X.ex,b≠X.env.locals/\∀x c,X.env.cells.lookup x=some c->c≠b
 bs:∀b o,X.base.get? b=some o->X.s₀.heap.get? b=some o/\X.H₀ b=none
 bsz:X.base.objs.size<=X.s₀.heap.objs.size
 noex:∀b o,X.base.get? b=some o->b∉X.ex
 exfs:∀b∈X.ex,b∉X.fs
 funs:X.s₀.heap.FunFrames X.base X.outer
 frf:∀b∈X.fs,X.H₀ b=none
structure Inv(X:Cx)(pins:qO)(σ:List (Option V))(H:Hp)(s:aq):Prop where
 ok:X.Ok
 os:s.os=X.s₀.os
 bare:kZ s.gens
 base:Un X.fs X.ex X.H₀ H X.s₀.heap s.heap
 loc:∃m,s.heap.Ns X.env.locals m/\∀(i:Nat) (x:Str) (v:V),X.N[i]?=some x->σ[i]?=some (some v)->Vis X.env.scope x->∃u,RelV v u/\Look X.env s.heap m x u
 cell:∀x c,X.env.cells.lookup x=some c->∃v,s.heap.IsCell c v
 free:H X.env.locals=none
 freeC:∀x c,X.env.cells.lookup x=some c->H c=none
 pin:∀p∈X.pn++pins,s.heap.get? p.1=some p.2/\H p.1=none/\p.1≠X.env.locals/\p.1∉X.fs/\∀v,p.2.data≠.cell v
 hok:HOk X.prog X.w H s.heap
 len:σ.length=X.N.length
section
variable{X:Cx}{pins:qO}{σ:List (Option V)}{H H':Hp}{s:aq}{h':aW}
theorem Cx.Ok.nofr(ok:X.Ok){b:aj}{o:Obj}(e:X.base.get? b=some o):b∉X.fs:=fun l=>by have:=(ok.funs.mem l).1;rw[e]at this;cases this
theorem Inv.bs(I:Inv X pins σ H s):∀b o,X.base.get? b=some o->s.heap.get? b=some o/\H b=none:=fun b o e =>
 ⟨I.base.keep b o (I.ok.bs b o e).1 (I.ok.bs b o e).2 (I.ok.nofr e) (I.ok.noex b o e),I.base.free b o (I.ok.bs b o e).1 (I.ok.bs b o e).2 (I.ok.noex b o e)⟩
theorem Inv.bk(I:Inv X pins σ H s):∀b o,X.base.get? b=some o->s.heap.get? b=some o:=fun b o e=>(I.bs b o e).1
theorem Inv.mod(I:Inv X pins σ H s):Mod X.K X.mg X.base:=I.ok.mod
theorem Inv.kIn(I:Inv X pins σ H s):X.K.In s.heap:=I.ok.mod.kin.keeps I.bk
theorem Inv.lt(I:Inv X pins σ H s):X.env.locals<s.heap.objs.size:=let ⟨_,hn,_⟩:=I.loc;hn.lt
theorem Inv.sz(I:Inv X pins σ H s):X.s₀.heap.objs.size<=s.heap.objs.size:=bZ I.ok.above (fc I.lt)
theorem Inv.nofs(I:Inv X pins σ H s){a:aj}(h:s.heap.objs.size<=a):a∉X.fs:=fun u=>by obtain⟨_,o,l,_⟩:=I.ok.funs.mem u;exact absurd (aB (aw l) (bZ I.sz h)) (hY _)
theorem Inv.cne(I:Inv X pins σ H s):∀x c,X.env.cells.lookup x=some c->c≠X.env.locals:=fun x c e z=>by obtain⟨v,o,y,hd⟩:=I.cell x c e;obtain⟨m,⟨C,es,ep,l,u,_⟩,_⟩:=I.loc;rw[z,l]at y;cases y;rw[u]at hd;cases hd
theorem Inv.funs(I:Inv X pins σ H s):s.heap.FunFrames X.base X.outer:=by
 have all:∀(l:List Env),(∀b∈frs l,b∈X.fs)->X.s₀.heap.FunFrames X.base l->s.heap.FunFrames X.base l:=by
  intro l;induction l with
  | nil=>intro _ _;trivial
  | cons env r C =>intro x G;obtain⟨J,⟨L,o,hf,R,y,hd⟩,N⟩:=G;have u:L∈X.fs:=x L (by unfold frs;rw[eE,hf];exact cM);obtain⟨S,e⟩:=I.base.slot L o y (I.ok.frf L u) u fun z=>I.ok.exfs L z u;exact⟨J,⟨L,_,hf,R,e,hd⟩,C (fun b v=>x b (by unfold frs;rw[eE,hf];exact b8 _ v)) N⟩
 exact all X.outer (fun _ v=>v) I.ok.funs
theorem Inv.stack(I:Inv X pins σ H s):s.heap.FunFrames X.base X.stack:=by rcases I.ok.stk with e|⟨e,hf⟩;rw[e];exact I.funs;rw[e];obtain⟨m,l,_⟩:=I.loc;refine .cons (by rw[I.ok.kind];decide) hf l ?_ I.funs;exact Heap.get?_none_of_le (bZ I.ok.bsz I.ok.above)
theorem Inv.stkSub(I:Inv X pins σ H s):∀b∈frs X.stack,b∈X.env.locals::X.fs:=fun b l=>by rcases I.ok.stk with e|⟨e,hf⟩;rw[e]at l;exact b8 _ l;rw[e]at l;unfold frs at l;rw[eE,hf]at l;exact l
theorem Inv.stkFree(I:Inv X pins σ H s):∀b∈frs X.stack,H b=none:=fun b l=>by rcases au.mp (I.stkSub b l) with e|l;rw[e];exact I.free;obtain⟨_,o,u,_⟩:=I.ok.funs.mem l;exact I.base.free b o u (I.ok.frf b l) fun z=>I.ok.exfs b z l
theorem Inv.step{g':Array GenState}{t':Nat}{d':Drawn}{ch:List aj}(I:Inv X pins σ H s)
  (y:∀b∈ch,(b∈X.ex\/X.s₀.heap.objs.size<=b)/\b≠X.env.locals/\(∀x c,X.env.cells.lookup x=some c->c≠b)/\∀p∈X.pn++pins,p.1≠b)
  (keep:∀b o,b≠X.env.locals->b∉X.fs->b∉ch->s.heap.get? b=some o->H b=none->h'.get? b=some o)
  (slot:∀b o,b≠X.env.locals->b∈X.fs->b∉ch->s.heap.get? b=some o->H b=none->∃Z,h'.get? b=some { o with slots:=Z }) (free:∀b o,b∉ch->s.heap.get? b=some o->H b=none->H' b=none)
  (there:∀b o,b∉ch->s.heap.get? b=some o->∃S,h'.get? b=some S)
  (tups:∀b xs,H b=some (.tup xs)->H' b=some (.tup xs)) (frzs:∀b o u,H b=some (.frz o u)->H' b=some (.frz o u)) (tbls:∀b q,H b=some (.tbl q)->H' b=some (.tbl q))
  (ns:∀m,s.heap.Ns X.env.locals m->h'.Ns X.env.locals m) (hok:HOk X.prog X.w H' h') (hg:kZ g') :
  Inv X pins σ H' { s with heap:=h',gens:=g',drawn:=d',toks:=t' }:=by
 have R:∀b o,X.s₀.heap.get? b=some o->b≠X.env.locals:=fun b o e=>aA (aB (aw e) I.ok.above);have G:∀b o,X.s₀.heap.get? b=some o->b∉X.ex->b∉ch:=fun b o e hx J=>by rcases(y b J).1 with z|z;exact hx z;exact absurd (aB (aw e) z) (hY _)
 have cellK:∀x c,X.env.cells.lookup x=some c->∀v,s.heap.IsCell c v->h'.IsCell c v:=fun x c e v ⟨o,N,hd⟩=>by have C:c∉ch:=fun z=>(y c z).2.2.1 x c e rfl;by_cases hc:c∈X.fs;obtain⟨Z,q⟩:=slot c o (I.cne x c e) hc C N (I.freeC x c e);exact⟨_,q,hd⟩;exact⟨o,keep c o (I.cne x c e) hc C N (I.freeC x c e),hd⟩
 refine⟨I.ok,I.os,hg,⟨fun b o e n J hx=>?_,fun b o e n J hx=>?_,fun b o e n hx=>?_,fun b o e hx=>?_,fun b xs e=>tups b xs (I.base.tups b xs e),fun b o xs e=>frzs b o xs (I.base.frzs b o xs e),fun b ps e=>?_⟩,?_,fun x c e=>?_,?_,fun x c e=>?_,fun p hp=>?_,hok,I.len⟩;exact keep b o (R b o e) J (G b o e hx) (I.base.keep b o e n J hx) (I.base.free b o e n hx);obtain⟨Z,L⟩:=I.base.slot b o e n J hx;obtain⟨Y,U⟩:=slot b _ (R b o e) J (G b o e hx) L (I.base.free b o e n hx);exact⟨Y,U⟩;obtain⟨S,L⟩:=I.base.there b o e hx;exact free b S (G b o e hx) L (I.base.free b o e n hx);obtain⟨S,L⟩:=I.base.there b o e hx;exact there b S (G b o e hx) L;exact tbls b ps (I.base.tbls b ps e);obtain⟨m,hn,hl⟩:=I.loc;refine⟨m,ns m hn,fun i x v L U e3=>?_⟩;obtain⟨u,r,l⟩:=hl i x v L U e3;refine⟨u,r,?_⟩;rcases l with l|⟨k,c,e,z⟩;exact .inl l;exact .inr ⟨k,c,e,cellK x c e _ z⟩;obtain⟨v,z⟩:=I.cell x c e;exact⟨v,cellK x c e v z⟩;obtain⟨m,⟨o,_,_,N,_⟩,_⟩:=I.loc;exact free _ o (fun z=>(y _ z).2.1 rfl) N I.free;obtain⟨v,o,N,hd⟩:=I.cell x c e;exact free c o (fun z=>(y c z).2.2.1 x c e rfl) N (I.freeC x c e);obtain⟨e,n,ne,nf,d⟩:=I.pin p hp;have C:p.1∉ch:=fun z=>(y p.1 z).2.2.2 p hp rfl;exact⟨keep p.1 p.2 ne nf C e n,free p.1 p.2 C e n,ne,nf,d⟩
theorem Inv.un{t':Nat}(I:Inv X pins σ H s)(u:Un X.fs [] H H' s.heap h')(hok:HOk X.prog X.w H' h'):Inv X pins σ H' { s with heap:=h',toks:=t' }:=by obtain⟨m,⟨o,es,ep,C,r⟩,_⟩:=id I.loc;obtain⟨S,G⟩:=u.any C I.free (by simp);exact I.step (g':=s.gens) (d':=s.drawn) (ch:=[]) (fun _ z=>nomatch z) (fun b o _ y _ e n=>u.keep b o e n y (by simp)) (fun b o _ y _ e n=>u.slot b o e n y (by simp)) (fun b o _ e n=>u.free b o e n (by simp)) (fun b o _ e=>u.there b o e (by simp)) u.tups u.frzs u.tbls (fun N L=>by obtain⟨R,x,v,l,J⟩:=L;rw[C]at l;cases l;exact⟨_,x,v,G,J⟩) hok I.bare
theorem Inv.call{g':Array GenState}{t':Nat}{d':Drawn}{ch:List aj}(I:Inv X pins σ H s)(u:Un (frs X.stack) ch H H' s.heap h')(hok:HOk X.prog X.w H' h')(S:kZ g')
  (v:∀b∈ch,(b∈X.ex\/X.s₀.heap.objs.size<=b)/\b≠X.env.locals/\(∀x c,X.env.cells.lookup x=some c->c≠b)/\∀p∈X.pn++pins,p.1≠b) :
  Inv X pins σ H' { s with heap:=h',gens:=g',drawn:=d',toks:=t' }:=by
 obtain⟨m,⟨o,es,ep,L,r⟩,_⟩:=id I.loc;obtain⟨sl,C⟩:=u.any L I.free fun z=>(v _ z).2.1 rfl;exact I.step (ch:=ch) v (fun b o C N hc e n=>u.keep b o e n (fun z=>(au.mp (I.stkSub b z)).elim C N) hc) (fun b o _ _ hc e n=>u.any e n hc) (fun b o hc e n=>u.free b o e n hc) (fun b o hc e=>u.there b o e hc) u.tups u.frzs u.tbls (fun Y U=>by obtain⟨Z,J,G,y,R⟩:=U;rw[L]at y;cases y;exact⟨_,J,G,C,R⟩) hok S
theorem Inv.turned{t':Nat}{it:aj}(I:Inv X pins σ H s)(k:∀b o,b≠it->s.heap.get? b=some o->h'.get? b=some o)(R:H it=none)(C:it≠X.env.locals)
  (h1:it∈X.ex\/X.s₀.heap.objs.size<=it) (L:∀x c,X.env.cells.lookup x=some c->c≠it) (J:∀p∈X.pn++pins,p.1≠it):Inv X pins σ H { s with heap:=h',toks:=t' }:=by
 have l:∀b u,H b=some u->b≠it:=fun b u e z=>by rw[z,R]at e;cases e
 refine I.step (g':=s.gens) (d':=s.drawn) (ch:=[it]) (fun b N=>?_) (fun b o _ _ hc e _=>k b o (fun z=>hc (by simp[z])) e) (fun b o _ _ hc e _=>⟨o.slots,k b o (fun z=>hc (by simp[z])) e⟩) (fun _ _ _ _ n=>n)
  (fun b o hc e=>⟨o,k b o (fun z=>hc (by simp[z])) e⟩) (fun _ _ e=>e) (fun _ _ _ e=>e) (fun _ _ e=>e) (fun m S=>?_) (fun b u e=>?_) I.bare
 have e:b=it:=by simpa using N
 subst e;exact⟨h1,C,L,J⟩;obtain⟨o,es,ep,G,r⟩:=S;exact⟨o,es,ep,k _ o (dW C) G,r⟩;refine(I.hok b u e).stay (fun c v hc q=>k c v ?_ q) (fun _ q=>q) (fun _ _ q=>q) fun _ _ _ q=>q;rcases hc with z|z;rw[z];exact l b u e;exact l c _ z
theorem Inv.tok(I:Inv X pins σ H s)(t:Nat):Inv X pins σ H { s with toks:=t }:=I.un (h':=s.heap) (t':=t) Un.refl I.hok
theorem Inv.kept{t':Nat}(I:Inv X pins σ H s)(k:∀b u,s.heap.get? b=some u->h'.get? b=some u):Inv X pins σ H { s with heap:=h',toks:=t' }:=I.un (Un.kept k) (I.hok.kept k)
theorem Inv.laid{a:aj}{o:HO}{t':Nat}(I:Inv X pins σ H s)(k:∀b u,s.heap.get? b=some u->h'.get? b=some u)(l:s.heap.objs.size<=a)(new:Jx X.prog X.w (upd H a o) h' a o) :
  Inv X pins σ (upd H a o) { s with heap:=h',toks:=t' }:=I.un (Un.laid k l (I.hok.fresh l)) (I.hok.laid k l new)
theorem Inv.write{x e:aj}{o:HO}{t':Nat}(I:Inv X pins σ H s)(v:Mut (H x))(he:e=x\/H e=some (.own x))(k:∀b u,b≠e->s.heap.get? b=some u->h'.get? b=some u)(l:∃u,h'.get? e=some u)
  (new:Jx X.prog X.w (upd H x o) h' x o):Inv X pins σ (upd H x o) { s with heap:=h',toks:=t' }:=I.un (Un.write v he k l) (I.hok.write v he k l new)
theorem Inv.weak{σ':List (Option V)}(I:Inv X pins σ H s)(y:σ'.length=σ.length)(w:∀(i:Nat) v,σ'[i]?=some (some v)->σ[i]?=some (some v)):Inv X pins σ' H s :=
 ⟨I.ok,I.os,I.bare,I.base,let ⟨m,hn,hl'⟩:=I.loc;⟨m,hn,fun i x v l u o=>hl' i x v l (w i v u) o⟩,I.cell,I.free,I.freeC,I.pin,I.hok,y.trans I.len⟩
theorem Inv.pins_of{o:qO}(I:Inv X pins σ H s)(h:∀p∈o,s.heap.get? p.1=some p.2/\H p.1=none/\p.1≠X.env.locals/\p.1∉X.fs/\∀v,p.2.data≠.cell v):Inv X o σ H s :=
 ⟨I.ok,I.os,I.bare,I.base,I.loc,I.cell,I.free,I.freeC,fun p u=>(aC.mp u).elim (fun z=>I.pin p (fG _ z)) (h p),I.hok,I.len⟩
theorem zhz{N:List Str}(o:N.Nodup){i j:Nat}{x:Str}(a:N[i]?=some x)(b:N[j]?=some x):i=j:=by obtain⟨h1,l⟩:=aH.mp a;obtain⟨v,u⟩:=aH.mp b;exact(List.getElem_inj o).mp (l.trans u.symm)
theorem zfe{M:sO}{A:aX}{E:qV}{i:Nat}{x:Str}{v:V}{u:af}{Q:Unit->aq->Prop}(I:Inv X pins σ H s)(hN:X.N.Nodup)(hi:X.N[i]?=some x)(hx:Loc X.env.scope x)(r:RelV v u)
  (h:∀s',Inv X pins (σ.set i (some v)) H s'->(∃a,cN a s.heap s'.heap/\(a=X.env.locals\/X.env.cells.lookup x=some a))->Q () s') (hf:X.fn x=true\/X.env.scope.names.lookup x=some .local:=by walk_at "F"):wpAny M A (storeName X.env x u) Q E s:=by
 obtain⟨m,hn,hl⟩:=id I.loc;have U:(X.env.scope.kind == .class||(X.env.scope.kind == .module&&X.env.locals != X.env.globals))=false:=by rw[I.ok.kind];rfl
 have L:i<σ.length:=by rw[I.len];exact(aH.mp hi).1
 have cne:=I.cne;have tracked:∀{a:aj} {h':aW},(∃o,s.heap.get? a=some o/\H a=none)->cN a s.heap h'->HOk X.prog X.w H h':=fun {a h'} ha C b ob e=>by obtain⟨_,_,Ln⟩:=ha;refine(I.hok b ob e).stay (fun c w' hc q=>(C.2 c ?_).trans q) (fun _ q=>q) (fun _ _ q=>q) fun _ _ _ q=>q;rintro rfl;rcases hc with rfl|hc;rw[Ln]at e;cases e;rw[Ln]at hc;cases hc
 rcases hx with hk|hk;refine wpAny_storeName_local hk hn (fun h' hn' C=>?_) U;obtain⟨oL,_,_,hoL,_⟩:=id hn;refine h _ ⟨I.ok,I.os,I.bare,⟨fun b o e n R hx=>?_,fun b o e n R hx=>?_,I.base.free,fun b o e hx=>?_,I.base.tups,I.base.frzs,I.base.tbls⟩,⟨_,hn',fun j y v' G J e3=>?_⟩,fun y c e=>?_,I.free,I.freeC,fun p hp=>?_,tracked ⟨oL,hoL,I.free⟩ C,by simpa using I.len⟩ ⟨_,C,.inl rfl⟩;exact(C.2 b (aA (aB (aw e) I.ok.above))).trans (I.base.keep b o e n R hx);obtain⟨sl,G⟩:=I.base.slot b o e n R hx;exact⟨sl,(C.2 b (aA (aB (aw e) I.ok.above))).trans G⟩;obtain⟨o',G⟩:=I.base.there b o e hx;exact⟨o',(C.2 b (aA (aB (aw e) I.ok.above))).trans G⟩;by_cases hj:j=i;subst hj;rw[hi]at G;cases G;rw[gp L]at J;cases J;exact⟨u,r,.inl ⟨hk,by simp⟩⟩;rw[dP (dW hj)]at J;obtain⟨u',r',q⟩:=hl j y v' G J e3;refine⟨u',r',?_⟩;rcases q with⟨k,e⟩|⟨k,c,e,z⟩;refine .inl ⟨k,?_⟩;have:y≠x:=fun e=>hj (zhz hN G (e▸hi));simp[this,e];exact .inr ⟨k,c,e,z.sameBut C (cne y c e)⟩;obtain⟨w',z⟩:=I.cell y c e;exact⟨w',z.sameBut C (cne y c e)⟩;obtain⟨e,n,ne,nf,d⟩:=I.pin p hp;exact⟨(C.2 p.1 ne).trans e,n,ne,nf,d⟩;have N:X.fn x=true:=by rcases hf with z|z;exact z;rw[z]at hk;cases hk
 obtain⟨c,hc⟩:=I.ok.has x (.inl hk);obtain⟨w',z⟩:=I.cell x c hc;refine wpAny_storeName_cell I.ok.kind hk hc z (fun h' S C=>?_);obtain⟨oc,Z,Y⟩:=id z;refine h { s with heap:=h' } ⟨I.ok,I.os,I.bare,⟨fun b o e n R hx=>?_,fun b o e n R hx=>?_,I.base.free,fun b o e hx=>?_,I.base.tups,I.base.frzs,I.base.tbls⟩,⟨m,hn.sameBut C (dW (cne x c hc)),fun j y v' G J e3=>?_⟩,fun y c' e=>?_,I.free,I.freeC,fun p hp=>?_,tracked ⟨oc,Z,I.freeC x c hc⟩ C,by simpa using I.len⟩ ⟨c,C,.inr hc⟩;exact(C.2 b (aA (aB (aw e) (I.ok.cab x c N hc)))).trans (I.base.keep b o e n R hx);obtain⟨sl,G⟩:=I.base.slot b o e n R hx;exact⟨sl,(C.2 b (aA (aB (aw e) (I.ok.cab x c N hc)))).trans G⟩;obtain⟨o',G⟩:=I.base.there b o e hx;exact⟨o',(C.2 b (aA (aB (aw e) (I.ok.cab x c N hc)))).trans G⟩;by_cases hj:j=i;subst hj;rw[hi]at G;cases G;rw[gp L]at J;cases J;exact⟨u,r,.inr ⟨.inl hk,c,hc,S⟩⟩;rw[dP (dW hj)]at J;obtain⟨u',r',q⟩:=hl j y v' G J e3;refine⟨u',r',?_⟩;rcases q with q|⟨k,c',e,z'⟩;exact .inl q;refine .inr ⟨k,c',e,z'.sameBut C ?_⟩;rintro rfl;exact hj (zhz hN G (I.ok.inj _ _ _ e hc▸hi));by_cases hcc:c'=c;subst hcc;exact⟨_,S⟩;obtain⟨w2,z2⟩:=I.cell y c' e;exact⟨w2,z2.sameBut C hcc⟩;obtain⟨e,n,ne,nf,d⟩:=I.pin p hp;refine⟨(C.2 p.1 ?_).trans e,n,ne,nf,d⟩;intro q;rw[q,Z]at e;have q':oc=p.2:=aQ e;exact d w' (by rw[<- q'];exact Y)
theorem ZM{M:sO}{A:aX}{E:qV}{i:Nat}{x:Str}{v:V}{u:af}{Q:Unit->aq->Prop}(I:Inv X pins σ H s)(y:X.N.Nodup)(hi:X.N[i]?=some x)(hx:Loc X.env.scope x)(r:RelV v u)
  (h:∀s',Inv X pins (σ.set i (some v)) H s'->Q () s') (hf:X.fn x=true\/X.env.scope.names.lookup x=some .local:=by walk_at "F"):wpAny M A (storeName X.env x u) Q E s :=
 zfe I y hi hx r (fun s' C _=>h s' C) hf
theorem Inv.call'{s':aq}{ch:List aj}(I:Inv X pins σ H s)(o:s'.os=s.os)(u:Un (frs X.stack) ch H H' s.heap s'.heap)(hok:HOk X.prog X.w H' s'.heap)(v:kZ s'.gens)
  (l:∀b∈ch,(b∈X.ex\/X.s₀.heap.objs.size<=b)/\b≠X.env.locals/\(∀x c,X.env.cells.lookup x=some c->c≠b)/\∀p∈X.pn++pins,p.1≠b):Inv X pins σ H' s':=by
 obtain⟨h',g',d',t',y⟩:=s';have e:y=s.os:=o;subst e;exact I.call (g':=g') (t':=t') (d':=d') u hok v l
end
abbrev XK:=af->Option aj->Hp->Prop
abbrev St:=List (Option V)
abbrev VK:=V->Hp->Prop
abbrev TE:=St->Hp->VK->Prop
abbrev TT:=St->Hp->(Bool->Hp->Prop)->Prop
abbrev TA:=St->Hp->(List V->Hp->Prop)->Prop
structure Ends where
 nx:St->Hp->Prop
 rt:VK
 bk:St->Hp->Prop:=fun _ _=>False
 ct:St->Hp->Prop:=fun _ _=>False
abbrev TS:=Ends->St->Hp->Prop
def EP(X:Cx)(pins:qO)(σ:St)(Q:VK)(u:af)(s':aq):Prop:=∃v H',Inv X pins σ H' s'/\RelV v u/\Q v H'
def TP(X:Cx)(pins:qO)(σ:St)(Q:Bool->Hp->Prop)(b:Bool)(s':aq):Prop:=∃H',Inv X pins σ H' s'/\Q b H'
def AP(X:Cx)(pins:qO)(σ:St)(Q:List V->Hp->Prop)(l:List af)(s':aq):Prop:=∃vs H',Inv X pins σ H' s'/\Vals vs l/\Q vs H'
def SP(X:Cx)(pins:qO)(D:Ends)(f:Flow)(s':aq):Prop :=
 match f with
 | .next=>∃σ' H',Inv X pins σ' H' s'/\D.nx σ' H'
 | .brk=>∃σ' H',Inv X pins σ' H' s'/\D.bk σ' H'
 | .cont=>∃σ' H',Inv X pins σ' H' s'/\D.ct σ' H'
 | .ret u=>∃v σ' H',Inv X pins σ' H' s'/\RelV v u/\D.rt v H'
def PE(X:Cx)(e:bg)(t:TE):Prop :=
 ∀(pins:qO) (s:aq) (σ:St) (H:Hp) (Q:VK),Inv X pins σ H s->t σ H Q->wpAny (model X.prog X.w) X.A (eval e X.env) (EP X pins σ Q) X.xe s
def PT(X:Cx)(e:bg)(t:TT):Prop :=
 ∀(pins:qO) (s:aq) (σ:St) (H:Hp) (Q:Bool->Hp->Prop),Inv X pins σ H s->t σ H Q->wpAny (model X.prog X.w) X.A (isTrue e X.env (eval e X.env)) (TP X pins σ Q) X.xe s
def PW(X:Cx)(e:bg)(t:TT):Prop :=
 ∀(whole:Sem af) (pins:qO) (s:aq) (σ:St) (H:Hp) (Q:Bool->Hp->Prop),Inv X pins σ H s->t σ H Q->wpAny (model X.prog X.w) X.A (isTrue e X.env whole) (TP X pins σ Q) X.xe s
theorem PW.pt{X:Cx}{e:bg}{t:TT}(h:PW X e t):PT X e t:=h _
def PA(X:Cx)(es:List bg)(t:TA):Prop :=
 ∀(pos:Pos) (pins:qO) (s:aq) (σ:St) (H:Hp) (Q:List V->Hp->Prop),Inv X pins σ H s->t σ H Q->wpAny (model X.prog X.w) X.A (spliced (backTo pos (starEach es X.env))) (AP X pins σ Q) X.xe s
def PS(X:Cx)(st:eK)(t:TS):Prop :=
 ∀(pins:qO) (s:aq) (σ:St) (H:Hp) (D:Ends),Inv X pins σ H s->t D σ H->wpAny (model X.prog X.w) X.A (exec st X.env) (SP X pins D) X.xe s
def PSs(X:Cx)(st:List eK)(t:TS):Prop :=
 ∀(pins:qO) (s:aq) (σ:St) (H:Hp) (D:Ends),Inv X pins σ H s->t D σ H->wpAny (model X.prog X.w) X.A (execs st X.env) (SP X pins D) X.xe s
theorem thn{α:Type}{t:Sem α}{Q l:α->aq->Prop}{M:sO}{A:aX}{E:qV}{s:aq}(h:wpAny M A t Q E s)(o:∀a s,Q a s->l a s):wpAny M A t l E s:=cA h o fun _ _ x=>x
section
variable{X:Cx}
def tVar(i:Nat):TE:=fun σ H Q=>∃v,σ[i]?=some (some v)/\Q v H
def tC(v:V):TE:=fun _ H Q=>Q v H
theorem Qr{i:Nat}{x:Str}{pos:Pos}(L:X.N[i]?=some x)(G:Vis X.env.scope x)(hd:(x == ("__debug__":Str))=false:=by decide) (C:(x == ("__classdict__":Str))=false:=by decide):PE X (.Name x pos) (tVar i):=by intro pins s σ H Q I h;obtain⟨v,e,h⟩:=h;obtain⟨m,R,J⟩:=I.loc;obtain⟨u,r,l⟩:=J i x v L e G;have fin:EP X pins σ Q u s:=⟨v,H,I,r,h⟩;rcases l with⟨y,S⟩|⟨y,c,hc,o⟩;exact tL (wpAny_loadName_local I.ok.kind y R S fin) hd;rcases y with y|y;exact tL (wpAny_loadName_cell I.ok.kind y hc o fin) hd;exact tL (wpAny_loadName_free I.ok.kind y hc o fin C) hd
theorem Jz{i j pos}:PE X (.Constant (.int i) j pos) (tC (.int i)):=fun _ _ _ H _ I h=>wpAny_Constant_int ⟨.int i,H,I.tok _,⟨_,rfl⟩,h⟩
theorem ztl{b j pos}:PE X (.Constant (.bool b) j pos) (tC (.bl b)):=fun _ _ _ H _ I h=>Constant_bool ⟨.bl b,H,I,rfl,h⟩
def Gl(X:Cx)(x:Str):Prop:=X.env.kindOf x=some .globalImplicit
theorem zkt{E:qV}{pins:qO}{s:aq}{σ:St}{H:Hp}{x:Str}{u:af}{pos:Pos}{Q:qV}(I:Inv X pins σ H s)(l:Gl X x)(o:X.mg x=some u)(h:Q u s)
  (hd:(x == ("__debug__":Str))=false:=by decide):wpAny (model X.prog X.w) X.A (eval (.Name x pos) X.env) Q E s :=
 lD I.ok.kind l (Calls.loadGlobal_global (by rw[I.ok.glob];exact I.mod.glob.keeps I.bk) o h) hd
theorem Ul{E:qV}{pins:qO}{s:aq}{σ:St}{H:Hp}{x:Str}{u:af}{pos:Pos}{Q:qV}(I:Inv X pins σ H s)(v:Gl X x)(C:X.mg x=none)(l:bootBuiltins x=some u)(h:Q u s)
  (y:x ≠ "__name__":=by decide) (hd:(x == ("__debug__":Str))=false:=by decide):wpAny (model X.prog X.w) X.A (eval (.Name x pos) X.env) Q E s:=by
 obtain⟨G,h1,o⟩:=I.mod.blt;exact lD I.ok.kind v (Calls.loadGlobal_builtin (by rw[I.ok.glob];exact I.mod.glob.keeps I.bk) C (by rw[I.ok.blt];exact h1.keeps I.bk) ((o x y).trans l) h) hd
theorem zoj{x:Str}{v:V}{u:af}{pos:Pos}(l:Gl X x)(C:X.mg x=none)(o:bootBuiltins x=some u)(r:RelV v u)(y:x ≠ "__name__":=by decide) (hd:(x == ("__debug__":Str))=false:=by decide):PE X (.Name x pos) (tC v) :=
 fun _ _ _ H _ I h=>Ul I l C o ⟨v,H,I,r,h⟩ y hd
variable{a b:bg}{ta tb:TE}{pos:Pos}
variable{tA tB':TT}{rest:List bg}
def tAnd(t u:TT):TT:=fun σ H Q=>t σ H fun c l=>if c=true then u σ l Q else Q false l
def tOr(t u:TT):TT:=fun σ H Q=>t σ H fun c l=>if c=true then Q true l else u σ l Q
def tNot(t:TT):TT:=fun σ H Q=>t σ H fun c l=>Q (!c) l
theorem zn0(u:PT X a tA):PW X (.BoolOp .And [a] pos) tA:=by
 intro v pins s σ H Q I h;refine isTrue_and (thn (u pins s σ H Q I h) fun c s1 e=>?_);cases c with
 | true=>exact isTrue_and_nil e
 | false=>exact e
theorem zqd(u:PT X a tA):PW X (.BoolOp .Or [a] pos) tA:=by
 intro v pins s σ H Q I h;refine isTrue_or (thn (u pins s σ H Q I h) fun c s1 e=>?_);cases c with
 | false=>exact isTrue_or_nil e
 | true=>exact e
theorem zqe(G:PT X a tA)(C:PW X (.BoolOp .And (b::rest) pos) tB'):PW X (.BoolOp .And (a::b::rest) pos) (tAnd tA tB'):=by
 intro y pins s σ H Q I h;refine isTrue_and (thn (G pins s σ H _ I h) fun c s1 ⟨v,x,u⟩=>?_);cases c with
 | true=>exact C y pins s1 σ v Q x u
 | false=>exact⟨v,x,u⟩
theorem zti(G:PT X a tA)(C:PW X (.BoolOp .Or (b::rest) pos) tB'):PW X (.BoolOp .Or (a::b::rest) pos) (tOr tA tB'):=by
 intro y pins s σ H Q I h;refine isTrue_or (thn (G pins s σ H _ I h) fun c s1 ⟨v,x,u⟩=>?_);cases c with
 | true=>exact⟨v,x,u⟩
 | false=>exact C y pins s1 σ v Q x u
theorem zqg(u:PT X a tA):PT X (.UnaryOp .Not a pos) (tNot tA):=by intro pins s σ H Q I h;exact isTrue_not (u pins s σ H (fun c l=>Q (!c) l) I h)
def zsO(ta tb:TE):TE:=fun σ H Q=>ta σ H fun x o=>∃c,x=.bl c/\if c=true then tb σ o Q else Q (.bl false) o
theorem zqm{op}{t:TE}(h:PE X a t):PE X (.BoolOp op [a] pos) t:=fun pins s σ H Q I hw=>BoolOp_one (h pins s σ H Q I hw)
theorem zqp(G:PE X a ta)(J:PE X (.BoolOp .And (b::rest) pos) tb):PE X (.BoolOp .And (a::b::rest) pos) (zsO ta tb):=by
 intro pins s σ H Q I h;refine BoolOp_and (thn (G pins s σ H _ I h) fun v s1 ⟨x,C,y,L,u⟩=>?_);obtain⟨c,rfl,u⟩:=u;cases L;refine dX ?_;cases c with
 | true=>exact J pins s1 σ C Q y u
 | false=>exact⟨.bl false,C,y,rfl,u⟩
end
def SqL(K:qF)(H:Hp)(a:aj)(xs:List V):Prop :=
 Rd H a (.lst xs) \/
  ∃(o:Obj) (its:Array af) (n:Nat),K.lookup a=some o/\o.cls=.type "list" /\ o.dict=none/\o.data=.seq its n/\its.size<=sizeLine/\Vals xs its.toList
def SqT(K:qF)(H:Hp)(a:aj)(xs:List V):Prop :=
 Rd H a (.tup xs) \/
  ∃(o:Obj) (its:Array af) (n:Nat),K.lookup a=some o/\o.cls=.type "tuple" /\ o.data=.seq its n/\its.size<=sizeLine/\Vals xs its.toList
def absV:af->Option V
 | .none=>some .non
 | .bool b=>some (.bl b)
 | .int i _=>some (.int i)
 | .str x _=>some (.str x)
 | .bytes b _=>some (.byt b)
 | .float b _=>some (.flt b)
 | .ref a=>some (.ref a)
 | .type n=>some (.ty n)
 | _=>none
theorem RelV.abs{x:V}{u:af}(r:RelV x u):absV u=some x:=by
 cases x with
 | non=>cases r;rfl
 | bl _=>cases r;rfl
 | int _=>obtain⟨t,rfl⟩:=r;rfl
 | str _=>obtain⟨t,rfl⟩:=r;rfl
 | byt _=>obtain⟨t,rfl⟩:=r;rfl
 | flt _=>obtain⟨t,rfl⟩:=r;rfl
 | ref _=>cases r;rfl
 | ty _=>cases r;rfl
theorem RelV.inj{x y:V}{u:af}(r:RelV x u)(q:RelV y u):x=y:=aQ (r.abs.symm.trans q.abs)
theorem Vals.inj{xs ys:List V}{l:List af}(h:Vals xs l)(k:Vals ys l):xs=ys:=by
 induction h generalizing ys with
 | nil=>cases k;rfl
 | cons r t u =>
  cases k with
  | cons o t'=>rw[r.inj o,u t']
section
variable{X:Cx}{pins:qO}{σ:St}{H:Hp}{s:aq}{a:aj}{xs ys:List V}
theorem SqL.of{K:qF}(h:H a=some (.lst xs)):SqL K H a xs:=.inl (.inl h)
theorem Inv.list(I:Inv X pins σ H s)(h:SqL X.K H a xs):∃its:List af,Vals xs its/\PlainL s.heap a its.toArray/\xs.length<=sizeLine:=by rcases h with h|⟨o,its,n,l,hc,hd,u,hz,r⟩;obtain⟨z,its,n,r,e⟩:=h.ok I.hok;exact⟨its,r,⟨_,n,e,rfl,rfl,rfl⟩,z⟩;refine⟨its.toList,r,⟨o,n,I.kIn a o l,hc,hd,by simpa using u⟩,?_⟩;have e:=r.length;simp only[cC]at e;lia
theorem Inv.tuple(I:Inv X pins σ H s)(h:SqT X.K H a xs):∃its:List af,Vals xs its/\rh s.heap a its.toArray/\xs.length<=sizeLine:=by rcases h with h|⟨o,its,n,l,hc,u,hz,r⟩;obtain⟨z,its,r,p⟩:=h.ok I.hok;exact⟨its,r,p.tup,z⟩;refine⟨its.toList,r,⟨o,I.kIn a o l,hc,n,by simpa using u⟩,?_⟩;have e:=r.length;simp only[cC]at e;lia
theorem Inv.list_inj(I:Inv X pins σ H s)(h:SqL X.K H a xs)(h':SqL X.K H a ys):xs=ys:=by
 obtain⟨its,r,⟨o,n,e,_,_,d⟩,_⟩:=I.list h;obtain⟨its',u,⟨v,x,l,_,_,d'⟩,_⟩:=I.list h';rw[e]at l;cases l;rw[d]at d';injection d' with d1 _
 have:its=its':=by simpa using congrArg a9 d1
 subst this;exact r.inj u
theorem Inv.tuple_inj(I:Inv X pins σ H s)(h:SqT X.K H a xs)(h':SqT X.K H a ys):xs=ys:=by
 obtain⟨its,r,⟨o,e,_,n,d⟩,_⟩:=I.tuple h;obtain⟨its',u,⟨v,l,_,x,d'⟩,_⟩:=I.tuple h';rw[e]at l;cases l;rw[d]at d';injection d' with d1 _
 have:its=its':=by simpa using congrArg a9 d1
 subst this;exact r.inj u
end
abbrev Cx.wish(X:Cx)(E:qV):Cx:={ X with xe:=E }
abbrev Cx.nox(X:Cx):Cx:=X.wish fun _ _=>False
theorem Cx.Ok.wish{X:Cx}(ok:X.Ok)(E:qV):(X.wish E).Ok :=
 ⟨ok.mod,ok.kind,ok.glob,ok.blt,ok.above,ok.inj,ok.has,ok.cab,ok.hd,ok.frames,ok.stk,ok.exf,ok.bs,ok.bsz,ok.noex,ok.exfs,ok.funs,ok.frf⟩
theorem Cx.Ok.unwish{X:Cx}{E:qV}(ok:(X.wish E).Ok):X.Ok :=
 ⟨ok.mod,ok.kind,ok.glob,ok.blt,ok.above,ok.inj,ok.has,ok.cab,ok.hd,ok.frames,ok.stk,ok.exf,ok.bs,ok.bsz,ok.noex,ok.exfs,ok.funs,ok.frf⟩
section
variable{X:Cx}{pins:qO}{σ:St}{H:Hp}{s:aq}{E:qV}
theorem Inv.wish(I:Inv X pins σ H s)(E:qV):Inv (X.wish E) pins σ H s:=⟨I.ok.wish E,I.os,I.bare,I.base,I.loc,I.cell,I.free,I.freeC,I.pin,I.hok,I.len⟩
theorem Inv.unwish(I:Inv (X.wish E) pins σ H s):Inv X pins σ H s:=⟨I.ok.unwish,I.os,I.bare,I.base,I.loc,I.cell,I.free,I.freeC,I.pin,I.hok,I.len⟩
theorem SP.unwish{D:Ends}{f:Flow}{s':aq}(h:SP (X.wish E) pins D f s'):SP X pins D f s':=by
 cases f with
 | next=>obtain⟨σ',H',I,q⟩:=h;exact⟨σ',H',I.unwish,q⟩
 | brk=>obtain⟨σ',H',I,q⟩:=h;exact⟨σ',H',I.unwish,q⟩
 | cont=>obtain⟨σ',H',I,q⟩:=h;exact⟨σ',H',I.unwish,q⟩
 | ret u=>obtain⟨v,σ',H',I,r,q⟩:=h;exact⟨v,σ',H',I.unwish,r,q⟩
theorem PSs.nox{st:List eK}{t:TS}(h:PSs X.nox st t):PSs X st t:=fun pins s σ H D I hw =>
 cA (h pins s σ H D (I.wish _) hw) (fun _ _ q=>q.unwish) fun _ _ z=>cF z
end
section
variable{X:Cx}{st:eK}{rest:List eK}{t u:TS}{e:bg}{te:TE}{pos:Pos}
def zsM:TS:=fun D σ H=>D.nx σ H
def tSeq(t u:TS):TS:=fun D σ H=>t { D with nx:=u D } σ H
theorem zgy:PSs X [] zsM:=fun _ _ σ H _ I h=>kC ⟨σ,H,I,h⟩
theorem Qj(h1:PS X st t)(l:PSs X rest u):PSs X (st::rest) (tSeq t u):=by
 intro pins s σ H D I h;refine su (thn (h1 pins s σ H { D with nx:=u D } I h) fun f s1 q=>?_);cases f with
 | next =>obtain⟨σ',H',o,q⟩:=q;exact l pins s1 σ' H' D o q
 | ret v=>exact q
 | brk=>exact q
 | cont=>exact q
theorem U4(h1:PS X st t):PSs X [st] t:=by
 intro pins s σ H D I h;refine su (thn (h1 pins s σ H D I h) fun f s1 q=>?_);cases f with
 | next=>exact kC q
 | ret v=>exact q
 | brk=>exact q
 | cont=>exact q
theorem Inv.quiet{pins:qO}{σ:St}{H:Hp}{s:aq}(I:Inv X pins σ H s):interactive X.env=false:=by simp[interactive,I.ok.kind]
def zsN(te:TE):TS:=fun D σ H=>te σ H fun _ l=>D.nx σ l
theorem zn6(he:PE X e te)(C:swapsWith e none pos.line X.env=pure false:=by rfl):PS X (.Expr e pos) (zsN te):=by intro pins s σ H D I h;exact wpAny_Expr_any (thn (he pins s σ H _ I h) fun v s1 ⟨x,o,y,G,l⟩=>⟨σ,o,y,l⟩) I.quiet C
def tRet(te:TE):TS:=fun D σ H=>te σ H D.rt
theorem YM(he:PE X e te):PS X (.Return (some e) pos) (tRet te):=by intro pins s σ H D I h;exact wpAny_Return_some (thn (he pins s σ H _ I h) fun v s1 ⟨x,o,y,C,l⟩=>⟨x,σ,o,y,C,l⟩)
def tIfS(c:TT)(t u:TS):TS:=fun D σ H=>c σ H fun b l=>if b=true then t D σ l else u D σ l
theorem zn5{c:bg}{a b:List eK}{o:TT}(hc:PT X c o)(y:PSs X a t)(C:PSs X b u):PS X (.If c a b pos) (tIfS o t u):=by
 intro pins s σ H D I h;refine wpAny_If (thn (hc pins s σ H _ I h) fun d s1 ⟨x,v,l⟩=>?_);cases d with
 | true=>exact y pins s1 σ x D v l
 | false=>exact C pins s1 σ x D v l
end
abbrev TG:=V->St->Hp->(St->Hp->Prop)->Prop
abbrev TGs:=List V->St->Hp->(St->Hp->Prop)->Prop
def PG(X:Cx)(target:bg)(t:TG):Prop :=
 ∀(pins:qO) (s:aq) (σ:St) (H:Hp) (v:V) (u:af) (Q:St->Hp->Prop),Inv X pins σ H s->RelV v u->t v σ H Q ->
  wpAny (model X.prog X.w) X.A (assign target X.env u) (fun _ s'=>∃σ' H',Inv X pins σ' H' s'/\Q σ' H') X.xe s
def PGs(X:Cx)(ts:List bg)(t:TGs):Prop :=
 ∀(pins:qO) (s:aq) (σ:St) (H:Hp) (vs:List V) (l:List af) (Q:St->Hp->Prop),Inv X pins σ H s->Vals vs l->t vs σ H Q ->
  wpAny (model X.prog X.w) X.A (assignInOrder ((assignEach ts X.env).map (·.2)) l) (fun _ s'=>∃σ' H',Inv X pins σ' H' s'/\Q σ' H') X.xe s
abbrev TSet:=V->V->V->Hp->(Hp->Prop)->Prop
def PSet(X:Cx)(t:TSet):Prop :=
 ∀(pins:qO) (s:aq) (σ:St) (H:Hp) (o i v:V) (l x u:af) (Q:Hp->Prop),Inv X pins σ H s->RelV o l->RelV i x->RelV v u->t o i v H Q ->
  wpAny (model X.prog X.w) X.A (setItem l x u) (fun _ s'=>∃H',Inv X pins σ H' s'/\Q H') X.xe s
section
variable{X:Cx}{pos:Pos}
def YE(i:Nat):TG:=fun v σ H Q=>Q (σ.set i (some v)) H
theorem zoc{i:Nat}{x:Str}(y:X.N.Nodup)(hi:X.N[i]?=some x)(hx:Loc X.env.scope x)(hf:X.fn x=true\/X.env.scope.names.lookup x=some .local:=by walk_at "F"):PG X (.Name x pos) (YE i):=by intro pins s σ H v u Q I r h;exact rm (ZM I y hi hx r (fun s' C=>⟨_,H,C,h⟩) hf)
def gNil:TGs:=fun vs σ H Q=>vs=[]/\Q σ H
def ztY(t:TG)(u:TGs):TGs:=fun vs σ H Q=>∃v r,vs=v::r/\t v σ H fun σ' H'=>u r σ' H' Q
theorem zob:PGs X [] gNil:=by intro pins s σ H vs l Q I r h;obtain⟨e,h⟩:=h;subst e;cases r;exact rn ⟨σ,H,I,h⟩
theorem zma{e:bg}{es:List bg}{t:TG}{u:TGs}(h1:PG X e t)(C:PGs X es u)
  (x:(assignEach (e::es) X.env).map (·.2)=assign e X.env::(assignEach es X.env).map (·.2):=by rfl):PGs X (e::es) (ztY t u):=by
 intro pins s σ H vs N Q I r h;obtain⟨v,R,J,h⟩:=h;subst J;cases r with
 | cons r G =>rw[x];refine lE (thn (h1 pins s σ H _ _ _ I r h) fun _ s1 ⟨l,L,y,o⟩=>?_);exact C pins s1 l L _ _ Q y G o
def gTup(K:qF)(n:Nat)(t:TGs):TG:=fun v σ H Q=>∃a xs,v=.ref a/\SqT K H a xs/\xs.length=n/\t xs σ H Q
theorem znd{es:List bg}{k:Nat}{t:TGs}{n:Nat}(hc:X.calm=true)(h:PGs X es t)
  (S:(assignEach es X.env).length=n:=by rfl) (y:(assignEach es X.env).findIdx? (·.1)=none:=by rfl):PG X (.Tuple es k pos) (gTup X.K n t):=by
 intro pins s σ H v u Q I r hw;obtain⟨a,xs,R,N,J,hw⟩:=hw;subst R;cases r;obtain⟨its,C,G,hz⟩:=I.tuple N;refine assign_Tuple_tuple (I.ok.hd hc) G (by simp[S,<- J,C.length]) y fun h' hx=>?_;have L:Inv X pins σ H { s with heap:=h' }:=I.kept (t':=s.toks) fun b o e=>hx b o (aA (aw e)) e;exact h pins _ σ H xs _ Q L (by simpa using C) hw
def gSub(to ti:TE)(t:TSet):TG:=fun v σ H Q=>to σ H fun o l=>ti σ l fun i x=>t o i v x fun u=>Q σ u
theorem pg_sub{o i:bg}{to ti:TE}{t:TSet}(J:PE X o to)(hi:PE X i ti)(Z:PSet X t)
  (U:∀v,assign (.Subscript o i pos) X.env v=(do
   let l <- holding [v] (eval o X.env);let C <- holding [v,l] (eval i X.env)
   standAt pos
   holding [v,l,C] (setItem l C v)
   release [v,l,C] []):=by intro _;rfl):PG X (.Subscript o i pos) (gSub to ti t):=by
 intro pins s σ H v u Q I r h;rw[U];refine aa (bU (thn (J pins s σ H _ I h) fun l s1 ⟨x,H1,I1,r1,G⟩=>?_));refine aa (bU (thn (hi pins s1 σ H1 _ I1 G) fun C s2 ⟨y,Y,I2,r2,R⟩=>?_));refine aa (b9 (aa (bU (thn (Z pins s2 σ Y x y v l C u _ I2 r1 r2 r R) fun _ s3 ⟨L,N,q3⟩=>?_))));exact wpAny_release ⟨σ,L,N,q3⟩
def tAsg(o:TE)(g:TG):TS:=fun D σ H=>o σ H fun x l=>g x σ l D.nx
theorem UT{l e:bg}{o:TE}{g:TG}(he:PE X e o)(J:PG X l g)(y:swapsWithSole [l] e pos.line X.env=pure false:=by rfl)(hw:swappedStores [l] e X.env=pure none:=by rfl)
  (h1:(assignEach [l] X.env).map (·.2)=[assign l X.env]:=by rfl):PS X (.Assign [l] e pos) (tAsg o g):=by
 intro pins s σ H D I h;refine wpAny_Assign_stores (thn (he pins s σ H _ I h) fun v s1 ⟨x,L,C,G,u⟩=>?_) y hw;rw[h1];exact thn (J pins s1 σ L x v _ C G u) fun _ s2 q=>q
theorem Qs{i:Nat}{x:Str}{e:bg}{C:TE}{u:Pos}(R:X.N.Nodup)(hi:X.N[i]?=some x)(hx:Loc X.env.scope x)(he:PE X e C)(J:swapsWith e (some (.Name x u)) pos.line X.env=pure false:=by rfl)(hf:X.fn x=true\/X.env.scope.names.lookup x=some .local:=by walk_at "F") :
  PS X (.Assign [.Name x u] e pos) (tAsg C (YE i)):=by
 intro pins s σ H D I h;refine wpAny_Assign_Name (thn (he pins s σ H _ I h) fun v s1 ⟨y,Y,S,U,G⟩=>?_) J;exact ZM S R hi hx U (fun s2 L=>⟨_,Y,L,G⟩) hf
def tPar(i j:Nat)(o:TA):TS:=fun D σ H=>o σ H fun vs l=>∃v w,vs=[v,w]/\D.nx ((σ.set i (some v)).set j (some w)) l
theorem znc{i j:Nat}{x y:Str}{a b:bg}{ta:TA}{U py pt:Pos}{kt k2 pt2}(hc:X.calm=true)(Z:X.N.Nodup)(hi:X.N[i]?=some x)(hj:X.N[j]?=some y)(L:i≠j)
  (hx:X.env.scope.names.lookup x=some .local) (Y:X.env.scope.names.lookup y=some .local) (ha:PA X [a,b] ta)
  (hw:swappedStores [.Tuple [.Name x U,.Name y py] kt pt] (.Tuple [a,b] k2 pt2) X.env=pure (some [x,y]))
  (hs:swapsWithSole [.Tuple [.Name x U,.Name y py] kt pt] (.Tuple [a,b] k2 pt2) pos.line X.env=pure false:=by rfl) :
  PS X (.Assign [.Tuple [.Name x U,.Name y py] kt pt] (.Tuple [a,b] k2 pt2) pos) (tPar i j ta):=by
 intro pins s σ H D I h;rw[exec_Assign_arm];refine aa (b9 ?_);rw[hs];refine aa (ae ?_);rw[if_neg (by decide)];refine aa (Tuple_ (thn (ha _ pins s σ H _ I h) fun us s1 ⟨vs,H1,I1,r1,J⟩=>?_));obtain⟨v,w,e1,J⟩:=J;subst e1;obtain⟨C,G,rfl,rv,S⟩:∃C G,us=[C,G]/\RelV v C/\RelV w G:=by
  cases r1 with
  | cons p q =>
   cases q with
   | cons p' q' =>cases q';exact⟨_,_,rfl,p,p'⟩
 refine bG ?_ (by show 2<=sizeLine;decide);have I2:Inv X pins σ H1 { s1 with heap:=s1.heap.push { cls:=.type "tuple",data:=.seq [C,G].toArray } }:=I1.kept (t':=s1.toks) fun b o e=>ag _ e;rw[hw];refine aa (ae ?_);show wpAny (model X.prog X.w) X.A (do rule "assign.swapped-stores";let items <- unpackItems (.ref s1.heap.objs.size) 2 none;assignInOrder [fun v=>bindName X.env y v,fun v=>bindName X.env x v] items.reverse;pure A4) _ _ _;refine aa (b7 (aa (unpackItems_tuple (items:=#[C,G]) (I.ok.hd hc) (IsTup.new s1.heap _) fun h' R=>?_)));have I3:=I2.kept (h':=h') (t':=s1.toks) fun b o e=>R b o (aA (aw e)) e;show wpAny _ _ (assignInOrder [fun v=>bindName X.env y v,fun v=>bindName X.env x v] [G,C] >>= fun _=>pure A4) _ _ _;refine aa (lE (tM (ZM I3 Z hj (.inl Y) S (fun s2 I4=>?_) (.inr Y))));refine lE (tM (ZM I4 Z hi (.inl hx) rv (fun s3 I5=>rn (ae ?_)) (.inr hx)));rw[List.set_comm _ _ (dW L)]at I5;exact⟨_,H1,I5,J⟩
end
section
variable{X:Cx}{pos:Pos}
def zpM(c:TT)(u:TS):TS:=fun D σ H=>∃W:Nat->St->Hp->Prop,(∃m,W m σ H)/\∀m σ H,W m σ H ->
 c σ H fun b l=>if b=true then ∃N:St->Hp->Prop,(∀σ' H',N σ' H'->∃o,o<m/\W o σ' H')/\u { D with nx:=N,ct:=N,bk:=D.nx } σ l else D.nx σ l
theorem zl9{c:bg}{body:List eK}{U:TT}{tb:TS}(Y:sv (model X.prog X.w) X.A X.env X.xe)(hc:PT X c U)(hb:PSs X body tb):PS X (.While c body [] pos) (zpM U tb):=by
 intro pins s σ H D I h;obtain⟨W,⟨m0,w0⟩,turn⟩:=h;refine wpAny_While (codeAny_whileLoop (fun n s'=>∃σ' H',Inv X pins σ' H' s'/\W n σ' H') ?_ m0 ⟨σ,H,I,w0⟩);rintro n s1 ⟨u,H1,I1,w1⟩;refine fB Y (thn (hc pins s1 u H1 _ I1 (turn n u H1 w1)) fun b s2 ⟨Z,I2,y⟩=>?_);cases b with
 | true =>
  obtain⟨N,hN,y⟩:=y;rw[if_pos rfl];refine fB Y (thn (hb pins s2 u Z _ I2 y) fun f s3 C=>?_);cases f with
  | next =>obtain⟨o,x,G,L⟩:=C;obtain⟨J,S,R⟩:=hN o x L;exact⟨J,S,o,x,G,R⟩
  | cont =>obtain⟨o,x,G,L⟩:=C;obtain⟨J,S,R⟩:=hN o x L;exact⟨J,S,o,x,G,R⟩
  | brk=>exact C
  | ret v=>exact C
 | false =>rw[if_neg bf];exact kC ⟨u,Z,I2,y⟩
end
structure It where
 go:Nat->Hp->Prop
 yld:Nat->Hp->V->Hp->Prop
 stop:Nat->Hp->Prop
def FpOk(X:Cx)(pins:qO)(H:Hp)(b:aj):Prop :=
 H b=none/\b≠X.env.locals/\b∉X.fs/\(b∈X.ex\/X.s₀.heap.objs.size<=b)/\(∀x c,X.env.cells.lookup x=some c->c≠b)/\∀p∈X.pn++pins,p.1≠b
theorem Inv.fpOk{X:Cx}{pins:qO}{σ:St}{H H':Hp}{s:aq}{b:aj}(I:Inv X pins σ H s)(l:s.heap.objs.size<=b)(u:H' b=none):FpOk X pins H' b:=by refine⟨u,cW (aB I.lt l),I.nofs l,.inr (bZ I.sz l),fun x c e z=>?_,fun p o z=>?_⟩;obtain⟨v,q⟩:=I.cell x c e;exact absurd (aB q.lt (by rw[z];exact l)) (hY _);exact absurd (aB (aw (I.pin p o).1) (by rw[z];exact l)) (hY _)
structure Turn(P:aJ)(w:a7)(K:qF)(tg:bg)(J:It)(fp:List aj)(it:aj)(tn:Nat->aW->Prop):Prop where
 mem:it∈fp
 obj:∀i h,tn i h->∀b∈fp,∃o,h.get? b=some o/\∀v,o.data≠.cell v
 keep:∀i h h',tn i h->(∀b∈fp,∀o,h.get? b=some o->h'.get? b=some o)->tn i h'
 item:∀(X:Cx),X.prog=P->X.w=w->X.K=K->X.calm=true->∀(i:Nat) (pins:qO) (s:aq) (σ:St) (H:Hp) (E:qV),Inv X pins σ H s->(∀b∈fp,FpOk X pins H b)->tn i s.heap->J.go i H ->
  wpAny (model P w) X.A (pyNext (.ref it)) (fun r s1=>∃u,r=some u /\
   wpAny (model P w) X.A (letOwnedTupleGo tg (.ref it) u) (fun _ s2=>∃x H',Inv X pins σ H' s2/\RelV x u/\J.yld i H x H'/\tn (i+1) s2.heap/\∀b∈fp,H' b=none) E s1) E s
 done:∀(X:Cx),X.prog=P->X.w=w->X.K=K->X.calm=true->∀(i:Nat) (pins:qO) (s:aq) (σ:St) (H:Hp) (E:qV),Inv X pins σ H s->(∀b∈fp,FpOk X pins H b)->tn i s.heap->J.stop i H ->
  wpAny (model P w) X.A (pyNext (.ref it)) (fun r s1=>r=none/\Inv X pins σ H s1) E s
 self:∀(A:aX) (i:Nat) (s:aq) (Q:qV) (E:qV),tn i s.heap->Q (.ref it) s->wpAny (model P w) A (pyIter (.ref it)) Q E s
abbrev TI:=St->Hp->(It->Hp->Prop)->Prop
def PIE(X:Cx)(pins:qO)(σ:St)(v:bg)(R:It->Hp->Prop)(l:af)(s2:aq):Prop :=
 ∃(it:aj) (o:List aj) (u:Nat->aW->Prop) (J:It) (H':Hp),l=.ref it/\Inv X pins σ H' s2/\Turn X.prog X.w X.K v J o it u/\u 0 s2.heap/\(∀b∈o,FpOk X pins H' b)/\R J H'
def PI(X:Cx)(o iter:bg)(l:TI):Prop :=
 ∀(pins:qO) (s:aq) (σ:St) (H:Hp) (R:It->Hp->Prop),Inv X pins σ H s->l σ H R ->
  wpAny (model X.prog X.w) X.A (eval iter X.env) (fun v s1=>wpAny (model X.prog X.w) X.A (pyIter v) (PIE X pins σ o R) X.xe s1) X.xe s
theorem zoT{M:sO}{A:aX}{E:qV}{s:aq}{x:bg}{it:aj}{u:af}{o:Obj}{n:String}{vs:Array af}{Q:Unit->aq->Prop}(C:s.heap.get? it=some o)(hc:o.cls=.type n)(hd:o.data=.fields vs)
  (G:["enumerate","zip","dict_itemiterator","dict_reverseitemiterator","odict_iterator","itertools.zip_longest","itertools.pairwise"].contains n=false) (v:Q () s):wpAny M A (letOwnedTupleGo x (.ref it) u) Q E s:=by
 unfold letOwnedTupleGo;cases x <;> first
  | exact ae v
  | (cases u <;> first
    | exact ae v
    | (refine aa (lF C ?_)
       rw[hc,hd];show wpAny M A (if (["enumerate","zip","dict_itemiterator","dict_reverseitemiterator","odict_iterator","itertools.zip_longest","itertools.pairwise"].contains n&&vs[0]? == some (rawInt _))=true then _ else _) Q E s;rw[if_neg (by intro h;rw[G,lG]at h;cases h)];exact ae v))
def Itl(K:qF)(a:aj):It :=
 ⟨fun i H=>∃xs x,SqL K H a xs/\xs[i]?=some x,fun i H x H'=>H'=H/\∀xs,SqL K H a xs->xs[i]?=some x,fun i H=>∃xs,SqL K H a xs/\xs.length<=i⟩
def Itt(K:qF)(a:aj):It :=
 ⟨fun i H=>∃xs x,SqT K H a xs/\xs[i]?=some x,fun i H x H'=>H'=H/\∀xs,SqT K H a xs->xs[i]?=some x,fun i H=>∃xs,SqT K H a xs/\xs.length<=i⟩
def Itr(lo:Int)(n:Nat):It:=⟨fun i _=>i<n,fun i H x H'=>H'=H/\x=.int (lo+i),fun i _=>n<=i⟩
theorem zfb{P:aJ}{w:a7}{K:qF}{tg:bg}(a it:aj):Turn P w K tg (Itl K a) [it] it (fun i h=>h.IsListIter it a i) where
 mem:=by simp
 obj:=fun i h st b l=>by
  have e:b=it:=by simpa using l
  subst e;obtain⟨o,e,c,d⟩:=st;exact⟨o,e,fun v z=>by rw[d]at z;cases z⟩
 keep:=fun i h h' st k=>st.at fun o e=>k it (by simp) o e
 item:=by intro X N hw J hc i pins s σ H E I hf st S;subst N hw J;obtain⟨xs,x,C,hx⟩:=S;obtain⟨its,G,p,hz⟩:=I.list C;obtain⟨u,hu,ru⟩:=G.get hx;obtain⟨f0,f1,f2,R,f4,L⟩:=hf it (by simp);refine wpAny_pyNext_list_item st p.isList (x:=u) (by simpa using hu) fun h' y sb=>?_;have Y:Inv X pins σ H { s with heap:=h' }:=I.turned (t':=s.toks) (fun b o l e=>(sb.2 b l).trans e) f0 f1 R f4 L;obtain⟨o,e,c,d⟩:=id y;exact⟨u,rfl,zoT (s:={ s with heap:=h' }) e c d (by decide) ⟨x,H,Y,ru,⟨rfl,fun ys U=>by rw[I.list_inj U C];exact hx⟩,y,fun b l=>(hf b l).1⟩⟩
 done:=by intro X N hw J hc i pins s σ H E I hf st S;subst N hw J;obtain⟨xs,C,hx⟩:=S;obtain⟨its,G,p,hz⟩:=I.list C;obtain⟨f0,f1,f2,R,f4,L⟩:=hf it (by simp);have hl:=G.length;exact wpAny_pyNext_list_end (I.ok.hd hc) st p.isList (by simp;lia) fun h' Z=>⟨rfl,I.turned (t':=s.toks) (fun b o l e=>Z b o l e) f0 f1 R f4 L⟩
 self:=fun _ _ _ _ _ st h=>wpAny_pyIter_listiter st h
theorem zeb{P:aJ}{w:a7}{K:qF}{tg:bg}(a it:aj):Turn P w K tg (Itt K a) [it] it (fun i h=>h.IsTupleIter it a i) where
 mem:=by simp
 obj:=fun i h st b l=>by
  have e:b=it:=by simpa using l
  subst e;obtain⟨o,e,c,d⟩:=st;exact⟨o,e,fun v z=>by rw[d]at z;cases z⟩
 keep:=fun i h h' st k=>st.at fun o e=>k it (by simp) o e
 item:=by intro X N hw J hc i pins s σ H E I hf st S;subst N hw J;obtain⟨xs,x,C,hx⟩:=S;obtain⟨its,G,p,hz⟩:=I.tuple C;obtain⟨u,hu,ru⟩:=G.get hx;obtain⟨f0,f1,f2,R,f4,L⟩:=hf it (by simp);refine mZ st (show s.heap.IsTuple a its.toArray from p) (x:=u) (by simpa using hu) fun h' y sb=>?_;have Y:Inv X pins σ H { s with heap:=h' }:=I.turned (t':=s.toks) (fun b o l e=>(sb.2 b l).trans e) f0 f1 R f4 L;obtain⟨o,e,c,d⟩:=id y;exact⟨u,rfl,zoT (s:={ s with heap:=h' }) e c d (by decide) ⟨x,H,Y,ru,⟨rfl,fun ys U=>by rw[I.tuple_inj U C];exact hx⟩,y,fun b l=>(hf b l).1⟩⟩
 done:=by intro X N hw J hc i pins s σ H E I hf st S;subst N hw J;obtain⟨xs,C,hx⟩:=S;obtain⟨its,G,p,hz⟩:=I.tuple C;obtain⟨f0,f1,f2,R,f4,L⟩:=hf it (by simp);have hl:=G.length;exact nG (I.ok.hd hc) st (show s.heap.IsTuple a its.toArray from p) (by simp;lia) fun h' Z=>⟨rfl,I.turned (t':=s.toks) (fun b o l e=>Z b o l e) f0 f1 R f4 L⟩
 self:=fun _ _ _ _ _ st h=>wpAny_pyIter_tupleiter st h
theorem zil{P:aJ}{w:a7}{K:qF}{Y:bg}(it:aj)(lo:Int)(n:Nat):Turn P w K Y (Itr lo n) [it] it (fun i h=>IsRangeIter h it (lo+(i:Nat)*1) ((n:Int) - (i:Nat)) 1) where
 mem:=by simp
 obj:=fun i h st b l=>by
  have e:b=it:=by simpa using l
  subst e;exact⟨_,st,fun v z=>by have R:Data.fields _=Data.cell v:=z;cases R⟩
 keep:=fun i h h' st k=>k it (by simp) _ st
 item:=by intro X C hw x hc i pins s σ H E I hf st J;subst C hw x;obtain⟨f0,f1,f2,G,f4,y⟩:=hf it (by simp);have W:=Walks.range (prog:=X.prog) (w:=X.w) (I.ok.hd hc) it lo 1 n;refine W.item i s _ _ J st fun v h' tk L u N=>?_;obtain⟨t,rfl⟩:=L;have S:Inv X pins σ H { s with heap:=h',toks:=tk }:=I.turned (fun b o l e=>N b o (by simpa using l) e) f0 f1 G f4 y;refine⟨_,rfl,zoT (s:={ s with heap:=h',toks:=tk }) (n:="range_iterator") u rfl rfl (by decide) ⟨.int (lo+i),H,S,⟨t,?_⟩,⟨rfl,rfl⟩,u,fun b l=>(hf b l).1⟩⟩;rw[mD]
 done:=by intro X C hw x hc i pins s σ H E I hf st J;subst C hw x;obtain⟨f0,f1,f2,G,f4,y⟩:=hf it (by simp);exact wpAny_pyNext_range_end (I.ok.hd hc) st (by have:n<=i:=J;lia) fun h' U=>⟨rfl,I.turned (t':=s.toks) (fun b o l e=>U b o l e) f0 f1 G f4 y⟩
 self:=fun _ _ _ _ _ st h=>wpAny_pyIter_rangeiter st h
section
variable{X:Cx}{tg:bg}
def ztW(K:qF)(o:TE):TI:=fun σ H R=>o σ H fun x l=>∃a,x=.ref a/\(∃xs,SqL K l a xs)/\R (Itl K a) l
def iTup(K:qF)(o:TE):TI:=fun σ H R=>o σ H fun x l=>∃a,x=.ref a/\(∃xs,SqT K l a xs)/\R (Itt K a) l
theorem zoa{l:bg}{y:TE}(G:PE X l y):PI X tg l (ztW X.K y):=by
 intro pins s σ H R I h;refine thn (G pins s σ H _ I h) fun v s1 ⟨x,S,u,N,C⟩=>?_;obtain⟨a,e,⟨xs,L⟩,q⟩:=C;subst e;cases N;obtain⟨its,U,p,hz⟩:=u.list L;refine gJ p.isList ?_;refine⟨s1.heap.objs.size,[s1.heap.objs.size],_,_,S,rfl,u.kept (t':=s1.toks) fun b o e=>ag _ e,zfb a _,⟨_,ax _ rfl,rfl,rfl⟩,fun b J=>?_,q⟩;have e:b=s1.heap.objs.size:=by simpa using J
 subst e;exact u.fpOk (aD _) (u.hok.fresh (aD _))
theorem zqk{l:bg}{y:TE}(G:PE X l y):PI X tg l (iTup X.K y):=by
 intro pins s σ H R I h;refine thn (G pins s σ H _ I h) fun v s1 ⟨x,S,u,N,C⟩=>?_;obtain⟨a,e,⟨xs,L⟩,q⟩:=C;subst e;cases N;obtain⟨its,U,p,hz⟩:=u.tuple L;refine ik (show s1.heap.IsTuple a its.toArray from p) ?_;refine⟨s1.heap.objs.size,[s1.heap.objs.size],_,_,S,rfl,u.kept (t':=s1.toks) fun b o e=>ag _ e,zeb a _,⟨_,ax _ rfl,rfl,rfl⟩,fun b J=>?_,q⟩;have e:b=s1.heap.objs.size:=by simpa using J
 subst e;exact u.fpOk (aD _) (u.hok.fresh (aD _))
theorem zl6{pins:qO}{σ:St}{H:Hp}{s:aq}{R:It->Hp->Prop}{E:qV}{lo hi:Int}{t u v:Tok}{tk:Nat}(I:Inv X pins σ H s)(h1:-(2 ^ 62)<=lo)(J:lo<2 ^ 62)(G:-(2 ^ 62)<=hi)(U:hi<2 ^ 62)
  (q:R (Itr lo (hi - lo).toNat) H):wpAny (model X.prog X.w) X.A (pyIter (.ref s.heap.objs.size)) (PIE X pins σ tg R) E { s with heap:=s.heap.push { cls:=.type "range",data:=.fields #[.int lo t,.int hi u,.int 1 v] },toks:=tk }:=by
 refine wpAny_pyIter_range (IsRange.new ..) (small_one h1 J G U) ?_;have x:Inv X pins σ H { s with heap:=s.heap.push { cls:=.type "range",data:=.fields #[.int lo t,.int hi u,.int 1 v] },toks:=tk }:=I.kept fun b o e=>ag _ e;refine⟨(s.heap.push { cls:=.type "range",data:=.fields #[.int lo t,.int hi u,.int 1 v] }).objs.size,[(s.heap.push { cls:=.type "range",data:=.fields #[.int lo t,.int hi u,.int 1 v] }).objs.size],_,_,H,rfl,
  x.kept (t':=tk) fun b o e=>ag _ e,zil _ lo (hi - lo).toNat,?_,fun b L=>?_,q⟩
 have S:lo+((0:Nat):Int)*1=lo:=by simp
 have C:(((hi - lo).toNat:Nat):Int) - ((0:Nat):Int)=vJ lo hi 1:=by rw[rangeSize_one];split <;> lia
 show IsRangeIter _ _ (lo+((0:Nat):Int)*1) ((((hi - lo).toNat:Nat):Int) - ((0:Nat):Int)) 1;rw[S,C];exact ax _ rfl;have e:b=(s.heap.push { cls:=.type "range",data:=.fields #[.int lo t,.int hi u,.int 1 v] }).objs.size:=by simpa using L
 subst e;exact x.fpOk (aD _) (x.hok.fresh (aD _))
def ztV(o:TA):TI:=fun σ H R=>o σ H fun vs l=>∃j:Int,vs=[.int j]/\-(2 ^ 62)<=j/\j<2 ^ 62/\R (Itr 0 j.toNat) l
theorem zjZ{a:bg}{u:TA}{p pos:Pos}(S:Gl X "range") (U:X.mg "range" = none) (x:PA X [a] u) (y:starEach [a] X.env=[(false,eval a X.env)]:=by rfl):PI X tg (.Call (.Name "range" p) [a] [] pos) (ztV u):=by
 intro pins s σ H R I h;refine Call_ (Ul I S U boot_range (gK (thn (x pos pins s σ H _ I h) fun Y s1 ⟨vs,Z,G,J,o⟩=>?_) y rfl));obtain⟨j,e,o,v,q⟩:=o;subst e;cases J with
 | cons r L =>cases L;obtain⟨t,rfl⟩:=r;exact call_range_1 (zl6 G (by lia) (by lia) o v (by simpa using q))
def tFor(v:TI)(g:TG)(y:TS):TS:=fun D σ H=>v σ H fun J u=>∃W:Nat->Nat->St->Hp->Prop,(∃m,W 0 m σ u)/\∀i m σ H,W i m σ H ->
 (J.stop i H/\D.nx σ H)\/(J.go i H/\∃N:St->Hp->Prop,(∀σ' H',N σ' H'->∃o,o<m/\W (i+1) o σ' H')/\∀x H',J.yld i H x H'->g x σ H' fun l C=>y { D with nx:=N,ct:=N,bk:=D.nx } l C)
def US(l:List aj)(h:aW):List (aj×Obj):=l.filterMap fun b=>(h.get? b).map fun o=>(b,o)
theorem ZS{l:List aj}{h:aW}{b:aj}{o:Obj}(u:b∈l)(e:h.get? b=some o):(b,o)∈US l h:=gq.mpr ⟨b,u,by rw[e];rfl⟩
theorem zkf{l:List aj}{h:aW}{p:aj×Obj}(v:p∈US l h):p.1∈l/\h.get? p.1=some p.2:=by
 obtain⟨b,x,e⟩:=gq.mp v;cases q:h.get? b with
 | none=>rw[q]at e;cases e
 | some o =>rw[q]at e;have u:(b,o)=p:=aQ e;subst u;exact⟨x,q⟩
theorem Inv.pinned{pins:qO}{σ:St}{H:Hp}{s:aq}{u:List aj}(I:Inv X pins σ H s)(hf:∀b∈u,FpOk X pins H b)(C:∀b∈u,∃o,s.heap.get? b=some o/\∀v,o.data≠.cell v):Inv X (pins++US u s.heap) σ H s :=
 I.pins_of fun p G=>(aC.mp G).elim (fun z=>I.pin p (aK _ z)) fun z=>by obtain⟨y,e⟩:=zkf z;obtain⟨f0,f1,f2,_⟩:=hf p.1 y;obtain⟨o,x,d⟩:=C p.1 y;rw[e]at x;cases x;exact⟨e,f0,f1,f2,d⟩
theorem Inv.unpinned{pins pl:qO}{σ:St}{H:Hp}{s:aq}(I:Inv X (pins++pl) σ H s):Inv X pins σ H s:=I.pins_of fun p l=>I.pin p (aK _ (fG _ l))
theorem zqh{iter:bg}{body:List eK}{wi:TI}{g:TG}{tb:TS}{pos:Pos}(U:sv (model X.prog X.w) X.A X.env X.xe)(hc:X.calm=true)(hi:PI X tg iter wi)(hg:PG X tg g)(C:PSs X body tb)
  (hs:∀x,foldedSetIterable iter X.env x=pure x:=by intro _;rfl):PS X (.For tg iter body [] pos) (tFor wi g tb):=by
 intro pins s σ H D I h;refine wpAny_For (thn (hi pins s σ H _ I h) fun v s1 h1=>thn h1 fun itv s2 h2=>?_) hs;obtain⟨it,Y,tn,J,H2,e,I2,T,st2,f2,W,⟨m0,w0⟩,turn⟩:=h2;subst e;have Lo:∀{H':Hp},(∀b∈Y,H' b=none)->∀b∈Y,FpOk X pins H' b:=fun hn b C=>⟨hn b C,(f2 b C).2⟩;refine codeAny_forLoop_any (fun n s'=>∃i σ' H',Inv X pins σ' H' s'/\tn i s'.heap/\(∀b∈Y,H' b=none)/\W i n σ' H') ?_ m0 ⟨0,σ,H2,I2,st2,fun b C=>(f2 b C).1,w0⟩;rintro n s3 ⟨i,G,H3,I3,st3,fr3,w3⟩;rcases turn i n G H3 w3 with⟨stop,qn⟩|⟨go,N,hN,step⟩
 ·refine fB U (thn (T.done X rfl rfl rfl hc i pins s3 G H3 X.xe I3 (Lo fr3) st3 stop) fun r s4 ⟨hr,I4⟩=>?_);subst hr;exact kC ⟨G,H3,I4,qn⟩
 ·refine fB U (thn (T.item X rfl rfl rfl hc i pins s3 G H3 X.xe I3 (Lo fr3) st3 go) fun r s4 ⟨u,hr,h4⟩=>?_);subst hr;refine fB U (thn h4 fun _ s5 ⟨x,H5,I5,r5,y5,S,fr5⟩=>?_);have I5':=I5.pinned (Lo fr5) (T.obj _ _ S);refine fB U (thn (hg _ s5 G H5 x u _ I5' r5 (step x H5 y5)) fun _ s6 ⟨σ6,H6,I6,q6⟩=>?_);refine fB U (thn (C _ s6 σ6 H6 _ I6 q6) fun f s7 R=>?_);have again:∀{l:St} {L:Hp},Inv X (pins++US Y s5.heap) l L s7->N l L->∃m,m<n/\∃i σ' H',Inv X pins σ' H' s7/\tn i s7.heap/\(∀b∈Y,H' b=none)/\W i m σ' H':=fun {l L} y Z=>by
   obtain⟨m',hm,w7⟩:=hN l L Z;refine⟨m',hm,i+1,l,L,y.unpinned,T.keep _ _ _ S fun b C o e=>(y.pin (b,o) (aK _ (aK _ (ZS C e)))).1,fun b C=>?_,w7⟩;obtain⟨o,e,d⟩:=T.obj _ _ S b C;exact(y.pin (b,o) (aK _ (aK _ (ZS C e)))).2.1
  cases f with
  | next=>obtain⟨l,L,y,Z⟩:=R;exact again y Z
  | cont=>obtain⟨l,L,y,Z⟩:=R;exact again y Z
  | brk=>obtain⟨l,L,y,R⟩:=R;exact⟨l,L,y.unpinned,R⟩
  | ret v=>obtain⟨x7,l,L,y,r7,R⟩:=R;exact⟨x7,l,L,y.unpinned,r7,R⟩
end
abbrev R2:=V->V->Hp->VK->Prop
def OpR(X:Cx)(f:af->af->Sem af)(r:R2):Prop :=
 ∀(pins:qO) (s:aq) (σ:St) (H:Hp) (x y:V) (v u:af) (Q:VK),Inv X pins σ H s->RelV x v->RelV y u->r x y H Q ->
  wpAny (model X.prog X.w) X.A (f v u) (EP X pins σ Q) X.xe s
def UnR(X:Cx)(f:af->Sem af)(r:V->Hp->VK->Prop):Prop :=
 ∀(pins:qO) (s:aq) (σ:St) (H:Hp) (x:V) (v:af) (Q:VK),Inv X pins σ H s->RelV x v->r x H Q ->
  wpAny (model X.prog X.w) X.A (f v) (EP X pins σ Q) X.xe s
def JI(X:Cx)(f:af)(r:List V->Hp->VK->Prop):Prop :=
 ∀(pins:qO) (s:aq) (σ:St) (H:Hp) (xs:List V) (l:List af) (Q:VK),Inv X pins σ H s->Vals xs l->r xs H Q ->
  wpAny (model X.prog X.w) X.A (call f l) (EP X pins σ Q) X.xe s
def TruR(X:Cx)(r:V->Hp->(Bool->Hp->Prop)->Prop):Prop :=
 ∀(pins:qO) (s:aq) (σ:St) (H:Hp) (x:V) (v:af) (Q:Bool->Hp->Prop),Inv X pins σ H s->RelV x v->r x H Q ->
  wpAny (model X.prog X.w) X.A (truthy v) (TP X pins σ Q) X.xe s
def tOp(r:R2)(o u:TE):TE:=fun σ H Q=>o σ H fun x l=>u σ l fun y v=>r x y v Q
def tUn(r:V->Hp->VK->Prop)(o:TE):TE:=fun σ H Q=>o σ H fun x l=>r x l Q
def rI(C:Int->Int->Prop)(g:Int->Int->V):R2:=fun x y H Q=>∃i j,x=.int i/\y=.int j/\C i j/\Q (g i j) H
def rI0(g:Int->Int->V):R2:=fun x y H Q=>∃i j,x=.int i/\y=.int j/\Q (g i j) H
def rU(g:Int->V):V->Hp->VK->Prop:=fun x H Q=>∃i,x=.int i/\Q (g i) H
section
variable{X:Cx}{a b c:bg}{ta tb tc:TE}{pos:Pos}
theorem binT(N:PE X a ta)(Y:PE X b tb){pins:qO}{s:aq}{σ:St}{H:Hp}{R:V->V->Hp->Prop}(I:Inv X pins σ H s)
  (h:ta σ H fun x G=>tb σ G fun y l=>R x y l) {Q:qV} {f:af->af->Sem af}
  (hf:∀v u s2 x y l,Inv X pins σ l s2->RelV x v->RelV y u->R x y l->wpAny (model X.prog X.w) X.A (f v u) Q X.xe s2) :
  wpAny (model X.prog X.w) X.A (eval a X.env) (fun v o=>wpAny (model X.prog X.w) X.A (eval b X.env) (fun u C=>wpAny (model X.prog X.w) X.A (f v u) Q X.xe C) X.xe o) X.xe s:=by
 refine thn (N pins s σ H _ I h) fun v s1 ⟨x,G,U,r1,J⟩=>?_;refine thn (Y pins s1 σ G _ U J) fun u s2 ⟨y,l,S,Z,L⟩=>?_;exact hf v u s2 x y l S r1 Z L
theorem Jy{op:Operator}{r:R2}(l:OpR X (binaryOp op) r)(C:PE X a ta)(N:PE X b tb):PE X (.BinOp a op b pos) (tOp r ta tb):=by intro pins s σ H Q I h;exact wpAny_BinOp (binT C N I h fun v u s2 x y G J L o q=>l pins s2 σ G x y v u Q J L o q)
theorem ztj{op:UnaryOp}{r:V->Hp->VK->Prop}(o:UnR X (unaryOp op) r)(J:PE X a ta):PE X (.UnaryOp op a pos) (tUn r ta):=by intro pins s σ H Q I h;exact UnaryOp_ (thn (J pins s σ H _ I h) fun v s1 ⟨x,u,C,G,l⟩=>o pins s1 σ u x v Q C G l)
theorem opI{f:af->af->Sem af}{C:Int->Int->Prop}{g:Int->Int->Int}
  (rule:∀(i j:Int) (t u:Tok) (s:aq) (Q:qV) (E:qV),C i j->Q (.int (g i j) s.toks) { s with toks:=s.toks+1 }->wpAny (model X.prog X.w) X.A (f (.int i t) (.int j u)) Q E s) :
  OpR X f (rI C fun i j=>.int (g i j)):=by
 intro pins s σ H x y v u Q I o l h;obtain⟨i,j,rfl,rfl,hc,q⟩:=h;obtain⟨t,rfl⟩:=o;obtain⟨t',rfl⟩:=l;exact rule i j t t' s _ _ hc ⟨.int (g i j),H,I.tok _,⟨_,rfl⟩,q⟩
theorem opI0{f:af->af->Sem af}{g:Int->Int->Int}
  (rule:∀(i j:Int) (t u:Tok) (s:aq) (Q:qV) (E:qV),Q (.int (g i j) s.toks) { s with toks:=s.toks+1 }->wpAny (model X.prog X.w) X.A (f (.int i t) (.int j u)) Q E s) :
  OpR X f (rI0 fun i j=>.int (g i j)):=by
 intro pins s σ H x y v u Q I o l h;obtain⟨i,j,rfl,rfl,q⟩:=h;obtain⟨t,rfl⟩:=o;obtain⟨t',rfl⟩:=l;exact rule i j t t' s _ _ ⟨.int (g i j),H,I.tok _,⟨_,rfl⟩,q⟩
theorem opB0{f:af->af->Sem af}{g:Int->Int->Bool}
  (rule:∀(i j:Int) (t u:Tok) (s:aq) (Q:qV) (E:qV),Q (.bool (g i j)) s->wpAny (model X.prog X.w) X.A (f (.int i t) (.int j u)) Q E s) :
  OpR X f (rI0 fun i j=>.bl (g i j)):=by
 intro pins s σ H x y v u Q I G C h;obtain⟨i,j,rfl,rfl,q⟩:=h;obtain⟨t,rfl⟩:=G;obtain⟨t',rfl⟩:=C;exact rule i j t t' s _ _ ⟨.bl (g i j),H,I,rfl,q⟩
def CPow(i j:Int):Prop:=0<=j/\j<=1000000/\i.natAbs<2 ^ 64
def CMul(i j:Int):Prop:=(-(2 ^ 64)<i/\i<2 ^ 64)\/(-(2 ^ 64)<j/\j<2 ^ 64)
theorem CMul.ok{i j:Int}(h:CMul i j):IntMulOk i j:=by rcases h with⟨h1,u⟩|⟨h1,u⟩;exact .of_left (intBits_le_64 h1 u);exact .of_right (intBits_le_64 h1 u)
theorem zij(k:Nat):(0:Int)<=2 ^ k:=by rw[two_pow_cast];exact lH _
theorem QA:OpR X (binaryOp .Add) (rI0 fun i j=>.int (i+j)):=opI0 fun _ _ _ _ _ _ _ q=>add_int q
theorem zqu:OpR X (binaryOp .Sub) (rI0 fun i j=>.int (i - j)):=opI0 fun _ _ _ _ _ _ _ q=>sub_int q
theorem QB:OpR X (binaryOp .Mult) (rI CMul fun i j=>.int (i*j)):=opI fun _ _ _ _ _ _ _ hc q=>mul_int q hc.ok
theorem QZ:OpR X (binaryOp .Mod) (rI (fun _ j=>0<j) fun i j=>.int (i % j)):=opI fun i j _ _ _ _ _ hc q=>by have h1:(0:Int)<j:=hc;exact mod_int' (by lia) (by rw[Int.fmod_eq_emod_of_nonneg i (by lia)];exact q)
theorem zqx:OpR X (binaryOp .Pow) (rI CPow fun i j=>.int (i ^ j.toNat)):=opI fun _ _ _ _ _ _ _ hc q=>pow_int_small hc.1 hc.2.1 hc.2.2 q
theorem zqw:OpR X (binaryOp .LShift) (rI CPow fun i j=>.int (i*2 ^ j.toNat)):=opI fun _ _ _ _ _ _ _ hc q=>lshift_int_small hc.1 hc.2.1 hc.2.2 q
theorem zqv:OpR X (binaryOp .RShift) (rI (fun _ j=>0<=j) fun i j=>.int (i / 2 ^ j.toNat)):=opI fun i j _ _ _ _ _ hc q =>
 rshift_int hc (by rw[lI i (zij _)];exact q)
theorem zqF:OpR X (binaryOp .BitAnd) (rI0 fun i j=>.int (gP i j)):=opI0 fun _ _ _ _ _ _ _ q=>and_int q
theorem zqt:OpR X (binaryOp .BitXor) (rI0 fun i j=>.int (cY i j)):=opI0 fun _ _ _ _ _ _ _ q=>xor_int q
theorem unI{f:af->Sem af}{g:Int->Int}
  (rule:∀(i:Int) (t:Tok) (s:aq) (Q:qV) (E:qV),Q (.int (g i) s.toks) { s with toks:=s.toks+1 }->wpAny (model X.prog X.w) X.A (f (.int i t)) Q E s) :
  UnR X f (rU fun i=>.int (g i)):=by
 intro pins s σ H x v Q I l h;obtain⟨i,rfl,q⟩:=h;obtain⟨t,rfl⟩:=l;exact rule i t s _ _ ⟨.int (g i),H,I.tok _,⟨_,rfl⟩,q⟩
theorem zpG:UnR X (unaryOp .USub) (rU fun i=>.int (-i)):=unI fun _ _ _ _ _ q=>neg_int q
end
def scal:V->V->Bool
 | .non,.non=>true|.non,.int _=>true|.int _,.non=>true|.non,.bl _=>true|.bl _,.non=>true|.non,.str _=>true|.str _,.non=>true
 | .int _,.int _=>true|.bl _,.bl _=>true|.str _,.str _=>true|.byt _,.byt _=>true
 | .int _,.str _=>true|.str _,.int _=>true|.bl _,.str _=>true|.str _,.bl _=>true
 | _,_=>false
def rEq:R2:=fun x y H Q=>scal x y=true/\Q (.bl (decide (x=y))) H
def rNe:R2:=fun x y H Q=>scal x y=true/\Q (.bl (!decide (x=y))) H
theorem zk5{i j:Int}:decide (V.int i=V.int j)=(i == j):=by rw[ic];simp
theorem zny{i j:Bool}:decide (V.bl i=V.bl j)=(i == j):=by rw[ic];simp
theorem zk4{i j:Str}:decide (V.str i=V.str j)=(i == j):=by rw[ic];simp
theorem zk6{i j:Array UInt8}:decide (V.byt i=V.byt j)=(i.toList == j.toList):=by rw[ic];cases i;cases j;simp
section
variable{X:Cx}{a b c:bg}{ta tb tc:TE}{pos:Pos}
theorem Jp{pins:qO}{σ:St}{H:Hp}{s:aq}{Q:VK}{k u:Bool}(I:Inv X pins σ H s)(q:Q (.bl k) H)(e:k=u):EP X pins σ Q (.bool u) s:=by subst e;exact⟨.bl k,H,I,rfl,q⟩
theorem ztp:OpR X (compareOp .Eq) rEq:=by
 intro pins s σ H x y v u Q I C l h;obtain⟨o,q⟩:=h;cases x with
 | non =>
  cases C;cases y with
  | non=>cases l;exact ug (Jp I q (by simp))
  | bl j=>cases l;exact uh (Jp I q (by simp))
  | int j=>obtain⟨t',rfl⟩:=l;exact uN (Jp I q (by simp))
  | str j=>obtain⟨t',rfl⟩:=l;exact uO (Jp I q (by simp))
  | _=>exact absurd (show false=true from o) bf
 | bl i =>
  cases C;cases y with
  | non=>cases l;exact uj (Jp I q (by simp))
  | bl j=>cases l;exact eq_bool (Jp I q zny)
  | str j=>obtain⟨t',rfl⟩:=l;exact um (Jp I q (by simp))
  | _=>exact absurd (show false=true from o) bf
 | int i =>
  obtain⟨t,rfl⟩:=C;cases y with
  | non=>cases l;exact uP (Jp I q (by simp))
  | int j=>obtain⟨t',rfl⟩:=l;exact eq_int (Jp I q zk5)
  | str j=>obtain⟨t',rfl⟩:=l;exact uQ (Jp I q (by simp))
  | _=>exact absurd (show false=true from o) bf
 | str i =>
  obtain⟨t,rfl⟩:=C;cases y with
  | non=>cases l;exact uR (Jp I q (by simp))
  | bl j=>cases l;exact uo (Jp I q (by simp))
  | int j=>obtain⟨t',rfl⟩:=l;exact uS (Jp I q (by simp))
  | str j=>obtain⟨t',rfl⟩:=l;exact eq_str (Jp I q zk4)
  | _=>exact absurd (show false=true from o) bf
 | byt i =>
  obtain⟨t,rfl⟩:=C;cases y with
  | byt j=>obtain⟨t',rfl⟩:=l;exact PySem.W.eq_bytes (Jp I q zk6)
  | _=>exact absurd (show false=true from o) bf
 | _=>cases y <;> exact absurd (show false=true from o) bf
theorem ztm:OpR X (compareOp .NotEq) rNe:=by
 intro pins s σ H x y v u Q I G l h;obtain⟨C,q⟩:=h;cases x with
 | non =>
  cases G;cases y with
  | non=>cases l;exact uq (Jp I q (by simp))
  | bl j=>cases l;exact ur (Jp I q (by simp))
  | int j=>obtain⟨t',rfl⟩:=l;exact uT (Jp I q (by simp))
  | str j=>obtain⟨t',rfl⟩:=l;exact uU (Jp I q (by simp))
  | _=>exact absurd (show false=true from C) bf
 | bl i =>
  cases G;cases y with
  | non=>cases l;exact uu (Jp I q (by simp))
  | bl j=>cases l;exact ne_bool (Jp I q (congrArg not zny))
  | str j=>obtain⟨t',rfl⟩:=l;exact uw (Jp I q (by simp))
  | _=>exact absurd (show false=true from C) bf
 | int i =>
  obtain⟨t,rfl⟩:=G;cases y with
  | non=>cases l;exact uV (Jp I q (by simp))
  | int j=>obtain⟨t',rfl⟩:=l;exact ne_int (Jp I q (congrArg not zk5))
  | str j=>obtain⟨t',rfl⟩:=l;exact uW (Jp I q (by simp))
  | _=>exact absurd (show false=true from C) bf
 | str i =>
  obtain⟨t,rfl⟩:=G;cases y with
  | non=>cases l;exact uX (Jp I q (by simp))
  | bl j=>cases l;exact uz (Jp I q (by simp))
  | int j=>obtain⟨t',rfl⟩:=l;exact uY (Jp I q (by simp))
  | str j=>obtain⟨t',rfl⟩:=l;exact ne_str (Jp I q (congrArg not zk4))
  | _=>exact absurd (show false=true from C) bf
 | byt i =>
  obtain⟨t,rfl⟩:=G;cases y with
  | byt j=>obtain⟨t',rfl⟩:=l;exact PySem.W.ne_bytes (Jp I q (congrArg not zk6))
  | _=>exact absurd (show false=true from C) bf
 | _=>cases y <;> exact absurd (show false=true from C) bf
theorem zqA:OpR X (compareOp .Lt) (rI0 fun i j=>.bl (decide (i<j))):=opB0 fun _ _ _ _ _ _ _ q=>lt_int q
theorem ztn:OpR X (compareOp .LtE) (rI0 fun i j=>.bl (decide (i<=j))):=opB0 fun _ _ _ _ _ _ _ q=>le_int q
theorem YA:OpR X (compareOp .Gt) (rI0 fun i j=>.bl (decide (j<i))):=opB0 fun _ _ _ _ _ _ _ q=>gt_int q
theorem zto:OpR X (compareOp .GtE) (rI0 fun i j=>.bl (decide (j<=i))):=opB0 fun _ _ _ _ _ _ _ q=>ge_int q
theorem zj8:OpR X (compareOp .Lt) (fun x y H Q=>∃i j,x=.str i/\y=.str j/\Q (.bl (decide (i.cps.toList<j.cps.toList))) H):=by intro pins s σ H x y v u Q I C o h;obtain⟨i,j,rfl,rfl,q⟩:=h;obtain⟨t,rfl⟩:=C;obtain⟨t',rfl⟩:=o;exact lt_str (Jp I q rfl)
theorem OpR.or{f:af->af->Sem af}{r o:R2}(h:OpR X f r)(h':OpR X f o):OpR X f (fun x y H Q=>r x y H Q\/o x y H Q):=by intro pins s σ H x y v u Q I C l q;rcases q with q|q;exact h pins s σ H x y v u Q I C l q;exact h' pins s σ H x y v u Q I C l q
theorem JE(b:bg){op:xn}(h:op≠.In:=by decide)(u:op≠.NotIn:=by decide):behindInMarks op b=false:=by
 have l:(op == CmpOp.In)=false:=by cases op <;> first|rfl|exact absurd rfl h
 have v:(op == CmpOp.NotIn)=false:=by cases op <;> first|rfl|exact absurd rfl u
 cases b <;> simp[behindInMarks,l,v]
theorem zj2{op:xn}{r:R2}(l:OpR X (compareOp op) r)(J:PE X a ta)(S:PE X b tb)(U:behindInMarks op b=false):PE X (.Compare a [op] [b] pos) (tOp r ta tb):=by intro pins s σ H Q I h;exact wpAny_Compare1 (binT J S I h fun v u s2 x y L N R G q=>l pins s2 σ L x y v u Q N R G q) U
def zsK(t:TE):TT:=fun σ H Q=>t σ H fun x H'=>∃k,x=.bl k/\Q k H'
theorem zgx{op:xn}{r:R2}(G:OpR X (compareOp op) r)(R:PE X a ta)(hb:PE X b tb)(hm:behindInMarks op b=false):PT X (.Compare a [op] [b] pos) (zsK (tOp r ta tb)):=by
 intro pins s σ H Q I h;refine wpAny_isTrue_Compare1 (thn (R pins s σ H _ I h) fun v s1 ⟨x,H1,Y,r1,l⟩=>thn (hb pins s1 σ H1 _ Y l) fun u s2 ⟨y,S,U,r2,N⟩ =>
  thn (G pins s2 σ S x y v u _ U r1 r2 N) fun c s3 ⟨z,J,L,Z,k,e,q3⟩=>?_) hm
 subst e;cases Z;exact dX ⟨J,L,q3⟩
def zpP(r C:R2)(ta tb tc:TE):TE:=fun σ H Q=>ta σ H fun x v=>tb σ v fun y I=>r x y I fun z o=>∃k,z=.bl k /\
 (if k=true then tc σ o fun G u=>C y G u Q else Q (.bl false) o)
theorem zmd{op G:xn}{r R:R2}(Z:OpR X (compareOp op) r)(J:OpR X (compareOp G) R)(ha:PE X a ta)(hb:PE X b tb)(hc:PE X c tc)
  (hm:lastMarks [op,G] [b,c]=false:=by with_unfolding_all rfl):PE X (.Compare a [op,G] [b,c] pos) (zpP r R ta tb tc):=by
 intro pins s σ H Q I h;refine Compare_chain (thn (ha pins s σ H _ I h) fun v s1 ⟨x,H1,I1,r1,Y⟩=>chain_link (thn (hb pins s1 σ H1 _ I1 Y) fun u s2 ⟨y,H2,I2,S,q2⟩ =>
  thn (Z pins s2 σ H2 x y v u _ I2 r1 S q2) fun d s3 ⟨z,L,N,r3,k,e,U⟩=>?_)) hm
 subst e;cases r3;refine dX ?_;cases k with
 | false=>exact ite_ff ⟨.bl false,L,N,rfl,U⟩
 | true=>exact ite_tt (chain_last (thn (hc pins s3 σ L _ N U) fun w' s4 ⟨z',H4,I4,r4,q4⟩=>J pins s4 σ H4 y z' u w' Q I4 S r4 q4))
def TruV(K:qF)(x:V)(H:Hp)(k:Bool):Prop :=
 match x with
 | .non=>k=false
 | .bl b=>k=b
 | .int i=>k=(i != 0)
 | .str y=>y.length<=sizeLine/\k=((y.length:Int) != 0)
 | .byt y=>y.size<=sizeLine/\k=((y.size:Int) != 0)
 | .ref p=>(∃xs,SqL K H p xs/\k=!xs.isEmpty)\/(∃xs,SqT K H p xs/\k=!xs.isEmpty)\/∃u,H p=some (.dK u)/\k=!u.isEmpty
 | _=>False
theorem ziT{o:Type}{l:List (o×V)}{vs:List (o×af)}(r:KV l vs):(!vs.isEmpty)=!l.isEmpty:=by cases r <;> rfl
theorem zem{xs:List V}{its:List af}(r:Vals xs its):(!its.toArray.isEmpty)=!xs.isEmpty:=by cases r <;> simp
theorem QY:(sizeLine:Nat)<2 ^ 63:=by rw[eT];decide
theorem zpK:TruR X (fun x H Q=>∃k,TruV X.K x H k/\Q k H):=by
 intro pins s σ H x v Q I G h;obtain⟨k,e,q⟩:=h;have R:=QY;have N:sizeLine=16777216:=eT;cases x with
 | non =>cases G;have o:k=false:=e;subst o;exact truthy_none ⟨H,I,q⟩
 | bl b =>cases G;have o:k=b:=e;subst o;exact dX ⟨H,I,q⟩
 | int i =>obtain⟨t,rfl⟩:=G;have o:k=(i != 0):=e;subst o;exact PySem.P.truthy_int ⟨H,I,q⟩
 | str y =>obtain⟨t,rfl⟩:=G;obtain⟨J,o⟩:y.length<=sizeLine/\k=((y.length:Int) != 0):=e;subst o;exact PySem.P.truthy_str (by lia) ⟨H,I.tok _,q⟩
 | byt y =>obtain⟨t,rfl⟩:=G;obtain⟨J,o⟩:y.size<=sizeLine/\k=((y.size:Int) != 0):=e;subst o;exact PySem.W.truthy_bytes (by lia) ⟨H,I.tok _,q⟩
 | ref p =>cases G;have o:(∃xs,SqL X.K H p xs/\k=!xs.isEmpty)\/(∃xs,SqT X.K H p xs/\k=!xs.isEmpty)\/∃u,H p=some (.dK u)/\k=!u.isEmpty:=e;rcases o with⟨xs,hx,o⟩|⟨xs,hx,o⟩|⟨u,hx,o⟩;subst o;obtain⟨its,r,pl,hz⟩:=I.list hx;have C:=r.length;exact wpAny_truthy_list pl.isList (by simp only[aG];lia) ⟨H,I.tok _,by rw[zem r];exact q⟩;subst o;obtain⟨its,r,pl,hz⟩:=I.tuple hx;have C:=r.length;exact truthy_tuple pl (by simp only[aG];lia) ⟨H,I.tok _,by rw[zem r];exact q⟩;subst o;obtain⟨hz,L,vs,r,m⟩:u.length<=sizeLine/\(p == sysModules)=false/\∃vs,KV u vs/\s.heap.DictOf (Ju X.prog X.w) p vs:=I.hok p _ hx;have C:u.length=vs.length:=fP r;exact wpAny_truthy_dict L m (by lia) ⟨H,I.tok _,by rw[ziT r];exact q⟩
 | _=>exact(show False from e).elim
theorem zl8(o:PE X a ta)(he:∀whole,isTrue a X.env whole=(do let v <- whole;standAt a.pos;holding [v] (truthy v))) :
  PT X a (fun σ H Q=>ta σ H fun x H'=>∃k,TruV X.K x H' k/\Q k H'):=by
 intro pins s σ H Q I h;exact isTrue_plain (thn (o pins s σ H _ I h) fun v s1 ⟨x,C,u,y,l⟩=>zpK pins s1 σ C x v Q u y l) (he _)
theorem ziB:OpR X (binaryOp .Add) (fun x y H Q=>∃i j,x=.str i/\y=.str j/\i.length+j.length<=sizeLine/\Q (.str (i++j)) H):=by intro pins s σ H x y v u Q I o l h;obtain⟨i,j,rfl,rfl,hz,q⟩:=h;obtain⟨t,rfl⟩:=o;obtain⟨t',rfl⟩:=l;exact add_str (fun t' tk=>⟨.str (i++j),H,I.tok _,⟨_,rfl⟩,q⟩) hz
theorem vals1{x:V}{l:List af}(r:Vals [x] l):∃u,l=[u]/\RelV x u:=by
 cases r with
 | cons v o=>cases o;exact⟨_,rfl,v⟩
theorem vals2{x y:V}{l:List af}(r:Vals [x,y] l):∃u o,l=[u,o]/\RelV x u/\RelV y o:=by
 cases r with
 | cons C v =>
  cases v with
  | cons G I=>cases I;exact⟨_,_,rfl,C,G⟩
theorem ZB(hc:X.calm=true):JI X (.builtin "max") (fun xs H Q=>∃i j,xs=[.int i,.int j]/\Q (.int (if j > i then j else i)) H):=by intro pins s σ H xs o Q I r h;obtain⟨i,j,rfl,q⟩:=h;obtain⟨u,v,rfl,⟨t,rfl⟩,⟨t',rfl⟩⟩:=vals2 r;refine max_two_ints (I.ok.hd hc) fun h' tk k=>⟨_,H,I.kept k,?_,q⟩;by_cases hj:j > i;rw[if_pos hj,if_pos hj];exact⟨_,rfl⟩;rw[if_neg hj,if_neg hj];exact⟨_,rfl⟩
theorem Yl(hc:X.calm=true):JI X (.builtin "min") (fun xs H Q=>∃i j,xs=[.int i,.int j]/\Q (.int (if j<i then j else i)) H):=by intro pins s σ H xs o Q I r h;obtain⟨i,j,rfl,q⟩:=h;obtain⟨u,v,rfl,⟨t,rfl⟩,⟨t',rfl⟩⟩:=vals2 r;refine min_two_ints (I.ok.hd hc) fun h' tk k=>⟨_,H,I.kept k,?_,q⟩;by_cases hj:j<i;rw[if_pos hj,if_pos hj];exact⟨_,rfl⟩;rw[if_neg hj,if_neg hj];exact⟨_,rfl⟩
theorem zlr:JI X (.type "int") (fun xs H Q=>(∃i,xs=[.int i]/\Q (.int i) H)\/∃k,xs=[.bl k]/\Q (.int (if k then 1 else 0)) H):=by intro pins s σ H xs v Q I r h;rcases h with⟨i,rfl,q⟩|⟨k,rfl,q⟩;obtain⟨u,rfl,t,rfl⟩:=vals1 r;exact call_int_int ⟨.int i,H,I,⟨_,rfl⟩,q⟩;obtain⟨u,rfl,o⟩:=vals1 r;cases o;exact call_int_bool ⟨.int (if k then 1 else 0),H,I.tok _,⟨_,rfl⟩,q⟩
def LenV(K:qF)(x:V)(H:Hp)(n:Nat):Prop :=
 match x with
 | .str y=>y.length<=sizeLine/\n=y.length
 | .byt y=>y.size<=sizeLine/\n=y.size
 | .ref p=>(∃xs,SqL K H p xs/\n=xs.length)\/∃xs,SqT K H p xs/\n=xs.length
 | _=>False
theorem Uz:JI X (.builtin "len") (fun xs H Q=>∃x n,xs=[x]/\LenV X.K x H n/\Q (.int n) H):=by
 intro pins s σ H xs L Q I r h;obtain⟨x,n,rfl,e,q⟩:=h;obtain⟨u,rfl,C⟩:=vals1 r;have R:=QY;have N:sizeLine=16777216:=eT;cases x with
 | str y =>obtain⟨t,rfl⟩:=C;obtain⟨J,v⟩:y.length<=sizeLine/\n=y.length:=e;subst v;exact len_str (by lia) ⟨.int _,H,I.tok _,⟨_,rfl⟩,q⟩
 | byt y =>obtain⟨t,rfl⟩:=C;obtain⟨J,v⟩:y.size<=sizeLine/\n=y.size:=e;subst v;exact PySem.W.len_bytes (by lia) ⟨.int _,H,I.tok _,⟨_,rfl⟩,q⟩
 | ref p =>cases C;have v:(∃xs,SqL X.K H p xs/\n=xs.length)\/∃xs,SqT X.K H p xs/\n=xs.length:=e;rcases v with⟨xs,hx,v⟩|⟨xs,hx,v⟩;subst v;obtain⟨its,G,pl,hz⟩:=I.list hx;have o:=G.length;exact pd pl.isList (by simp only[aG];lia) ⟨.int xs.length,H,I.tok _,⟨_,by simp only[aG];rw[o]⟩,q⟩;subst v;obtain⟨its,G,pl,hz⟩:=I.tuple hx;have o:=G.length;exact len_tuple pl (by simp only[aG];lia) ⟨.int xs.length,H,I.tok _,⟨_,by simp only[aG];rw[o]⟩,q⟩
 | _=>exact(show False from e).elim
end
structure ObjM(h:aW)(x dx C:aj)(mA:qM):Prop where
 obj:h.get? x=some (n8 C dx)
 ns:h.Ns1 dx mA
 ne:dx≠x
theorem zkq{h:aW}{v:aj}{x:qM}(n:h.Ns1 v x):∃u,h.get? v=some u/\∀name,oF name u=some (x name):=by
 obtain⟨o,es,ep,C,hd,J,_,L⟩:=n;refine⟨o,C,fun name=>?_⟩;have e:=L name;unfold nsFind findBy at e;rw[<- Array.find?_toList]at e;unfold oF;rw[hd];dsimp only;split;rename_i y q;rw[q]at e;exact congrArg some e;rename_i q;rw[q]at e;have a:es.toList.any (·.refKey)=false:=by rw[mE];intro y G;obtain⟨z,t,l⟩:=J y (Array.mem_toList_iff.mp G);simp[DictEntry.refKey,l]
 have I:¬es.toList.any (·.refKey)=true:=by rw[a];exact bf
 rw[if_neg I];exact congrArg some e
theorem ObjM.look{h:aW}{x o C:aj}{u:qM}(I:ObjM h x o C u):∃l,PySem.W.InstAt h x (n8 C o) C (some l)/\∀name,oF name l=some (u name) :=
 let ⟨l,ho,hl⟩:=zkq I.ns
 ⟨l,⟨I.obj,rfl,rfl,ho⟩,hl⟩
section
variable{P:aJ}{w:a7}{H H':Hp}{h h':aW}{a C dx:aj}{fs fs':List (Str×V)}
theorem zoG(hok:HOk P w H h)(e:H a=some (.ins C dx fs)):∃l,ObjM h a dx C l/\(∀f,RelO (fs.lookup f) (l f))/\vZ l (fs.map (·.1))/\fs.length<=1000/\H dx=some (.own a):=by obtain⟨d,z,ne,u,l,n,r,q⟩:=(show Jx P w H h a (.ins C dx fs) from hok a _ e);exact⟨l,⟨u,n,ne⟩,r,q,z,d⟩
end
structure Cls(K:qF)(C:aj):Prop where
 pg:sy K C o8=true
 hd:PySem.W.hasDictIn K C=true
 po:PySem.W.plainOver K C=true
 sa:tO K (.ref C) "__setattr__" = some (some (.builtin "object.__setattr__"))
theorem Cls.get{K:qF}{C:aj}(c:Cls K C)(f:Str):sy K C f=true:=c.pg
section
variable{X:Cx}{pins:qO}{σ:St}{H:Hp}{s:aq}{A:aX}{E:qV}{Q:qV}{c:af}{b:Bool}
inductive TyOf (K:qF)(H:Hp):V->af->Prop where
 | non:TyOf K H .non (.type "NoneType")
 | bl (x:Bool):TyOf K H (.bl x) (.type "bool")
 | int (i:Int):TyOf K H (.int i) (.type "int")
 | str (x:Str):TyOf K H (.str x) (.type "str")
 | flt (x:UInt64):TyOf K H (.flt x) (.type "float")
 | lst {a:aj} {xs:List V} (e:H a=some (.lst xs)):TyOf K H (.ref a) (.type "list")
 | frz {a:aj} {o:Obj} {xs:List V} (e:H a=some (.frz o (.lst xs))):TyOf K H (.ref a) (.type "list")
 | tup {a:aj} {xs:List V} (e:H a=some (.tup xs)):TyOf K H (.ref a) (.type "tuple")
 | dK {a:aj} {kvs:List (Key×V)} (e:H a=some (.dK kvs)):TyOf K H (.ref a) (.type "dict")
 | dT {a:aj} {kvs:List (List Key×V)} (e:H a=some (.dT kvs)):TyOf K H (.ref a) (.type "dict")
 | ins {a C dx:aj} {fs:List (Str×V)} (e:H a=some (.ins C dx fs)) (cl:Cls K C) (ha:tO K (.ref C) "__class__" = some (some (.builtin "object.__class__")))
   (hn:PySem.W.specialIn K (.builtin "object.__class__") "__get__" = some (some (.builtin "getset_descriptor.__get__"))) (htk:PySem.W.takesIn K (.builtin "object.__class__")=some true)
   (hm:PySem.W.mroIn K C (.type "object")=some true):TyOf K H (.ref a) (.ref C)
theorem zkG{x:V}{u t:af}(I:Inv X pins σ H s)(v:RelV x u)(ty:TyOf X.K H x t)(e:tP X.K t c=some b)(h:∀tk,Q (.bool b) { s with toks:=tk }) :
  wpAny (model X.prog X.w) A (call (.builtin "isinstance") [u,c]) Q E s:=by
 cases ty with
 | non=>cases(show u=dO from v);exact bX PySem.W.kitx_none I.kIn ip e (fun z=>nomatch z) h
 | bl y=>cases(show u=iZ y from v);exact bX PySem.W.kitx_bool I.kIn ip e (fun z=>nomatch z) h
 | int i=>obtain⟨t,q⟩:=(show ∃t,u=iY i t from v);cases q;exact bX PySem.W.kitx_int I.kIn ip e (fun z=>nomatch z) h
 | str y=>obtain⟨t,q⟩:=(show ∃t,u=sr y t from v);cases q;exact bX PySem.W.kitx_str I.kIn ip e (fun z=>nomatch z) h
 | flt y=>obtain⟨t,q⟩:=(show ∃t,u=xg y t from v);cases q;exact bX PySem.W.kitx_float I.kIn ip e (fun z=>nomatch z) h
 | @lst a xs ea =>cases(show u=aO a from v);obtain⟨_,_,n,_,h1⟩:=(show Jx X.prog X.w H s.heap a (.lst xs) from I.hok a _ ea);exact bX rC I.kIn ⟨_,h1,rfl⟩ e (fun z=>nomatch z) h
 | @frz a ob xs ea =>cases(show u=aO a from v);obtain⟨_,_,_,n,_,h1⟩:=(show Jx X.prog X.w H s.heap a (.frz ob (.lst xs)) from I.hok a _ ea);exact bX rC I.kIn ⟨_,h1,rfl⟩ e (fun z=>nomatch z) h
 | @tup a xs ea =>cases(show u=aO a from v);obtain⟨_,_,_,p⟩:=(show Jx X.prog X.w H s.heap a (.tup xs) from I.hok a _ ea);obtain⟨o,h1,G,_⟩:=p;exact bX pP I.kIn ⟨o,h1,G⟩ e (fun z=>nomatch z) h
 | @dK a kvs ea =>cases(show u=aO a from v);obtain⟨_,_,vs,_,p⟩:=(show Jx X.prog X.w H s.heap a (.dK kvs) from I.hok a _ ea);obtain⟨o,es,ep,h1,G,_⟩:=p;exact bX fH I.kIn ⟨o,h1,G.1⟩ e (fun z=>nomatch z) h
 | @dT a kvs ea =>cases(show u=aO a from v);obtain⟨_,_,xs,_,o,es,ep,h1,G,_⟩:=(show Jx X.prog X.w H s.heap a (.dT kvs) from I.hok a _ ea);exact bX fH I.kIn ⟨o,h1,G.1⟩ e (fun z=>nomatch z) h
 | @ins a C dx fs ea cl ha hn htk hm =>cases(show u=aO a from v);obtain⟨N,O,_⟩:=zoG I.hok ea;obtain⟨L,J,_⟩:=O.look;exact bX (PySem.W.kitx_own (cl.get _) cl.hd ha hn htk hm) I.kIn J e (fun z=>nomatch z) h
end
structure Room(k:Nat)(A:aX):Prop where
 hd:A.handled=none
 dp:A.depth+3*k+5<recursionLimit
 un:A.units+16*k+200<cLine
 gd:A.guards=some []
theorem Room.mono{j k:Nat}{A:aX}(r:Room k A)(h:j<=k):Room j A:=⟨r.hd,by have:=r.dp;lia,by have:=r.un;lia,r.gd⟩
theorem Room.deeper{k:Nat}{A:aX}(r:Room (k+1) A)(env:Env):Room k (A.deeper env) :=
 ⟨r.hd,by have:=r.dp;show A.depth+1+3*k+5<_;lia,by have:=r.un;show A.units+3+16*k+200<_;lia,r.gd⟩
theorem Room.in1{k:Nat}{A:aX}(r:Room (k+1) A):Room k A.in1 :=
 ⟨r.hd,by have:=r.dp;show A.depth+3*k+5<_;lia,by have:=r.un;show A.units+1+16*k+200<_;lia,r.gd⟩
theorem Room.depth{k:Nat}{A:aX}(r:Room k A):A.depth<recursionLimit:=by have:=r.dp;lia
theorem Room.units{k:Nat}{A:aX}(r:Room k A):A.units+64<cLine:=by have:=r.un;lia
theorem Room.units0{k:Nat}{A:aX}(r:Room k A):A.units<cLine:=by have:=r.un;lia
def tNil:TA:=fun _ H Q=>Q [] H
def Qm(u:TE)(o:TA):TA:=fun σ H Q=>u σ H fun x l=>o σ l fun xs v=>Q (x::xs) v
section
variable{X:Cx}{e:bg}{es:List bg}{te:TE}{t:TA}{pos:Pos}
theorem Q3:PA X [] tNil:=fun _ _ _ _ H Q I h=>rE ⟨[],H,I,.nil,h⟩
theorem Qv(y:PE X e te)(U:PA X es t)(G:starEach (e::es) X.env=(false,eval e X.env)::starEach es X.env:=by rfl):PA X (e::es) (Qm te t):=by intro pos pins s σ H Q I h;rw[G];show wpAny _ _ (spliced ((false,eval e X.env)::backTo pos (starEach es X.env))) _ _ s;refine pQ (thn (y pins s σ H _ I h) fun u s1 ⟨x,S,L,R,l⟩=>?_);exact thn (U pos pins s1 σ S _ L l) fun Y s2 ⟨xs,C,J,N,v⟩=>⟨x::xs,C,J,.cons R N,v⟩
def tTup(t:TA):TE:=fun σ H Q=>t σ H fun xs l=>xs.length<=sizeLine/\∀p,l p=none->Q (.ref p) (upd l p (.tup xs))
def tLst(t:TA):TE:=fun σ H Q=>t σ H fun xs o=>xs.length<=sizeLine/\∀p,o p=none->Q (.ref p) (upd o p (.lst xs))
theorem zne{x1}(h:PA X es t):PE X (.Tuple es x1 pos) (tTup t):=by intro pins s σ H Q I y;refine wpAny_Tuple_spliced (thn (h pos pins s σ H _ I y) fun x s1 ⟨xs,v,o,r,z,q⟩=>⟨by rw[<- r.length];exact z,?_⟩);have hf:v s1.heap.objs.size=none:=o.hok.fresh (aD _);refine⟨.ref s1.heap.objs.size,upd v s1.heap.objs.size (.tup xs),o.laid (t':=s1.toks) (fun b u e=>ag _ e) (aD _) ?_,rfl,q _ hf⟩;exact⟨z,x,r,⟨_,ax _ rfl,rfl,⟨_,rfl⟩,rfl⟩⟩
theorem zqn(h:PA X es t):PE X (.List es pos) (tLst t):=by intro pins s σ H Q I y;refine wpAny_List_spliced (thn (h pos pins s σ H _ I y) fun x s1 ⟨xs,v,o,r,z,q⟩=>⟨by rw[<- r.length];exact z,?_⟩);have hf:v s1.heap.objs.size=none:=o.hok.fresh (aD _);refine⟨.ref s1.heap.objs.size,upd v s1.heap.objs.size (.lst xs),o.laid (t':=s1.toks) (fun b u e=>ag _ e) (aD _) ?_,rfl,q _ hf⟩;exact⟨z,x,0,r,ax _ rfl⟩
end
abbrev Sp:=List V->Hp->VK->XK->Prop
abbrev CXT:=List Env->Hp->aq->XK->af->aq->Prop
structure Env0(P:aJ)(w:a7)(K:qF)(mg:qM)(base:aW)(A:aX)(outer:List Env)(s:aq)(H:Hp):Prop where
 frames:A.frames=some outer
 mod:Mod K mg base
 bs:∀b o,base.get? b=some o->s.heap.get? b=some o/\H b=none
 bsz:base.objs.size<=s.heap.objs.size
 funs:s.heap.FunFrames base outer
 frf:∀b∈frs outer,H b=none
 hok:HOk P w H s.heap
 bare:kZ s.gens
def CE(outer:List Env)(P:aJ)(w:a7)(H:Hp)(s:aq)(Q:VK)(u:af)(s':aq):Prop :=
 ∃v H',s'.os=s.os/\kZ s'.gens/\Un (frs outer) [] H H' s.heap s'.heap/\HOk P w H' s'.heap/\RelV v u/\Q v H'
def CR(l:CXT)(outer:List Env)(P:aJ)(w:a7)(H:Hp)(s:aq)(Q:VK)(E:XK)(r:kD)(s':aq):Prop :=
 match r with
 | .ok (.ret u)=>CE outer P w H s Q u s'
 | .ok _=>False
 | .error e=>l outer H s E e s'
structure FnOk(P:aJ)(w:a7)(K:qF)(mg:qM)(base:aW)(CX:CXT)(k:Nat)(f:aj)(fd:dz)(ps:List Str)(sp:Sp):Prop where
 len:∀vs H Q E,sp vs H Q E->vs.length=ps.length
 run:∀(A:aX) (outer:List Env) (s:aq) (H:Hp) (args:Args) (us:List af) (vs:List V) (Q:VK) (E:XK),Room k A->Env0 P w K mg base A outer s H->tJ s fd args (ps.zip us)->Vals vs us->sp vs H Q E ->
  codeAny (model P w) A (.call (.ref f) args) (CR CX outer P w H s Q E) s
theorem FnOk.imp{P:aJ}{w:a7}{K:qF}{mg:qM}{base:aW}{o:CXT}{k:Nat}{f:aj}{fd:dz}{ps:List Str}{u l:Sp}(F:FnOk P w K mg base o k f fd ps u)
  (h:∀vs H Q E,l vs H Q E->u vs H Q E):FnOk P w K mg base o k f fd ps l :=
 ⟨fun vs H Q E q=>F.len vs H Q E (h _ _ _ _ q),fun A outer s H args x vs Q E G he C v y=>F.run A outer s H args x vs Q E G he C v (h _ _ _ _ y)⟩
theorem Env0.in1{P:aJ}{w:a7}{K:qF}{mg:qM}{base:aW}{A:aX}{outer:List Env}{s:aq}{H:Hp}(e:Env0 P w K mg base A outer s H) :
  Env0 P w K mg base A.in1 outer s H:=⟨e.frames,e.mod,e.bs,e.bsz,e.funs,e.frf,e.hok,e.bare⟩
section
variable{X:Cx}{pins:qO}{σ:St}{H:Hp}{s s':aq}
theorem Inv.env0(I:Inv X pins σ H s):Env0 X.prog X.w X.K X.mg X.base X.A X.stack s H :=
 ⟨I.ok.frames,I.ok.mod,I.bs,bZ I.ok.bsz I.sz,I.stack,I.stkFree,I.hok,I.bare⟩
theorem Inv.after{Q:VK}{u:af}(I:Inv X pins σ H s)(h:CE X.stack X.prog X.w H s Q u s'):EP X pins σ Q u s':=by obtain⟨v,H',os,bare,un,hok,r,q⟩:=h;obtain⟨o,g,d,t,l⟩:=s';obtain rfl:l=s.os:=os;exact⟨v,H',I.call (h':=o) (g':=g) (d':=d) (t':=t) (ch:=[]) un hok bare (fun b z=>absurd z (by simp)),r,q⟩
end
def znJ(u:Sp)(l:List V)(E:XK)(t:TA):TE:=fun σ H Q=>t σ H fun vs o=>u (vs++l) o Q E
def Binds(K:qF)(fd:dz)(ps:List Str)(ds:List af):Prop :=
 ∀(s:aq) (o:List af),K.In s.heap->(o++ds).length=ps.length->tJ s fd ⟨o,[]⟩ (ps.zip (o++ds))
theorem Binds.all{K:qF}{fd:dz}{ps:List Str}(h:∀l:List af,l.length=ps.length->bindArgs fd ⟨l,[]⟩=pure (ps.zip l)):Binds K fd ps []:=fun s l _ u=>by rw[df]at u ⊢;exact .of_eq (h l u)
def YL(l:CXT)(X:Cx)(E:XK):Prop:=∀(pins:qO) (σ:St) (H:Hp) (s:aq) (e:af) (s':aq),Inv X pins σ H s->l X.stack H s E e s'->X.xe e s'
section
variable{X:Cx}{CX:CXT}{k:Nat}{f C:aj}{fd:dz}{ps:List Str}{sp:Sp}{dvs:List V}{ds:List af}{E:XK}{x m:Str}{p pos apos:Pos}{e o:bg}{es:List bg}{ta:TE}{t:TA}
theorem zm_{pins:qO}{σ:St}{H:Hp}{s:aq}{Q:VK}{v:List af}{vs:List V}(F:FnOk X.prog X.w X.K X.mg X.base CX k f fd ps sp)(N:Room k X.A)(L:Binds X.K fd ps ds)(hd:Vals dvs ds)(hx:YL CX X E)
  (I:Inv X pins σ H s) (r:Vals vs v) (h:sp (vs++dvs) H Q E):wpAny (model X.prog X.w) X.A (call (.ref f) v) (EP X pins σ Q) X.xe s:=by
 have G:Vals (vs++dvs) (v++ds):=r.append hd;have J:(v++ds).length=ps.length:=by rw[<- G.length];exact F.len _ _ _ _ h
 refine wpAny_call (iG (F.run X.A X.stack s H ⟨v,[]⟩ (v++ds) (vs++dvs) Q E N I.env0 (L s v I.kIn J) G h) fun r s' y=>?_);cases r with
 | error e=>exact hx pins σ H s e s' I y
 | ok fl =>
  cases fl with
  | ret u=>exact I.after y
  | next=>exact cF y
  | brk=>exact cF y
  | cont=>exact cF y
theorem zoh(F:FnOk X.prog X.w X.K X.mg X.base CX k f fd ps sp)(U:Room k X.A)(S:Gl X x)(Y:X.mg x=some (.ref f))(R:gQ X.K (.ref f)=true)(L:Binds X.K fd ps ds)(hd:Vals dvs ds)(hx:YL CX X E)
  (J:PA X (e::es) t) (v:(x == ("__debug__":Str))=false:=by decide) (he:starEach (e::es) X.env=(false,eval e X.env)::starEach es X.env:=by rfl) (u:(backTo pos (starEach es X.env)).any (·.1)=false:=by rfl) :
  PE X (.Call (.Name x p) (e::es) [] pos) (znJ sp dvs E t):=by
 intro pins s σ H Q I h;refine gr (zkt I S Y ?_ v);refine pR (h₀:=X.base) I.ok.mod.kin R (thn (J pos pins s σ H _ I h) fun Z s1 ⟨vs,H1,G,r,q⟩=>⟨G.kIn,?_⟩) he u;exact zm_ F U L hd hx G r q
end
structure Qk(N P:List Str)(sc:e8):Prop where
 kind:sc.kind=.function
 co:sc.isCoroutine=false
 gen:sc.isGenerator=false
 nd:N.Nodup
 pre:N.take P.length=P
 par:∀x∈P,sc.names.lookup x=some .local\/sc.names.lookup x=some .cell
 nofree:∀y∈sc.names,y.2≠.free
theorem zgi{kindOf:Str->Option fk}{x:Str}:∀{binds:List (Str×af)}{m:qM},(∀v,(x,v)∉binds)->bindL kindOf binds m x=m x
 | [],_,_=>rfl
 | (n,v)::r,m,h=>by
  unfold bindL;rw[zgi fun w hw=>h w (b8 _ hw)];split;have:x≠n:=by rintro rfl;exact h v cM
  simp[this];rfl
theorem zgk{kindOf:Str->Option fk}{x:Str}:∀{binds:List (Str×af)}{m:qM},(∀v,(x,v)∉binds)->bindC kindOf binds m x=m x
 | [],_,_=>rfl
 | (n,v)::r,m,h=>by
  unfold bindC;rw[zgk fun w hw=>h w (b8 _ hw)];split;rfl;have:x≠n:=by rintro rfl;exact h v cM
  simp[this]
theorem zgj{kindOf:Str->Option fk}{x:Str}{v:af}:∀{P:List Str}{vs:List af}{i:Nat}{m:qM},P.Nodup->P[i]?=some x->vs[i]?=some v->kindOf x=some .local ->
  bindL kindOf (P.zip vs) m x=some v
 | [],_,_,_,_,h,_,_=>by simp at h
 | _::_,[],_,_,_,_,h,_=>by simp at h
 | p::P,w::vs,0,m,nd,h1,h2,hk=>by simp at h1 h2;subst h1;subst h2;show bindL kindOf ((p,w)::P.zip vs) m p=_;unfold bindL;rw[zgi fun v u=>(dI.mp nd).1 (cS u).1,if_pos hk];simp
 | p::P,w::vs,i+1,m,nd,h1,h2,hk=>by show bindL kindOf ((p,w)::P.zip vs) m x=_;unfold bindL;exact zgj (i:=i) (dI.mp nd).2 (by simpa using h1) (by simpa using h2) hk
theorem zgl{kindOf:Str->Option fk}{x:Str}{v:af}:∀{P:List Str}{vs:List af}{i:Nat}{m:qM},P.Nodup->P[i]?=some x->vs[i]?=some v->kindOf x≠some .local ->
  bindC kindOf (P.zip vs) m x=some v
 | [],_,_,_,_,h,_,_=>by simp at h
 | _::_,[],_,_,_,_,h,_=>by simp at h
 | p::P,w::vs,0,m,nd,h1,h2,hk=>by simp at h1 h2;subst h1;subst h2;show bindC kindOf ((p,w)::P.zip vs) m p=_;unfold bindC;rw[zgk fun v u=>(dI.mp nd).1 (cS u).1,if_neg hk];simp
 | p::P,w::vs,i+1,m,nd,h1,h2,hk=>by show bindC kindOf ((p,w)::P.zip vs) m x=_;unfold bindC;exact zgl (i:=i) (dI.mp nd).2 (by simpa using h1) (by simpa using h2) hk
def start(N:List Str)(vs:List V):St:=vs.map some++gf (N.length - vs.length) none
def cxOf(o:CXT)(P:aJ)(w:a7)(K:qF)(mg:qM)(base:aW)(N:List Str)(qual:Str)(scope:e8)(f:aj)(cd:af)(A:aX)(outer:List Env)(s:aq)(H:Hp)(E:XK):Cx where
 prog:=P
 w:=w
 K:=K
 mg:=mg
 base:=base
 A:=A.deeper (envOfC qual scope s.heap.objs.size f cd)
 N:=N
 s₀:=s
 H₀:=H
 env:=envOfC qual scope s.heap.objs.size f cd
 outer:=outer
 stack:=envOfC qual scope s.heap.objs.size f cd::outer
 ex:=[]
 calm:=true
 fn:=fun _=>true
 pn:=[]
 xe:=fun e s'=>wpAny (model P w) (A.deeper (envOfC qual scope s.heap.objs.size f cd)) (leaving (envOfC qual scope s.heap.objs.size f cd) e) (fun _ l=>o outer H s E e l) (fun u l=>o outer H s E u l) s'
theorem zif{sc:e8}{n:Nat}{x:Str}(h:sc.names.lookup x=some .cell):∃c,(cellsFrom n sc.names []).lookup x=some c:=by have q:=iH sc.names n [] (.inl h);exact Option.isSome_iff_exists.mp q
theorem zfP{U:CXT}{P:aJ}{w:a7}{K:qF}{mg:qM}{base:aW}{N ps:List Str}{qual:Str}{scope:e8}{f:aj}{cd:af}{A:aX}{outer:List Env}{s s1:aq}{H:Hp}{E:XK}{R:List af}{vs:List V}
  (S:Qk N ps scope) (hd:A.handled=none) (C:Env0 P w K mg base A outer s H) (hl:vs.length=ps.length) (r:Vals vs R)
  (x:InCallC s s.heap.objs.size (bindL (envOfC qual scope s.heap.objs.size f cd).kindOf (ps.zip R) fun _=>none) (cellsFrom (s.heap.objs.size+1) scope.names []) (bindC (envOfC qual scope s.heap.objs.size f cd).kindOf (ps.zip R) fun _=>none) s1) :
  Inv (cxOf U P w K mg base N qual scope f cd A outer s H E) [] (start N vs) H s1:=by
 have hpl:ps.length<=N.length:=by have:=congrArg fI S.pre;rw[dQ]at this;lia
 obtain⟨h1,tk,rfl,Z⟩:=x.done;have G:∀b:aj,b∉(cxOf U P w K mg base N qual scope f cd A outer s H E).ex:=fun b z=>absurd (show b∈([]:List aj) from z) (by simp);refine⟨⟨C.mod,S.kind,rfl,rfl,aD _,fun y z c h1 o=>?_,fun y I=>?_,fun y c _ h=>?_,fun _=>hd,Around.frames_deeper C.frames,.inr ⟨rfl,rfl⟩,fun b z=>absurd z (G b),C.bs,C.bsz,fun b _ _=>G b,fun b z=>absurd z (G b),C.funs,C.frf⟩,
  rfl,C.bare,Un.kept Z,⟨_,x.toInCall.ns,fun i y v h1 o h3=>?_⟩,fun y c h=>⟨_,x.cell y c h⟩,C.hok.fresh (aD _),fun y c h=>?_,fun p J=>absurd (show p∈([]:qO) from J) (by simp),C.hok.kept Z,?_⟩
 exact name_of_addr x.apart (fW h1) (fW o);have I:scope.names.lookup y=some .cell\/scope.names.lookup y=some .free:=I;rcases I with I|I;exact zif I;exact absurd rfl (S.nofree _ (fW I));exact fc (x.above y c (fW h));have hi:i<vs.length:=by unfold start at o;by_cases hi:i<vs.length;exact hi;rw[bw (by simpa using hi)]at o;rw[eZ]at o;split at o <;> cases o
 have ha:vs[i]?=some v:=by
  unfold start at o;rw[bE (by simpa using hi),aN]at o;cases e:vs[i]? with
  | none=>rw[e]at o;cases o
  | some a=>rw[e]at o;cases o;rfl
 obtain⟨u,Y,rv⟩:=r.get ha;have J:ps[i]?=some y:=by rw[<- S.pre,dG (by lia)];exact h1
 have L:ps.Nodup:=by rw[<- S.pre];exact S.nd.sublist (mF _ _)
 refine⟨u,rv,?_⟩;rcases S.par y (aP J) with k|k;exact .inl ⟨k,zgj L J Y k⟩;obtain⟨c,e⟩:=zif (n:=s.heap.objs.size+1) k;refine .inr ⟨.inl k,c,e,?_⟩;have q:=x.cell y c e;rw[zgl L J Y (by show scope.names.lookup y≠_;rw[k];decide)]at q;exact q;exact C.hok.fresh (fc (x.above y c (fW h)));unfold start;show _=N.length;rw[aS,aR,oo];lia
theorem zrH{U:CXT}{P:aJ}{w:a7}{K:qF}{mg:qM}{base:aW}{k:Nat}{f:aj}{name qual:Str}{params:m5}{body:List eK}{scope:e8}{dV kV doc pm C ct oc:af}{an od:Option aj}
  {Y:Array (Option af)} {N ps:List Str} {sp:Sp} (lk:K.lookup f=some ⟨oc,od,.func (eQ name qual params body scope dV kV doc pm an C ct),Y⟩) (Z:iI K C qual=true) (S:Qk N ps scope)
  (len:∀vs H Q E,sp vs H Q E->vs.length=ps.length)
  (Lz:∀(A:aX) (outer:List Env) (s:aq) (H:Hp) (vs:List V) (Q:VK) (E:XK),Room k (A.deeper (envOfC qual scope s.heap.objs.size f C))->sp vs H Q E ->
   ∃t,PSs (cxOf U P w K mg base N qual scope f C A outer s H E) body t/\t { nx:=fun _ H'=>Q .non H',rt:=Q } (start N vs) H) :
  FnOk P w K mg base U (k+1) f (eQ name qual params body scope dV kV doc pm an C ct) ps sp:=by
 refine⟨len,fun A outer s H args us vs Q E hr L hb r R=>?_⟩;have hl:=len _ _ _ _ R;have KX:K.In s.heap:=L.mod.kin.keeps fun b o e=>(L.bs b o e).1;have lim:s.heap.NoLimit:=L.mod.nolimit.keeps fun b o e=>(L.bs b o e).1;have Lu:∀y∈ps.zip us,scope.names.lookup y.1=some .local\/(scope.names.lookup y.1=some .cell/\((cellsFrom (s.heap.objs.size+1) scope.names []).lookup y.1).isSome=true):=fun⟨n,v⟩ hy=>by rcases S.par n (cS hy).1 with q|q;exact .inl q;exact .inr ⟨q,iH _ _ _ (.inl q)⟩
 refine codeAny_call_function hr.depth (KX _ _ lk) rfl S.co S.gen rfl (PySem.W.codeRec_of KX Z) (hb _ _ _ _ ?_);refine lJ S.kind Lu fun env he s1 x=>?_;subst he;refine⟨lim.keeps x.toInCall.keep,codeAny_func ?_⟩;obtain⟨t,ht,hq⟩:=Lz A outer s H vs Q E (hr.deeper _) R;have I:Inv (cxOf U P w K mg base N qual scope f C A outer s H E) [] (start N vs) H s1:=zfP S hr.hd L hl r x;refine cA (ht [] s1 (start N vs) H _ I hq) (fun fl s' G=>?_) fun e s' G=>G;have fin:∀{σ':St} {H':Hp} {v:V} {u:af},Inv (cxOf U P w K mg base N qual scope f C A outer s H E) [] σ' H' s'->RelV v u->Q v H'->CE outer P w H s Q u s' :=
  fun {σ' H' v u} J rv q=>⟨v,H',J.os,J.bare,J.base,J.hok,rv,q⟩
 cases fl with
 | ret u =>obtain⟨v,σ',H',J,rv,q⟩:=G;exact fin J rv q
 | next =>obtain⟨σ',H',J,q⟩:=G;exact fin (v:=V.non) (u:=dO) J rfl q
 | brk =>obtain⟨_,_,_,q⟩:=G;exact cF q
 | cont =>obtain⟨_,_,_,q⟩:=G;exact cF q
section
variable{X:Cx}{x:Str}{p pos:Pos}{e:bg}{es:List bg}{t:TA}{id T:String}{r:List V->Hp->VK->Prop}
def tCB(r:List V->Hp->VK->Prop)(t:TA):TE:=fun σ H Q=>t σ H fun vs l=>r vs l Q
theorem zmf(hc:JI X (.builtin id) r)(Y:Gl X x)(hm:X.mg x=none)(J:bootBuiltins x=some (.builtin id))(R:PA X (e::es) t)(hn:x ≠ "__name__":=by decide) (v:(x == ("__debug__":Str))=false:=by decide)
  (he:starEach (e::es) X.env=(false,eval e X.env)::starEach es X.env:=by rfl) (o:(backTo pos (starEach es X.env)).any (·.1)=false:=by rfl):PE X (.Call (.Name x p) (e::es) [] pos) (tCB r t):=by
 intro pins s σ H Q I h;refine gr (Ul I Y hm J ?_ hn v);exact sA (thn (R pos pins s σ H _ I h) fun L s1 ⟨vs,Z,S,U,G⟩=>hc pins s1 σ Z vs L Q S U G) he o
theorem zfv(hc:JI X (.type T) r)(U:Gl X x)(hm:X.mg x=none)(G:bootBuiltins x=some (.type T))(L:PA X (e::es) t)(Z:x ≠ "__name__":=by decide) (u:(x == ("__debug__":Str))=false:=by decide)
  (he:starEach (e::es) X.env=(false,eval e X.env)::starEach es X.env:=by rfl) (o:(backTo pos (starEach es X.env)).any (·.1)=false:=by rfl):PE X (.Call (.Name x p) (e::es) [] pos) (tCB r t):=by
 intro pins s σ H Q I h;refine gr (Ul I U hm G ?_ Z u);exact gK (thn (L pos pins s σ H _ I h) fun J s1 ⟨vs,Y,R,S,v⟩=>hc pins s1 σ Y vs J Q R S v) he o
end
end L2
namespace HT
open PySem PyProof.Rows
def lexLt:List Int->List Int->Bool
 | [],[]=>false
 | [],_::_=>true
 | _::_,[]=>false
 | x::xs,y::ys=>if x=y then lexLt xs ys else decide (x<y)
theorem ziN(x y:Int)(xs ys:List Int):lexLt (x::xs) (y::ys)=if x=y then lexLt xs ys else decide (x<y):=rfl
theorem zeS:lexLt [] []=false:=rfl
theorem zd5(y:Int)(ys:List Int):lexLt [] (y::ys)=true:=rfl
theorem zd6(x:Int)(xs:List Int):lexLt (x::xs) []=false:=rfl
theorem zmM(A:aX)(s:aq)(a:Int)(t:Tok)(c:Int)(u:Tok):∃e,pS A s (.int a t) (.int c u) e/\(e=true↔a=c) :=
 ⟨(a == c),iu a t c u,by simp⟩
theorem zl2(A:aX)(s:aq)(a:Int)(t:Tok)(c:Int)(u:Tok)(prog:aJ)(w:a7)(E:qV)(Q:qV)(h:Q (.bool (decide (a<c))) s) :
  wpAny (model prog w) A (richCompare .Lt (.int a t) (.int c u)) Q E s :=
 (yf h:wpAny (model prog w) A (compareOp .Lt (.int a t) (.int c u)) Q E s)
section
open PySem.SeqAt
open PySem.AutoSeq1 (wpAny_loadPart')
open PySem.MeetsSeq PySem.MeetsSeq2 PySem.MeetsSeq3
theorem zeD(l b:aj)(items U:Array af)(n n2:Nat)(dd dd2:Option aj)(sl sl2:Array (Option af))(ns ms:List Int)(hi:fX items.toList ns)(hj:fX U.toList ms) :
  Meets (dh.«tuple.__lt__» ⟨[.ref l,.ref b],[]⟩)
   (fun _ R s=>s.heap.get? l=some { cls:=.type "tuple",dict:=dd,data:=.seq items n,slots:=sl }/\s.heap.get? b=some { cls:=.type "tuple",dict:=dd2,data:=.seq U n2,slots:=sl2 } /\
    R (.ok (.ret (.bool (lexLt ns ms)))) s) :=
 .of_wp fun prog w A R s h=>by
  obtain⟨hp,g,d,tk,os⟩:=s;obtain⟨hl,hb,h⟩:=h;have f2:=AutoSeq1.sub_tuple_tuple;have z1:items.size=ns.length:=by rw[<- hi.length];simp
  have z2:U.size=ms.length:=by rw[<- hj.length];simp
  wp_walk using sZ hl,sZ hb,wpAny_forIn_list _ (fun rest b s'=>b.1=none/\s'=⟨hp,g,d,tk,os⟩/\∃(vs ws:List af) (C G:List Int),rest=vs.zip ws /\
   fX vs C/\fX ws G/\C.length+U.size=G.length+items.size/\R (.ok (.ret (.bool (lexLt C G)))) ⟨hp,g,d,tk,os⟩) _
  case turn =>
   rintro⟨y,x⟩ rest b s' ⟨N,rfl,vs,ws,C,G,hz,S,I,v,J⟩;cases S with
   | nil=>rw[List.zip_nil_left]at hz;cases hz
   | cons a t Z =>
    cases I with
    | nil=>rw[List.zip_nil_right]at hz;cases hz
    | cons c u Y =>
     rw[lK]at hz;injection hz with hyx hrest;injection hyx with hy hx;subst hy hx;rw[ziN]at J;simp only[aL]at v;obtain⟨e,he,L⟩:=zmM A.in1 ⟨hp,g,d,tk,os⟩ a t c u;refine aa (he prog w _ _ ?_);cases e with
     | true =>rw[if_pos (L.mp rfl)]at J;wp_walk;exact⟨rfl,rfl,_,_,_,_,hrest,Z,Y,by lia,J⟩
     | false =>rw[if_neg (fun q=>absurd (L.mpr q) bf)]at J;have hri:=zl2 A.in1 ⟨hp,g,d,tk,os⟩ a t c u prog w;wp_walk using hri;exact⟨_,rfl,by simpa using J⟩
  case fin =>
   rintro⟨b1,b2⟩ s' ⟨N,rfl,vs,ws,C,G,hz,S,I,v,J⟩;simp only at N;subst N;have hv:lexLt C G=decide (items.size<U.size):=by
    cases S with
    | nil =>
     cases I with
     | nil =>simp only[cT]at v;rw[zeS];exact(decide_eq_false (by lia)).symm
     | cons c u hw =>simp only[cT,aL]at v;rw[zd5];exact(decide_eq_true (by lia)).symm
    | cons a t hv =>
     cases I with
     | nil =>simp only[cT,aL]at v;rw[zd6];exact(decide_eq_false (by lia)).symm
     | cons c u hw =>rw[lK]at hz;cases hz
   rw[hv]at J;wp_walk;exact⟨_,rfl,by simpa[se] using J⟩
  case h =>exact⟨rfl,rfl,items.toList,U.toList,ns,ms,rfl,hi,hj,by lia,h⟩
end
section
variable{prog:aJ}{w:a7}{A:aX}{E:qV}{s:aq}
theorem zej{l b:aj}{items C:Array af}{ns ms:List Int}{Q:qV}(S:rh s.heap l items)(Y:rh s.heap b C)(hi:fX items.toList ns)(N:fX C.toList ms)
  (Z:A.units<cLine) (h:Q (.bool (lexLt ns ms)) s):wpAny (model prog w) A (compareOp .Lt (.ref l) (.ref b)) Q E s:=by
 obtain⟨⟨cls,U,data,sl⟩,I,hc,n,hd⟩:=id S;obtain⟨⟨J,y,data2,G⟩,u,v,R,hd2⟩:=id Y;simp only at hc hd v hd2;subst hc hd v hd2;exact richCompare_meets_room (op:=.Lt) ⟨_,I,rfl⟩ ⟨_,u,rfl⟩ PySem.F.slot_tuple_lt PySem.F.entry_tuple_lt (PySem.F.args_tuple_lt_2 _ _) (zeD l b items C n R U y sl G ns ms hi N)
  ⟨I,u,show iZ (lexLt ns ms)≠Value.notImplemented/\Q (.bool (lexLt ns ms)) s from⟨(fun x=>nomatch x),h⟩⟩ Z
theorem zpd{t b:aj}{vs l:List af}{Q:qV}(S:rh s.heap t vs.toArray)(Y:rh s.heap b l.toArray)(I:vs≠[])
  (h1:l=[]->Q (.ref t) s) (U:l≠[]->Q (.ref s.heap.objs.size) { s with heap:=s.heap.push { cls:=.type "tuple",data:=.seq (vs++l).toArray } })
  (hsz:vs.length+l.length<=sizeLine):wpAny (model prog w) A (binaryOp .Add (.ref t) (.ref b)) Q E s:=by
 obtain⟨⟨cls,N,data,R⟩,G,hc,n,hd⟩:=id S;obtain⟨⟨L,v,data2,x⟩,u,C,J,hd2⟩:=id Y;simp only at hc hd C hd2;subst hc hd C hd2;have e:vs.toArray++l.toArray=(vs++l).toArray:=by simp
 by_cases hw:l=[];exact rF ⟨_,G,rfl⟩ ⟨_,u,rfl⟩ m6 pH iJ iC (hZ _ _)
  (tuple_addW1 t b vs.toArray l.toArray n J N v R x (by simpa using I) (by simp[hw])) ⟨G,u,h1 hw⟩
 refine rF ⟨_,G,rfl⟩ ⟨_,u,rfl⟩ m6 pH iJ iC (hZ _ _)
  (tuple_addW2 t b vs.toArray l.toArray n J N v R x (by simpa using I) (by simpa using hw) (by rw[aG,aG];exact hsz)) ⟨G,u,?_⟩
 rw[e];exact U hw
def sIx(n d:Nat):Option Int->Nat
 | none=>d
 | some v=>if v<0 then(v+(n:Int)).toNat else min v.toNat n
theorem zlZ(n d:Nat):sIx n d none=d:=rfl
theorem zgu(n d k:Nat):sIx n d (some (k:Int))=min k n:=by show(if (k:Int)<0 then((k:Int)+(n:Int)).toNat else min (k:Int).toNat n)=min k n;rw[if_neg (by lia),bQ]
theorem zp7(n d:Nat)(hd:d<=n)(o:Option Int):sIx n d o<=n:=by
 cases o with
 | none=>exact hd
 | some v =>show(if v<0 then(v+(n:Int)).toNat else min v.toNat n)<=n;by_cases hv:v<0;rw[if_pos hv];lia;rw[if_neg hv];exact Nat.min_le_right _ _
theorem zlp(v:Int)(n d:Nat):(if v<0 then max (v+(n:Int)) 0 else min v (n:Int))=((sIx n d (some v):Nat):Int):=by show(if v<0 then max (v+(n:Int)) 0 else min v (n:Int))=(((if v<0 then(v+(n:Int)).toNat else min v.toNat n):Nat):Int);by_cases hv:v<0;simp only[if_pos hv];lia;simp only[if_neg hv];lia
theorem zi_(lo hi:Option Int)(n:Nat):g7 lo hi 1 (n:Int)=(((sIx n 0 lo:Nat):Int),((sIx n n hi:Nat):Int)):=by
 have h1:¬((1:Int)<0):=by lia
 unfold g7;simp only[h1,if_false];refine fJ ?_ ?_;cases lo with
 | none=>rfl
 | some v=>exact zlp v n 0
 cases hi with
 | none=>rfl
 | some v=>exact zlp v n n
theorem ziy(i j:Nat):fx (i:Int) (j:Int) 1=j - i:=by
 unfold fx;have h1:(1:Int) > 0:=by lia
 simp only[h1,if_true,Int.ediv_one];split <;> lia
theorem zee{v:af}{o:Option Int}{Q:Option Int->aq->Prop}(p:mQ v o)(h:Q o s):wpAny (model prog w) A (tf v) Q E s:=by
 cases p with
 | none=>exact tQ h
 | int i t=>exact slicePart_int h
theorem zbE{C:aj}{y v:af}{lo hi:Option Int}{n:Nat}{Q:Int×Int×Nat->aq->Prop}(J:s.heap.IsSliceOf C y v .none)(pl:mQ y lo)(G:mQ v hi)
  (h:Q (((sIx n 0 lo:Nat):Int),1,sIx n n hi - sIx n 0 lo) s):wpAny (model prog w) A (lN (.ref C) (pure (n:Int))) Q E s:=by
 obtain⟨os,l,I,u⟩:=id J;unfold lN uA;refine aa (aa (cu l u (x:=y) rfl (aa (cu l u (x:=v) rfl (aa (cu l u (x:=.none) rfl (ae ?_)))))));refine aa (tQ ?_);show wpAny _ _ (if ((1:Int) == 0)=true then _ else _) _ _ s;rw[if_neg (by decide)];refine aa (zee pl (aa (zee G (aa (ae ?_)))));show wpAny _ _ (match g7 lo hi 1 (n:Int) with|(lo,hi)=>pure (lo,(1:Int),fx lo hi 1)) _ _ s;rw[zi_ lo hi n];show wpAny _ _ (pure (((sIx n 0 lo:Nat):Int),(1:Int),fx ((sIx n 0 lo:Nat):Int) ((sIx n n hi:Nat):Int) 1)) _ _ s;rw[ziy];exact ae h
theorem zl_(xs:Array af)(i k:Nat):((eJ k).filterMap fun(m:Nat)=>xs[((i:Int)+(m:Int)*1).toNat]?).toArray=((xs.toList.drop i).take k).toArray:=by
 have e:(fun(m:Nat)=>xs[((i:Int)+(m:Int)*1).toNat]?)=fun m=>xs[i+m]?:=by
  funext m;have:((i:Int)+(m:Int)*1).toNat=i+m:=by lia
  rw[this]
 rw[e];have:=xu xs i k;rw[List.filterMap_map]at this;have u:((fun x=>xs[x]?)∘fun x=>i+x)=fun m=>xs[i+m]?:=rfl;rw[u]at this;rw[this]
theorem zcK{t I:aj}{items:Array af}{J N:af}{lo hi:Option Int}{Q:qV}(l:rh s.heap t items)(L:s.heap.IsSliceOf I J N .none)(pl:mQ J lo)(R:mQ N hi)
  (hw:¬(sIx items.size 0 lo=0/\sIx items.size items.size hi=items.size))
  (h:Q (.ref s.heap.objs.size) { s with heap:=s.heap.push { cls:=.type "tuple",data:=.seq ((items.toList.drop (sIx items.size 0 lo)).take (sIx items.size items.size hi - sIx items.size 0 lo)).toArray } })
  (hsz:items.size<=sizeLine):wpAny (model prog w) A (getItem (.ref t) (.ref I)) Q E s:=by
 have u:sizeOk (.seq ((items.toList.drop (sIx items.size 0 lo)).take (sIx items.size items.size hi - sIx items.size 0 lo)).toArray):=by show((items.toList.drop (sIx items.size 0 lo)).take (sIx items.size items.size hi - sIx items.size 0 lo)).toArray.size<=sizeLine;rw[aG,dQ,gW,cC];lia
 have U:sIx items.size items.size hi<=items.size:=zp7 _ _ (aD _) hi;obtain⟨os,v,G,S⟩:=id L;have x:s.TypeIs (.ref I) "slice":=⟨os,v,G⟩;unfold getItem;try with_reducible refine bU ?_
 first|refine aa (ae ?_)|skip
 refine aa (rG l.typeIs (by decide) ?_);refine aa (cm (name:=aM "__getitem__") l.typeIs cB
  (bK cB l.typeIs pf ?_ (pT _ _)))
 show wpAny _ _ (lO (.ref t) >>= _) _ _ s;refine aa (tupleItemsOf_ l ?_);refine aa (dY x ?_);rw[if_pos (by decide)];refine aa (zbE L pl R ?_);have C:¬((((sIx items.size 0 lo:Nat):Int) == 0&&(1:Int) == 1&&(sIx items.size items.size hi - sIx items.size 0 lo) == items.size)=true):=by intro q;rw[cc,cc]at q;have Y:((sIx items.size 0 lo:Nat):Int)=0:=eq_of_beq q.1.1;have Z:sIx items.size items.size hi - sIx items.size 0 lo=items.size:=eq_of_beq q.2;exact hw ⟨by lia,by lia⟩
 show wpAny _ _ (if (((sIx items.size 0 lo:Nat):Int) == 0&&(1:Int) == 1&&(sIx items.size items.size hi - sIx items.size 0 lo) == items.size)=true then _ else _) _ _ s;rw[if_neg C,zl_];first
  | exact aa (m:=fQ _) (bG (ae ⟨_,rfl,ae h⟩) u)
  | exact aa (m:=fQ _) (bG (aa (ae (ae ⟨_,rfl,ae h⟩))) u)
  | exact aa (aa (m:=fQ _) (bG (ae (ae ⟨_,rfl,ae h⟩)) u))
  | exact aa (aa (m:=fQ _) (bG (ae ⟨_,rfl,ae h⟩) u))
end
end HT
namespace L2
open PySem PySem.Spec PyProof.Rows
abbrev TO:=St->Hp->(Option Int->Hp->Prop)->Prop
def PO(X:Cx)(e:Option bg)(t:TO):Prop :=
 ∀(pins:qO) (s:aq) (σ:St) (H:Hp) (Q:Option Int->Hp->Prop),Inv X pins σ H s->t σ H Q ->
  wpAny (model X.prog X.w) X.A (evalPart e X.env) (fun u s'=>∃o H',Inv X pins σ H' s'/\mQ u o/\Q o H') X.xe s
def znH:TO:=fun _ H Q=>Q none H
def zsL(t:TE):TO:=fun σ H Q=>t σ H fun x l=>∃i,x=.int i/\Q (some i) l
theorem intsAre_of{ns:List Int}:∀{u:List af},Vals (ns.map V.int) u->fX u ns:=by
 induction ns with
 | nil=>intro u r;rw[gx]at r;cases r;exact .nil
 | cons n ns x =>
  intro u r;rw[bp]at r;cases r with
  | cons y v =>obtain⟨t,e⟩:=y;subst e;exact .cons n t (x v)
section
variable{X:Cx}{e:bg}{te:TE}{lo hi:Option bg}{tl th:TO}{pos p2:Pos}
theorem zn9:PO X none znH:=by intro pins s σ H Q I h;rw[evalPart_none];exact ae ⟨none,H,I,.none,h⟩
theorem zn8(h:PE X e te):PO X (some e) (zsL te):=by intro pins s σ H Q I hw;rw[evalPart_some];refine thn (h pins s σ H _ I hw) fun u s1 ⟨x,y,o,v,l⟩=>?_;obtain⟨i,rfl,q⟩:=l;obtain⟨t,rfl⟩:=v;exact⟨some i,y,o,.int i t,q⟩
def SlR(X:Cx)(r:V->Option Int->Option Int->Hp->VK->Prop):Prop :=
 ∀(pins:qO) (s:aq) (σ:St) (H:Hp) (x:V) (v G C:af) (lo hi:Option Int) (I:aj) (Q:VK),Inv X pins σ H s->RelV x v->s.heap.IsSliceOf I G C .none->mQ G lo->mQ C hi->r x lo hi H Q ->
  ∃T id,typeLookup (.type T) "__getitem__" = pure (some (.builtin id))/\s.TypeIs v T/\wpAny (model X.prog X.w) X.A (getItem v (.ref I)) (EP X pins σ Q) X.xe s
theorem SlR.or{r G:V->Option Int->Option Int->Hp->VK->Prop}(h:SlR X r)(h':SlR X G):SlR X (fun x lo hi H Q=>r x lo hi H Q\/G x lo hi H Q):=by intro pins s σ H x v l u lo hi J Q I y o pl C q;rcases q with q|q;exact h pins s σ H x v l u lo hi J Q I y o pl C q;exact h' pins s σ H x v l u lo hi J Q I y o pl C q
def tSl(r:V->Option Int->Option Int->Hp->VK->Prop)(te:TE)(tl th:TO):TE:=fun σ H Q=>te σ H fun x o=>tl σ o fun l y=>th σ y fun u v=>r x l u v Q
theorem zhw{r:V->Option Int->Option Int->Hp->VK->Prop}(hr:SlR X r)(he:PE X e te)(hl:PO X lo tl)(hu:PO X hi th):PE X (.Subscript e (.Slice lo hi none p2) pos) (tSl r te tl th):=by intro pins s σ H Q I h;refine tR (thn (he pins s σ H _ I h) fun v s1 ⟨x,H1,I1,r1,L⟩=>?_);refine wpAny_Slice (thn (hl pins s1 σ H1 _ I1 L) fun C s2 ⟨l,Y,I2,pl,U⟩=>thn (hu pins s2 σ Y _ I2 U) fun G s3 ⟨u,J,R,pu,q3⟩=>?_);rw[evalPart_none];refine ae ?_;have I4:Inv X pins σ J { s3 with heap:=s3.heap.push { cls:=.type "slice",data:=.fields #[C,G,.none] } }:=R.kept (t':=s3.toks) fun b ob q=>ag _ q;obtain⟨T,id,Z,N,hg⟩:=hr pins { s3 with heap:=s3.heap.push { cls:=.type "slice",data:=.fields #[C,G,.none] } } σ J x v C G l u s3.heap.objs.size Q I4 r1 (yM ..) pl pu q3;show wpAny (model X.prog X.w) X.A (subscriptTail e (.Slice lo hi none p2) v (.ref s3.heap.objs.size)) (EP X pins σ Q) X.xe { s3 with heap:=s3.heap.push { cls:=.type "slice",data:=.fields #[C,G,.none] } };exact tail_any (ops:=[.ref s3.heap.objs.size,v]) N Z hg (by with_unfolding_all rfl)
def cutV(xs:List V)(lo hi:Option Int):List V:=(xs.drop (HT.sIx xs.length 0 lo)).take (HT.sIx xs.length xs.length hi - HT.sIx xs.length 0 lo)
theorem zdU(xs:List V)(lo hi:Option Int):(cutV xs lo hi).length<=xs.length:=by unfold cutV;rw[dQ,gW];lia
def rSlT(K:qF):V->Option Int->Option Int->Hp->VK->Prop:=fun x lo hi H Q=>∃a xs,x=.ref a/\SqT K H a xs /\
 ¬(HT.sIx xs.length 0 lo=0/\HT.sIx xs.length xs.length hi=xs.length)/\∀p,H p=none->Q (.ref p) (upd H p (.tup (cutV xs lo hi)))
theorem zpR:SlR X (rSlT X.K):=by
 intro pins s σ H x v L N lo hi S Q I G C pl J h;obtain⟨a,xs,rfl,hx,hw,q⟩:=h;cases G;obtain⟨its,r,y,hz⟩:=I.tuple hx;have l:its.toArray.size=xs.length:=by rw[aG];exact r.length.symm
 refine⟨"tuple",_,cB.lookup,y.typeIs,?_⟩;refine HT.zcK y C pl J (by rw[l];exact hw) ?_ (by rw[l];exact hz);rw[l];refine⟨.ref s.heap.objs.size,_,I.laid (t':=s.toks) (o:=.tup (cutV xs lo hi)) (fun b R q=>ag _ q) (aD _) ?_,rfl,q _ (I.hok.fresh (aD _))⟩;exact⟨bZ (zdU xs lo hi) hz,_,(r.drop (HT.sIx xs.length 0 lo)).take (HT.sIx xs.length xs.length hi - HT.sIx xs.length 0 lo),IsTD.new _ _⟩
def rLtT(K:qF):R2:=fun x y H Q=>∃a b ns ms,x=.ref a/\y=.ref b/\SqT K H a (ns.map V.int)/\SqT K H b (ms.map V.int)/\Q (.bl (HT.lexLt ns ms)) H
theorem zqz(S:X.A.units<cLine):OpR X (compareOp .Lt) (rLtT X.K):=by intro pins s σ H x y v u Q I N C h;obtain⟨a,b,ns,ms,rfl,rfl,G,R,q⟩:=h;cases N;cases C;obtain⟨its,Z,J,_⟩:=I.tuple G;obtain⟨o,Y,p2,_⟩:=I.tuple R;have U:fX its.toArray.toList ns:=intsAre_of Z;have i2:fX o.toArray.toList ms:=intsAre_of Y;exact HT.zej J p2 U i2 S ⟨.bl (HT.lexLt ns ms),H,I,rfl,q⟩
def zth(K:qF):R2:=fun x y H Q=>∃a b xs ys,x=.ref a/\y=.ref b/\SqT K H a xs/\SqT K H b ys/\xs≠[]/\xs.length+ys.length<=sizeLine /\
 (ys=[]->Q (.ref a) H)/\(ys≠[]->∀p,H p=none->Q (.ref p) (upd H p (.tup (xs++ys))))
theorem Vals.nil_iff{xs:List V}{l:List af}(r:Vals xs l):l=[]↔xs=[]:=by
 cases r with
 | nil=>simp
 | cons _ _=>simp
theorem zol:OpR X (binaryOp .Add) (zth X.K):=by intro pins s σ H x y v u Q I U L h;obtain⟨a,b,xs,ys,rfl,rfl,R,Y,hx,hz,J,N⟩:=h;cases U;cases L;obtain⟨its,C,S,_⟩:=I.tuple R;obtain⟨G,l,p2,_⟩:=I.tuple Y;refine HT.zpd S p2 (fun z=>hx (C.nil_iff.mp z)) (fun z=>⟨.ref a,H,I,rfl,J (l.nil_iff.mp z)⟩) (fun z=>?_) (by rw[<- C.length,<- l.length];exact hz);refine⟨.ref s.heap.objs.size,_,I.laid (t':=s.toks) (o:=.tup (xs++ys)) (fun b Z q=>ag _ q) (aD _) ?_,rfl,N (fun w=>z (l.nil_iff.mpr w)) _ (I.hok.fresh (aD _))⟩;exact⟨by rw[aS];exact hz,_,C.append l,IsTD.new _ _⟩
end
def ixN(n:Nat)(i:Int):Option Nat:=if 0<=i then(if i<n then some i.toNat else none) else if -(n:Int)<=i then some (i+n).toNat else none
def atI{α:Type}(xs:List α)(i:Int):Option α:=(ixN xs.length i).bind fun j=>xs[j]?
theorem zkE{n:Nat}{i:Int}{j:Nat}(h:ixN n i=some j):seqIndex? i n=some j/\j<n/\-(n:Int)<=i/\i<n:=by unfold ixN at h;by_cases h0:0<=i;rw[if_pos h0]at h;by_cases h1:i<n;rw[if_pos h1]at h;have e:i.toNat=j:=aQ h;exact⟨by rw[sP h0 h1,e],by lia,by lia,h1⟩;rw[if_neg h1]at h;cases h;rw[if_neg h0]at h;by_cases h1:-(n:Int)<=i;rw[if_pos h1]at h;have e:(i+n).toNat=j:=aQ h;exact⟨by rw[rH (by lia) h1,e],by lia,h1,by lia⟩;rw[if_neg h1]at h;cases h
theorem zg4{α:Type}{xs:List α}{i:Int}{v:α}(h:atI xs i=some v):∃j,seqIndex? i xs.length=some j/\xs[j]?=some v/\j<xs.length/\-(xs.length:Int)<=i/\i<xs.length:=by
 unfold atI at h;cases e:ixN xs.length i with
 | none=>rw[e]at h;cases h
 | some j =>rw[e]at h;obtain⟨h1,o,l,u⟩:=zkE e;exact⟨j,h1,h,o,l,u⟩
theorem zpi{α:Type}{xs:List α}{j:Nat}{v:α}(h:xs[j]?=some v):atI xs (j:Int)=some v:=by
 have l:j<xs.length:=(aH.mp h).1;have e:ixN xs.length (j:Int)=some j:=by unfold ixN;rw[if_pos (by lia),if_pos (by lia)];simp
 unfold atI;rw[e];exact h
def zlA(b:bg):Prop:=∀o i,subscripted b false o i=operate [o,i] (getItem o i)
def IxR(X:Cx)(r:R2):Prop :=
 ∀(value slice:bg) (pins:qO) (s:aq) (σ:St) (H:Hp) (x y:V) (v u:af) (Q:VK),Inv X pins σ H s->RelV x v->RelV y u->r x y H Q ->
  subscripted slice false v u=operate [v,u] (getItem v u)->wpAny (model X.prog X.w) X.A (subscriptTail value slice v u) (EP X pins σ Q) X.xe s
def MtR(X:Cx)(id:String)(r:V->List V->Hp->VK->Prop):Prop :=
 ∀(pins:qO) (s:aq) (σ:St) (H:Hp) (x:V) (xs:List V) (v:af) (o:List af) (Q:VK),Inv X pins σ H s->RelV x v->Vals xs o->r x xs H Q ->
  wpAny (model X.prog X.w) X.A (call (.builtin id) (v::o)) (EP X pins σ Q) X.xe s
section
variable{X:Cx}{a b:bg}{ta tb:TE}{pos:Pos}
theorem IxR.or{r G:R2}(h:IxR X r)(h':IxR X G):IxR X (fun x y H Q=>r x y H Q\/G x y H Q):=by intro value slice pins s σ H x y v u Q I C l q o;rcases q with q|q;exact h value slice pins s σ H x y v u Q I C l q o;exact h' value slice pins s σ H x y v u Q I C l q o
theorem QF{r:R2}(R:IxR X r)(o:PE X a ta)(N:PE X b tb)(G:zlA b):PE X (.Subscript a b pos) (tOp r ta tb):=by intro pins s σ H Q I h;exact tR (binT o N I h fun v u s2 x y C J L l q=>R a b pins s2 σ C x y v u Q J L l q (G _ _))
def rIxL(K:qF):R2:=fun x y H Q=>∃p xs i v,x=.ref p/\y=.int i/\SqL K H p xs/\atI xs i=some v/\Q v H
def rIxT(K:qF):R2:=fun x y H Q=>∃p xs i v,x=.ref p/\y=.int i/\SqT K H p xs/\atI xs i=some v/\Q v H
def rIxS:R2:=fun x y H Q=>∃z i c,x=.str z/\y=.int i/\z.length<=sizeLine/\atI z.cps.toList i=some c/\Q (.str ⟨#[c]⟩) H
theorem QR:IxR X (rIxL X.K):=by
 intro value slice pins s σ H x y v u Q I U R h G;obtain⟨p,xs,i,z,rfl,rfl,Z,he,q⟩:=h;cases U;obtain⟨t,rfl⟩:=R;obtain⟨its,r,pl,hz⟩:=I.list Z;obtain⟨j,h1,Y,h3,h4,L⟩:=zg4 he;obtain⟨w,J,C⟩:=r.get Y;have S:=r.length;have hn:=QY;have fin:EP X pins σ Q w s:=⟨z,H,I,C,q⟩;by_cases h0:0<=i;have l:i.toNat=j:=by rw[sP h0 L]at h1;exact aQ h1
 exact item_listR pl.isList h0 (by lia) (by rw[l];simpa using J) fin G;have l:(i+(its.toArray.size:Int)).toNat=j:=by rw[rH (by lia) h4]at h1;rw[aG,<- S];exact aQ h1
 exact nH (x:=w) pl.isList.typeIs rJ.lookup
  (wpAny_getItem_list_neg (Q:=fun r s'=>r=w/\EP X pins σ Q r s') pl.isList (by lia) (by rw[aG] <;> lia) (by lia) (by rw[l];simpa using J) ⟨rfl,fin⟩) G
theorem zq4:IxR X (rIxT X.K):=by
 intro value slice pins s σ H x y v u Q I J o h C;obtain⟨p,xs,i,z,rfl,rfl,N,he,q⟩:=h;cases J;obtain⟨t,rfl⟩:=o;obtain⟨its,r,pl,hz⟩:=I.tuple N;obtain⟨j,h1,L,U,Z,S⟩:=zg4 he;obtain⟨w,R,l⟩:=r.get L;have G:=r.length;have Y:=QY;have fin:EP X pins σ Q w s:=⟨z,H,I,l,q⟩;exact nH (x:=w) pl.typeIs slot_tuple_getitem.lookup
  (getItem_tuple (j:=j) (Q:=fun r s'=>r=w/\EP X pins σ Q r s') pl (by lia) (by lia) (by rw[aG,<- G];exact h1) (by simpa using R) ⟨rfl,fin⟩) C
theorem zq5:IxR X rIxS:=by
 intro value slice pins s σ H x y v u Q I L o h C;obtain⟨z,i,c,rfl,rfl,hz,he,q⟩:=h;obtain⟨t,rfl⟩:=L;obtain⟨t',rfl⟩:=o;obtain⟨j,h1,N,U,S,l⟩:=zg4 he;have G:z.cps.toList.length=z.length:=by simp[yO]
 rw[G]at h1 S l;have Y:=QY;exact tail_any (tS s z t) slot_str_getitem.lookup (getItem_str (c:=c) (by have R:decide (i < -(2 ^ 63:Int))=false:=decide_eq_false (by lia);have J:decide (i>=2 ^ 63)=false:=decide_eq_false (by lia);rw[R,J,Bool.or_false]) (by rw[h1];simpa using N) ⟨.str ⟨#[c]⟩,H,I.tok _,⟨_,rfl⟩,q⟩) C
def rIx(K:qF):R2:=fun x y H Q=>rIxL K x y H Q\/rIxT K x y H Q\/rIxS x y H Q
theorem zq6:IxR X (rIx X.K):=QR.or (zq4.or zq5)
theorem ziM(its:List af)(n j:Nat)(u:af):bS (·.setIfInBounds j u) { cls:=.type "list",data:=.seq its.toArray n }={ cls:=.type "list",data:=.seq (its.set j u).toArray n }:=by simp[bS]
theorem Inv.lst{pins:qO}{σ:St}{H:Hp}{s:aq}{p:aj}{xs:List V}(I:Inv X pins σ H s)(h:H p=some (.lst xs)) :
  ∃(its:List af) (n:Nat),Vals xs its/\s.heap.get? p=some { cls:=.type "list",data:=.seq its.toArray n }/\xs.length<=sizeLine:=by
 obtain⟨z,its,n,r,e⟩:=I.hok p _ h;exact⟨its,n,r,e,z⟩
theorem Inv.lstUpd{pins:qO}{σ:St}{H:Hp}{s:aq}{p:aj}{xs ys:List V}{its its':List af}{n o:Nat}{f:Obj->Obj}(I:Inv X pins σ H s)(h:H p=some (.lst xs))
  (v:s.heap.get? p=some { cls:=.type "list",data:=.seq its.toArray n }) (hf:f { cls:=.type "list",data:=.seq its.toArray n }={ cls:=.type "list",data:=.seq its'.toArray o }) (r:Vals ys its') (hz:ys.length<=sizeLine) (t:Nat) :
  Inv X pins σ (upd H p (.lst ys)) { s with heap:=s.heap.update p f,toks:=t }:=by
 have e:(s.heap.update p f).get? p=some { cls:=.type "list",data:=.seq its'.toArray o }:=by rw[bO f v (by rw[hf] <;> rfl),hf]
 refine I.write (x:=p) (e:=p) (by rw[h];trivial) (.inl rfl) (fun b u C q=>(bz _ _ (dW C)).trans q) ⟨_,e⟩ ?_;exact⟨hz,its',o,r,e⟩
def ztg:V->V->V->Hp->(Hp->Prop)->Prop:=fun o i v H Q=>∃p xs k j,o=.ref p/\i=.int k/\H p=some (.lst xs)/\ixN xs.length k=some j/\Q (upd H p (.lst (xs.set j v)))
theorem set_list:PSet X ztg:=by
 intro pins s σ H o i v ov iv u Q I Z Y U h;obtain⟨p,xs,k,j,rfl,rfl,G,S,q⟩:=h;cases Z;obtain⟨t,rfl⟩:=Y;obtain⟨its,n,r,x,hz⟩:=I.lst G;obtain⟨h1,h2,J,R⟩:=zkE S;have y:=r.length;have hn:=QY;have L:Inv X pins σ (upd H p (.lst (xs.set j v))) { s with heap:=s.heap.update p (bS (·.setIfInBounds j u)) } :=
  I.lstUpd G x (ziM its n j u) (r.set U j) (by rw[List.length_set];exact hz) s.toks
 by_cases h0:0<=k;have C:k.toNat=j:=by rw[sP h0 R]at h1;exact aQ h1
 exact PySem.W.ki_setAt x h0 (by lia) (by rw[aG,<- y];exact R) (by rw[C];exact⟨_,L,q⟩);have C:(k+(its.toArray.size:Int)).toNat=j:=by rw[rH (by lia) J]at h1;rw[aG,<- y];exact aQ h1
 exact PySem.W.ki_setBack x (by lia) (by rw[aG,<- y];exact J) (by lia) (by rw[C];exact⟨_,L,q⟩)
theorem zfj(lo hi:Option Int)(n:Nat):(sliceBounds lo hi none n).1=((HT.sIx n 0 lo:Nat):Int)/\(sliceBounds lo hi none n).2.1=((HT.sIx n n hi:Nat):Int)/\(sliceBounds lo hi none n).2.2=1:=by
 refine⟨?_,?_,rfl⟩;cases lo with
 | none=>simp[sliceBounds,HT.sIx]
 | some i =>simp only[sliceBounds,HT.sIx,sC,show(1:Int) > 0 by decide,if_true];by_cases h:i<0;simp only[h,if_true] <;> lia;simp only[h,if_false] <;> lia
 cases hi with
 | none=>simp[sliceBounds,HT.sIx]
 | some i =>simp only[sliceBounds,HT.sIx,sC,show(1:Int) > 0 by decide,if_true];by_cases h:i<0;simp only[h,if_true] <;> lia;simp only[h,if_false] <;> lia
theorem zeF(its:List af)(lo hi:Option Int):slicePick its.toArray lo hi none=((its.drop (HT.sIx its.length 0 lo)).take (HT.sIx its.length its.length hi - HT.sIx its.length 0 lo)).toArray:=by obtain⟨h1,u,l⟩:=zfj lo hi its.toArray.size;unfold slicePick;rw[h1,u,l];simp only[tT,xu,aG] <;> rfl
def rSlL(K:qF):V->Option Int->Option Int->Hp->VK->Prop:=fun x lo hi H Q=>∃a xs,x=.ref a/\SqL K H a xs/\∀p,H p=none->Q (.ref p) (upd H p (.lst (cutV xs lo hi)))
theorem znN:SlR X (rSlL X.K):=by intro pins s σ H x v L N lo hi S Q I G C pl J h;obtain⟨a,xs,rfl,hx,q⟩:=h;cases G;obtain⟨its,r,y,hz⟩:=I.list hx;have u:=r.length;refine⟨"list",_,rJ.lookup,y.isList.typeIs,?_⟩;refine wpAny_getItem_list_slice y.isList C pl J .none (by simp) ?_ (by rw[aG] <;> lia);rw[zeF,<- u];refine⟨.ref s.heap.objs.size,_,I.laid (t':=s.toks) (o:=.lst (cutV xs lo hi)) (fun b R q=>ag _ q) (aD _) ?_,rfl,q _ (I.hok.fresh (aD _))⟩;exact⟨bZ (zdU xs lo hi) hz,_,0,(r.drop (HT.sIx xs.length 0 lo)).take (HT.sIx xs.length xs.length hi - HT.sIx xs.length 0 lo),ax _ rfl⟩
theorem zge:JI X (.builtin "len") (fun xs H Q=>∃p ys,xs=[.ref p]/\(SqL X.K H p ys\/SqT X.K H p ys)/\Q (.int ys.length) H):=by intro pins s σ H xs C Q I r h;obtain⟨p,ys,rfl,v,q⟩:=h;obtain⟨u,rfl,y⟩:=vals1 r;cases y;have G:=QY;rcases v with v|v;obtain⟨its,x,pl,hz⟩:=I.list v;have o:=x.length;exact pd pl.isList (by simp only[aG] <;> lia) ⟨.int ys.length,H,I.tok _,⟨s.toks+1,by rw[aG,o]⟩,q⟩;obtain⟨its,x,pl,hz⟩:=I.tuple v;have o:=x.length;exact len_tuple pl (by simp only[aG] <;> lia) ⟨.int ys.length,H,I.tok _,⟨s.toks+1,by rw[aG,o]⟩,q⟩
theorem zgd:JI X (.type "list") (fun xs H Q=>∃p ys,xs=[.ref p]/\(SqL X.K H p ys\/SqT X.K H p ys)/\∀l,H l=none->Q (.ref l) (upd H l (.lst ys))):=by
 intro pins s σ H xs N Q I r h;obtain⟨p,ys,rfl,C,q⟩:=h;obtain⟨u,rfl,L⟩:=vals1 r;cases L;have fin:∀(its:List af),Vals ys its->ys.length<=sizeLine->∀(h':aW) (c':Nat),(∀b J,s.heap.get? b=some J->h'.get? b=some J) ->
   h'.get? s.heap.objs.size=some { cls:=.type "list",dict:=none,data:=.seq its.toArray c',slots:=#[] }->EP X pins σ Q (.ref s.heap.objs.size) { s with heap:=h' }:=fun its v hz h' c' kp e =>
  ⟨.ref s.heap.objs.size,_,I.laid (t':=s.toks) kp (aD _) (show Jx X.prog X.w _ h' _ (.lst ys) from⟨hz,its,c',v,e⟩),rfl,q _ (I.hok.fresh (aD _))⟩
 rcases C with C|C;obtain⟨its,v,pl,hz⟩:=I.list C;have x:=v.length;obtain⟨o,G,hc,n,hd⟩:=pl.isList;exact call_list_seq p (.inl rfl) G hc hd (fun h' c' kp e=>fin its v hz h' c' kp e) (by simp only[aG] <;> lia);obtain⟨its,v,pl,hz⟩:=I.tuple C;have x:=v.length;obtain⟨o,G,hc,n,hd⟩:=pl;exact call_list_seq p (.inr rfl) G hc hd (fun h' c' kp e=>fin its v hz h' c' kp e) (by simp only[aG] <;> lia)
theorem ZW:JI X (.type "tuple") (fun xs H Q=>∃p ys,xs=[.ref p]/\((SqL X.K H p ys/\∀l,H l=none->Q (.ref l) (upd H l (.tup ys)))\/(SqT X.K H p ys/\Q (.ref p) H))):=by
 intro pins s σ H xs N Q I r h;obtain⟨p,ys,rfl,h⟩:=h;obtain⟨u,rfl,L⟩:=vals1 r;cases L;rcases h with⟨v,q⟩|⟨v,q⟩;obtain⟨its,x,pl,hz⟩:=I.list v;have G:=x.length;refine call_tuple_list pl.isList (fun h' kp=>?_) (by simp only[aG] <;> lia);have C:Inv X pins σ H { s with heap:=h' }:=I.kept (t':=s.toks) kp;have J:Inv X pins σ (upd H h'.objs.size (.tup ys)) { s with heap:=h'.push { cls:=.type "tuple",data:=.seq its.toArray } } :=
  C.laid (t':=s.toks) (fun b o e=>ag _ e) (aD _) (show Jx X.prog X.w _ _ _ (.tup ys) from⟨hz,its,x,IsTD.new _ _⟩)
 exact⟨.ref h'.objs.size,_,J,rfl,q _ (C.hok.fresh (aD _))⟩;obtain⟨its,x,pl,hz⟩:=I.tuple v;exact call_tuple_same pl ⟨.ref p,H,I,rfl,q⟩
def tyV(K:qF)(T:String)(x:V)(H:Hp):Prop:=match x with
 | .str _=>T = "str"
 | .int _=>T = "int"
 | .ref p=>(T = "list" /\ ∃xs,SqL K H p xs)\/(T = "tuple" /\ ∃o,K.lookup p=some o/\o.cls=.type "tuple" /\ o.dict=none) \/
   (T = "dict" /\ ((∃l,H p=some (.dK l))\/∃l,H p=some (.dT l)))\/(T = "set" /\ ∃S n,H p=some (.set S n))
 | _=>False
theorem zm6{pins:qO}{σ:St}{H:Hp}{s:aq}{T:String}{x:V}{v:af}(I:Inv X pins σ H s)(r:RelV x v)(ty:tyV X.K T x H) :
  s.TypeIs v T/\∀a,v=.ref a->∃C,s.heap.get? a=some C/\C.dict=none:=by
 cases x with
 | str z =>obtain⟨t,rfl⟩:=r;cases(show T = "str" from ty);exact⟨tS s z t,fun _ e=>nomatch e⟩
 | int i =>obtain⟨t,rfl⟩:=r;cases(show T = "int" from ty);exact⟨typeIs_int s i t,fun _ e=>nomatch e⟩
 | ref p =>
  cases r;rcases ty with⟨rfl,xs,G⟩|⟨rfl,o,l,hc,hd⟩|⟨rfl,l⟩|⟨rfl,S,n,l⟩;obtain⟨its,_,pl,_⟩:=I.list G;refine⟨pl.isList.typeIs,fun a e=>?_⟩;cases e;obtain⟨o,n,e,c,hd,_⟩:=pl;exact⟨o,e,hd⟩;refine⟨⟨o,I.kIn p o l,hc⟩,fun a e=>?_⟩;cases e;exact⟨o,I.kIn _ o l,hd⟩;have z:∃o,s.heap.get? p=some o/\o.ExactDict:=by rcases l with⟨y,l⟩|⟨y,l⟩;obtain⟨_,_,_,_,o,_,_,e,ex,_⟩:=I.hok p _ l;exact⟨o,e,ex⟩;obtain⟨_,_,_,_,o,_,_,e,ex,_⟩:=I.hok p _ l;exact⟨o,e,ex⟩
  obtain⟨o,e,ex⟩:=z;refine⟨⟨o,e,ex.1⟩,fun a u=>?_⟩;cases u;exact⟨o,e,ex.2.1⟩;obtain⟨o,_,_,_,e,ex,_⟩:=I.hok p _ l;refine⟨⟨o,e,ex.1⟩,fun a u=>?_⟩;cases u;exact⟨o,e,ex.2.1⟩
 | _=>exact cF ty
def tBM0(K:qF)(T:String)(r:V->List V->Hp->VK->Prop)(to:TE):TE:=fun σ H Q=>to σ H fun x l=>tyV K T x l/\r x [] l Q
def tBM(K:qF)(T:String)(r:V->List V->Hp->VK->Prop)(to:TE)(t:TA):TE:=fun σ H Q=>to σ H fun x l=>tyV K T x l/\t σ l fun xs o=>r x xs o Q
variable{o e:bg}{es:List bg}{to:TE}{t:TA}{name:Str}{apos Lv:Pos}{T id:String}{r:V->List V->Hp->VK->Prop}
theorem znf(pa:PlainAttrs T)(slot:Slot T name id)(G:typeOf (.builtin id)=pure (.type "method_descriptor")) (hm:MtR X id r) (N:PE X o to)
  (Z:attributeBase o name X.env (eval o X.env)=eval o X.env:=by rfl) (S:(apos.endLine == Lv.line)=true:=by rfl):PE X (.Call (.Attribute o name apos) [] [] Lv) (tBM0 X.K T r to):=by
 intro pins s σ H Q I h;refine m7 Z S (thn (N pins s σ H _ I h) fun v s1 ⟨x,Y,J,L,ty,R⟩=>?_);obtain⟨h1,U⟩:=zm6 J L ty;exact⟨T,id,pa,slot,G,h1,U,iK rfl (ph (hm pins s1 σ Y x [] v [] Q J L .nil R))⟩
theorem ztk(pa:PlainAttrs T)(slot:Slot T name id)(G:typeOf (.builtin id)=pure (.type "method_descriptor")) (hm:MtR X id r) (R:PE X o to) (ha:PA X (e::es) t)
  (La:attributeBase o name X.env (eval o X.env)=eval o X.env:=by rfl)
  (LQ:((backTo Lv (starEach (e::es) X.env)).all (fun x=>!x.1)&&(backToKw Lv (keywordEach [] X.env)).all (fun x=>x.1.isSome)
   && decide ((e::es).length+([]:List we).length+(if ([]:List we).isEmpty then 0 else 1)<30))=true:=by rfl)
  (Lb:(apos.endLine == Lv.line)=true:=by rfl) (hs:starEach (e::es) X.env=(false,eval e X.env)::starEach es X.env:=by rfl) (U:(backTo Lv (starEach es X.env)).any (·.1)=false:=by rfl) :
  PE X (.Call (.Attribute o name apos) (e::es) [] Lv) (tBM X.K T r to t):=by
 intro pins s σ H Q I h;refine wpAny_Call_method_late La LQ Lb rfl (thn (R pins s σ H _ I h) fun v s1 ⟨x,H1,L,N,ty,S⟩=>?_);obtain⟨h1,h2⟩:=zm6 L N ty;refine⟨T,id,pa,slot,G,h1,h2,?_⟩;have J:=ha Lv pins s1 σ H1 _ L S;rw[hs]at J ⊢;refine iK (by show(false||(backTo Lv (starEach es X.env)).any (·.1))=false;rw[U] <;> rfl) (Calls.evalArgs_plain ?_);exact thn J fun Y s2 ⟨vs,H2,I2,r2,Z⟩=>hm pins s2 σ H2 x vs v Y Q I2 N r2 Z
end
def MtM(X:Cx)(id:String)(r:V->List V->Hp->VK->Prop):Prop :=
 ∀(pins:qO) (s:aq) (σ:St) (H:Hp) (x:V) (xs:List V) (v:af) (o:List af) (Q:VK),Inv X pins σ H s->RelV x v->Vals xs o->r x xs H Q ->
  wpAny (model X.prog X.w) X.A (call (.builtin id) (v::o)) (EP X pins σ Q) X.xe s
theorem Vals.one{x:V}{l:List af}(h:Vals [x] l):∃u,l=[u]/\RelV x u:=by
 cases h with
 | cons r t=>cases t;exact⟨_,rfl,r⟩
theorem Vals.zero:∀{o:List af},Vals [] o->o=[]
 | _,.nil=>rfl
theorem Vals.dropLast{xs:List V}{u:List af}(h:Vals xs u):Vals xs.dropLast u.dropLast:=by
 induction h with
 | nil=>exact .nil
 | cons r t v =>
  cases t with
  | nil=>exact .nil
  | cons q t'=>exact .cons r v
theorem ziX{α:Type}(l:List α):l.eraseIdx (l.length - 1)=l.dropLast:=by
 induction l with
 | nil=>rfl
 | cons a r o =>
  cases r with
  | nil=>rfl
  | cons b r =>
   have e:(a::b::r).length - 1=((b::r).length - 1)+1:=by have h1:(a::b::r).length=r.length+2:=rfl;have u:(b::r).length=r.length+1:=rfl;lia
   rw[e,m8,o];all_goals rfl
section
variable{X:Cx}{pins:qO}{σ:St}{H:Hp}{s:aq}{l b:aj}{xs ys zs:List V}
theorem Inv.lset{its its':List af}{n:Nat}{f:Array af->Array af}{t':Nat}(I:Inv X pins σ H s)(C:H l=some (.lst xs))
  (e:s.heap.get? l=some { cls:=.type "list",data:=.seq its.toArray n }) (hf:f its.toArray=its'.toArray) (v:Vals ys its') (hz:ys.length<=sizeLine) :
  Inv X pins σ (upd H l (.lst ys)) { s with heap:=s.heap.update l (bS f),toks:=t' }:=by
 have q:=PySem.IsL.update e f;rw[hf]at q;refine I.write (x:=l) (e:=l) (by rw[C];exact trivial) (.inl rfl) (fun J u G o=>(bz s.heap (bS f) (dW G)).trans o) ⟨_,q⟩ ?_;exact⟨hz,its',_,v,q⟩
theorem Inv.lnew{its:List af}{t':Nat}(I:Inv X pins σ H s)(o:Vals ys its)(hz:ys.length<=sizeLine) :
  Inv X pins σ (upd H s.heap.objs.size (.lst ys)) { s with heap:=s.heap.push { cls:=.type "list",data:=.seq its.toArray },toks:=t' } :=
 I.laid (fun _ _ q=>ag _ q) (aD _) ⟨hz,its,0,o,ax _ rfl⟩
theorem Inv.fresh(I:Inv X pins σ H s):H s.heap.objs.size=none:=I.hok.fresh (aD _)
theorem Inv.lstM(I:Inv X pins σ H s)(o:H l=some (.lst xs)):xs.length<=sizeLine/\∃(its:List af) (n:Nat),Vals xs its/\xs.length=its.length/\s.heap.get? l=some { cls:=.type "list",data:=.seq its.toArray n }:=by obtain⟨z,its,n,r,e⟩:=I.hok l _ o;exact⟨z,its,n,r,r.length,e⟩
end
section
variable{X:Cx}
def znZ:V->List V->Hp->VK->Prop:=fun x vs H Q=>∃l xs y,x=.ref l/\vs=[y]/\H l=some (.lst xs)/\xs.length<sizeLine/\Q .non (upd H l (.lst (xs++[y])))
theorem zdH:MtM X "list.append" znZ:=by intro pins s σ H x vs v N Q I J G h;obtain⟨l,xs,y,rfl,rfl,C,hz,q⟩:=h;cases J;obtain⟨u,rfl,L⟩:=G.one;obtain⟨z,its,n,r,R,e⟩:=I.lstM C;refine call_meets F.slot_list_append ⟨_,e,rfl⟩ F.entry_list_append (F.args_list_append_2 _ _) (PySem.list_append l its.toArray n u (by rw[aG];lia)) ⟨e,?_⟩;refine⟨.non,_,I.lset (its':=its++[u]) C e (by simp) (r.append (.cons L .nil)) ?_,rfl,q⟩;rw[aS,eI];lia
def rPop:V->List V->Hp->VK->Prop:=fun x vs H Q=>∃l xs y,x=.ref l/\vs=[]/\H l=some (.lst xs)/\xs[xs.length - 1]?=some y/\Q y (upd H l (.lst xs.dropLast))
theorem zqI:MtM X "list.pop" rPop:=by
 intro pins s σ H x vs v Y Q I R N h;obtain⟨l,xs,y,rfl,rfl,G,L,q⟩:=h;cases R;have C:=N.zero;subst C;obtain⟨z,its,n,r,J,e⟩:=I.lstM G;obtain⟨u,U,S⟩:=r.get L;have o:its.toArray[its.toArray.size - 1]?=some u:=by show its.toArray[its.length - 1]?=some u;rw[<- bP,<- J];exact U
 refine call_meets F.slot_list_pop ⟨_,e,rfl⟩ F.entry_list_pop (F.args_list_pop_1 _) (MeetsSeq.list_pop_last l its.toArray n u o (by rw[aG];lia)) ⟨e,?_⟩;refine⟨y,_,I.lset (its':=its.dropLast) G e ?_ r.dropLast ?_,S,q⟩;show its.toArray.eraseIdxIfInBounds (its.toArray.size - 1)=its.dropLast.toArray;rw[aG,List.eraseIdxIfInBounds_toArray,ziX];rw[List.length_dropLast];lia
def rCat:R2:=fun x y H Q=>∃l b xs zs,x=.ref l/\y=.ref b/\H l=some (.lst xs)/\H b=some (.lst zs)/\xs.length+zs.length<=sizeLine/\∀p,H p=none->Q (.ref p) (upd H p (.lst (xs++zs)))
theorem zqE:OpR X (binaryOp .Add) rCat:=by
 intro pins s σ H x y v u Q I R G h;obtain⟨l,b,xs,zs,rfl,rfl,Y,L,hz,q⟩:=h;cases R;cases G;obtain⟨z,its,n,r,hl,e⟩:=I.lstM Y;obtain⟨z2,C,Z,U,S,N⟩:=I.lstM L;refine PySem.P.add_list e N ?_ (by rw[aG,aG];lia);have J:its.toArray++C.toArray=(its++C).toArray:=by simp
 rw[J];exact⟨.ref _,_,I.lnew (t':=s.toks) (r.append U) (by rw[aS];lia),rfl,q _ I.fresh⟩
end
end L2
namespace Att
open PySem PySem.W PySem.Calls PyProof.Rows
theorem zdN{P:tU}{h:aW}:∀(ns:List Int) (vs:List af),WellAll P h vs (ns.map Bo)->fX vs ns:=by
 intro ns;induction ns with
 | nil =>intro vs w;rw[gx]at w;cases w;exact .nil
 | cons n ns u =>
  intro vs w;rw[bp]at w;cases w with
  | cons a b =>cases a;exact .cons _ _ (u _ b)
theorem zjJ{l:OpenLaw}{n:Nat}(Z:l.most=some n){P:tU}{h:aW}{args:List WData}{vals:List af}
  (I:l.row.toRowW.claim.pre args=true) (C:WellAll P h vals args) :
  ∃a vs ns,vals=[aO a]/\args=[WData.list (ns.map Bo)]/\h.get? a=some { cls:=.type "list",data:=.seq vs.toArray }/\fX vs ns/\ns.length<=n:=by
 have G:WShape.hasAll [] args [.list .int]=true:=(pre_splitW I).1;have hc:l.pre.holds [] { args:=args }=true:=(pre_splitW I).2;obtain⟨d,r,rfl,h1,U⟩:=hasAllW_cons G;obtain rfl:=hasAllW_nil U;obtain⟨xs,rfl,S⟩:=hasW_list h1;obtain⟨ns,rfl⟩:=items_int S;have u:ns.length<=n:=by
  unfold OpenLaw.pre at hc;have x:(WTm.not (.lt (.lit (.int (n:Int))) (.len (.arg 0)))).holds [] { args:=[.list (ns.map .int)] }=true:=by have x:=(holds_andW hc).1;rw[Z]at x;exact x
  have v:=condW_of x (w_not (w_lt w_lit (w_len_list (w_arg rfl))));rw[aR]at v;refine sD fun q=>?_;have N:(n:Int)<((ns.length:Nat):Int):=by lia
  first
   | (rw[decide_eq_true N]at v;exact absurd v (by decide))
   | (simp at v;lia)
 cases C with
 | cons R Y =>
  cases Y;cases R with
  | list J L=>exact⟨_,_,ns,rfl,rfl,J,zdN ns _ L,u⟩
theorem zjX(l:OpenLaw)(args:List WData):l.row.toRowW.claim.post args (.bool true) args=true :=
 postW_of (r:=l.row.toRowW) (X:=(true == true))
  (show yU [] (.bool true) .bool=true by first|rfl|decide|simp[yU,WShape.arms,WShape.armsAll])
  (show(WTm.eq .res (.lit (.bool true))).value [] { args:=args,res:=some (.bool true),after:=args }=some (.bool (true == true)) from w_eq_bool (w_res rfl) w_lit) rfl
theorem attach_call{l:OpenLaw}{n:Nat}{q:aJ}{loose:List Str}{Z:(Str->Option af)->aW->Prop}{YP:a7->aW->Prop}{d:DefRec}
  (hn:l.most=some n) (S:d.params.defaults=[])
  (call:∀(w:a7) (s₀ v:aq) (mg U:qM) (J:aj) (o:Obj) (pm cd doc:af) (a:aj) (vs:List af) (ns:List Int),
   Ground q loose [] Z w s₀ mg U v.heap->YP w v.heap ->
   v.heap.get? J=some o->o.data=.func (docDef d.name d.params d.body d.scope pm cd doc)->v.heap.CodeRec cd d.name->mg d.name=some (.ref J) ->
   v.heap.get? a=some { cls:=.type "list",data:=.seq vs.toArray }->fX vs ns->ns.length<=n->v.gens=#[] ->
   codeAny (model l.prog w) callerA (.call (.ref J) ⟨[.ref a],[]⟩) (fun r s'=>r=.ok (.ret (.bool true))/\OldK v.heap s'.heap/\s'.os=v.os/\kZ s'.gens) v) :
  WalkO q loose Z YP l.row.toRowW d [] (fun f vs=>yV f vs):=by
 intro w s₀ v mg U G Y J o pm cd doc dV kV ho hd L hD N hg args vals as LP hlay hrd R hlo;obtain rfl:dV=.none:=Dflts.none hD S;obtain rfl:kV=.none:=Dflts.noKw hD;obtain⟨a,vs,ns,rfl,rfl,I,x,C⟩:=zjJ hn LP R;refine enter_call (iG (call w s₀ v mg U J o pm cd doc a vs ns G Y ho (fd_plain hd) L N I x C hg) fun r s' hq=>?_);obtain⟨rfl,h2,h3,h4⟩:=hq;exact⟨.inl ⟨.bool true,.bool true,[],rfl,fun _=>rfl,.bool true,zjX l _,fun _=>⟨mG,fun _ hm=>(nomatch hm)⟩⟩,h2,h3,h4⟩
section
variable{prog:aJ}{w:a7}{A:aX}{E:qV}{s:aq}{K:Frag}
def Y6(h:aW):aW:={ h with objs:=#[] }
theorem ZU(h:aW)(b:aj):(Y6 h).get? b=none:=by
 cases e:(Y6 h).get? b with
 | none=>rfl
 | some o=>exact absurd (aw e) (Nat.not_lt_zero _)
def ledger(h:aW)(L d:aj):List (aj×Obj):=(eJ h.objs.size).filterMap fun a=>if a=L\/a=d then none else(h.get? a).map fun o=>(a,o)
theorem ziL{h:aW}{L d a:aj}{o:Obj}:(a,o)∈ledger h L d↔a≠L/\a≠d/\h.get? a=some o:=by unfold ledger;rw[gq];constructor;rintro⟨b,_,e⟩;split at e;cases e;rename_i v;obtain⟨G,u,x⟩:=cO.mp e;cases x;exact⟨fun q=>v (.inl q),fun q=>v (.inr q),u⟩;rintro⟨C,y,u⟩;refine⟨a,lC.mpr (aw u),?_⟩;rw[if_neg (show ¬(a=L\/a=d) from fun q=>q.elim C y),u] <;> rfl
theorem zrG{h:aW}{L:aj}{m:qM}(n:h.Ns L m):Fr (Y6 h) L h m :=
 ⟨n,fun b o e=>(by rw[ZU]at e;cases e),cw _⟩
end
end Att
namespace L2
open PySem PySem.Spec PyProof.Rows
theorem ze_:∀{vs:List af}{ns:List Int},fX vs ns->Vals (ns.map V.int) vs
 | _,_,.nil=>.nil
 | _,_,.cons n t h=>.cons ⟨t,rfl⟩ (ze_ h)
def Qp(s:eK):m5:=match s with
 | .FunctionDef _ a _ _ _ _ _ _ _ _=>a
 | _=>{ posonlyargs:=[],args:=[],vararg:=none,kwonlyargs:=[],kw_defaults:=[],kwarg:=none,defaults:=[] }
def JV(s:eK):List eK:=match s with
 | .FunctionDef _ _ b _ _ _ _ _ _ _=>b
 | _=>[]
def Jw(s:eK):e8:=match s with
 | .FunctionDef _ _ _ _ _ _ sc _ _ _=>sc
 | _=>{ kind:=.function,names:=[],isGenerator:=false,isCoroutine:=false }
abbrev CX0:CXT:=fun _ _ _ _ _ _=>False
abbrev E0:XK:=fun _ _ _=>False
theorem zqr{X:Cx}:YL CX0 X E0:=fun _ _ _ _ _ _ _ h=>h.elim
structure Fun(K:qF)(x qual:Str)(st:eK)(f:aj)(fd:dz):Prop where
 ex:∃(oc:af) (od:Option aj) (kV doc pm:af) (an:Option aj) (cdv ct:af) (osl:Array (Option af)),
  fd=eQ x qual (Qp st) (JV st) (Jw st) .none kV doc pm an cdv ct/\K.lookup f=some ⟨oc,od,.func fd,osl⟩/\iI K cdv qual=true
 kp:gQ K (.ref f)=true
section
variable{P:aJ}{w:a7}{K:qF}{mg:qM}{base:aW}
theorem Fun.ok{x qual:Str}{st:eK}{f:aj}{fd:dz}{N ps:List Str}{k:Nat}{y:Sp}(F:Fun K x qual st f fd)(S:Qk N ps (Jw st))(len:∀vs H Q E,y vs H Q E->vs.length=ps.length)
  (G:∀(l:af) (A:aX) (outer:List Env) (s:aq) (H:Hp) (vs:List V) (Q:VK) (E:XK),Room k (A.deeper (envOfC qual (Jw st) s.heap.objs.size f l))->y vs H Q E ->
   ∃t,PSs (cxOf CX0 P w K mg base N qual (Jw st) f l A outer s H E).nox (JV st) t/\t { nx:=fun _ H'=>Q .non H',rt:=Q } (start N vs) H):FnOk P w K mg base CX0 (k+1) f fd ps y:=by
 obtain⟨R,L,kV,doc,pm,an,l,ct,C,rfl,I,u⟩:=F.ex;refine zrH I u S len fun A outer s H vs Q E J v=>?_;obtain⟨t,h,q⟩:=G l A outer s H vs Q E J v;exact⟨t,h.nox,q⟩
theorem Fun.binds{x qual:Str}{st:eK}{f:aj}{fd:dz}{ps:List Str}(F:Fun K x qual st f fd)
  (h:∀(kV doc pm:af) (an:Option aj) (u ct:af) (v:List af),v.length=ps.length->bindArgs (eQ x qual (Qp st) (JV st) (Jw st) .none kV doc pm an u ct) ⟨v,[]⟩=pure (ps.zip v)):Binds K fd ps []:=by
 obtain⟨I,G,kV,doc,pm,an,u,ct,y,rfl,J,C⟩:=F.ex;exact .all (h kV doc pm an u ct)
theorem znt{x qual:Str}{st:eK}{f:aj}{C:af}{G an:Option aj}{y:Array (Option af)}{kV doc pm v ct:af}(l:K.lookup f=some ⟨C,G,.func (eQ x qual (Qp st) (JV st) (Jw st) .none kV doc pm an v ct),y⟩)
  (c:iI K v qual=true) (k:gQ K (.ref f)=true):Fun K x qual st f (eQ x qual (Qp st) (JV st) (Jw st) .none kV doc pm an v ct):=⟨⟨C,G,kV,doc,pm,an,v,ct,y,rfl,l,c⟩,k⟩
end
section
variable{X:Cx}
theorem pv(i:Nat){x:Str}{pos:Pos}(u:X.N[i]?=some x:=by rfl)(o:Vis X.env.scope x:=by walk_at "V")(hd:(x == ("__debug__":Str))=false:=by decide)
  (l:(x == ("__classdict__":Str))=false:=by decide):PE X (.Name x pos) (tVar i):=Qr u o hd l
end
theorem iteF{A B:Prop}(h:B):if false=true then A else B:=by rw[if_neg bf];exact h
theorem iteT{A B:Prop}(h:A):if true=true then A else B:=by rw[if_pos rfl];exact h
def Same(H H':Hp):Prop:=∀b o,H b=some o->H' b=some o
theorem Same.refl(H:Hp):Same H H:=fun _ _ h=>h
theorem Same.trans{H l u:Hp}(a:Same H l)(b:Same l u):Same H u:=fun c o h=>b c o (a c o h)
def closed(env:Env):List (Str×fk)->List (Str×aj)->List (Str×aj)
 | [],acc=>acc
 | (n,k)::r,acc=>closed env r (if (k == .free)=true then(n,(env.cells.lookup n).getD 0)::acc else acc)
theorem zdX{env:Env}:∀(l:List (Str×fk)) (acc:List (Str×aj)),(∀x∈l,x.2=.free->∃c,env.cells.lookup x.1=some c) ->
  (forIn l acc fun x __s=>if (x.snd == cI)=true then do
    let c <- cellOf env x.fst
    pure (bT ((x.fst,c)::__s))
   else pure (bT __s):Sem (List (Str×aj)))=pure (closed env l acc)
 | [],acc,_=>rfl
 | (n,k)::r,acc,h=>by
  have u:=fun a=>zdX (env:=env) r a fun x hx=>h x (b8 _ hx);rw[kE];by_cases e:(k == cI)=true;obtain⟨c,hc⟩:=h (n,k) cM (by simpa using e);have o:xy n env.cells=some c:=hc;have y:cellOf env n=pure c:=by unfold cellOf;rw[o]
  simp only[e,if_true,y,pure_bind];rw[u];conv=>rhs;unfold closed
  simp only[e,if_true,o,fh];have v:(k == cI)=false:=by simpa using e
  simp only[v,aU,if_false,pure_bind];rw[u];conv=>rhs;unfold closed
  simp only[v,aU,if_false]
theorem ZV{scope:e8}{env:Env}(h:∀x∈scope.names,x.2=.free->∃c,env.cells.lookup x.1=some c):closureFor scope env=pure (closed env scope.names []):=by simp only[closureFor];rw[zdX scope.names [] h];rfl
theorem ZR{env:Env}:∀(l:List (Str×fk)) (acc:List (Str×aj)),(∀x∈l,x.2=.free->∃c,env.cells.lookup x.1=some c) ->
  (∀x c,acc.lookup x=some c->env.cells.lookup x=some c)->∀x c,(closed env l acc).lookup x=some c->env.cells.lookup x=some c
 | [],acc,_,ha=>ha
 | (n,k)::r,acc,h,ha=>by
  unfold closed;refine ZR r _ (fun x hx=>h x (b8 _ hx)) fun x c=>?_;by_cases e:(k == cI)=true;obtain⟨d,hd⟩:=h (n,k) cM (by simpa using e);have v:xy n env.cells=some d:=hd;simp only[e,if_true,v,fh];intro q;rw[dR]at q;by_cases ex:(x == n)=true;simp only[ex]at q;have C:x=n:=by simpa using ex
  cases q;rw[C];exact v;have y:(x == n)=false:=by simpa using ex
  simp only[y]at q;exact ha x c q;have G:(k == cI)=false:=by simpa using e
  simp only[G,aU,if_false];exact ha x c
theorem zet{env:Env}:∀(l:List (Str×fk)) (acc:List (Str×aj)) (x:Str),(∃c,acc.lookup x=some c)->∃c,(closed env l acc).lookup x=some c
 | [],_,_,h=>h
 | (n,k)::r,acc,x,h=>by
  unfold closed;refine zet r _ x ?_;by_cases e:(k == cI)=true;simp only[e,if_true];rw[dR];cases(x == n) with
  | true=>exact⟨_,rfl⟩
  | false=>exact h
  have v:(k == cI)=false:=by simpa using e
  simp only[v,aU,if_false];exact h
theorem zcQ{env:Env}:∀(l:List (Str×fk)) (acc:List (Str×aj)) (x:Str),(x,cI)∈l->∃c,(closed env l acc).lookup x=some c
 | [],_,_,h=>nomatch h
 | (n,k)::r,acc,x,h=>by unfold closed;rcases au.mp h with e|h;cases e;refine zet r _ _ ?_;have v:(cI == cI)=true:=rfl;simp only[v,if_true];rw[dR];simp;exact zcQ r _ x h
theorem lookup_mem{α:Type}{l:List (Str×α)}{x:Str}{v:α}(h:l.lookup x=some v):(x,v)∈l:=by
 induction l with
 | nil=>simp at h
 | cons p r u =>
  obtain⟨n,w⟩:=p;rw[dR]at h;by_cases e:(x == n)=true;simp only[e]at h;cases h;have o:x=n:=by simpa using e
  rw[o];exact cM;have y:(x == n)=false:=by simpa using e
  simp only[y]at h;exact b8 _ (u h)
def QG(env:Env)(p:Str×fk):Str×fk:=if (p.2 == cI&&env.scope.kind == .function&&env.kindOf p.1 == some .cell)=true then(p.1,.cell) else p
theorem zjR(env:Env)(p:Str×fk):(QG env p).1=p.1:=by unfold QG;by_cases c:(p.2 == cI&&env.scope.kind == .function&&env.kindOf p.1 == some .cell)=true;rw[if_pos c];rw[if_neg c]
def kin(env:Env)(x:Str):Option fk->Option fk
 | some .free=>if (env.scope.kind == .function&&env.kindOf x == some .cell)=true then some .cell else some .free
 | o=>o
theorem zjQ(env:Env)(x:Str)(k:fk):some (QG env (x,k)).2=kin env x (some k):=by
 unfold QG;by_cases c:(k == cI&&env.scope.kind == .function&&env.kindOf x == some .cell)=true;rw[if_pos c];rw[cc,cc]at c;have y:k=.free:=by simpa using c.1.1
 subst y;unfold kin;rw[if_pos (by rw[cc];exact⟨c.1.2,c.2⟩)];rw[if_neg c];cases k with
 | free =>have:¬(env.scope.kind == .function&&env.kindOf x == some .cell)=true:=fun z=>c (by have v:(cI == cI)=true:=rfl;rw[v,mS];exact z);unfold kin;rw[if_neg this]
 | _=>rfl
theorem zeJ(scope:e8)(env:Env):(relabel scope env).names=scope.names.map (QG env):=by show scope.names.map _=_;refine e9 fun p _=>?_;obtain⟨n,k⟩:=p;rfl
theorem zeg(env:Env):∀(l:List (Str×fk)) (x:Str),(l.map (QG env)).lookup x=kin env x (l.lookup x)
 | [],_=>rfl
 | (n,k)::r,x=>by
  have y:=zeg env r x;have C:QG env (n,k)=(n,(QG env (n,k)).2):=fJ (zjR env (n,k)) rfl;rw[bp,C,dR,dR];by_cases e:(x == n)=true;have v:x=n:=by simpa using e
  subst v;simp only[beq_self_eq_true];exact zjQ env x k;have G:(x == n)=false:=by simpa using e
  simp only[G];exact y
theorem zcU(scope:e8)(env:Env)(x:Str):(relabel scope env).names.lookup x=kin env x (scope.names.lookup x):=by rw[zeJ];exact zeg env _ x
def tbH(A B:Hp):Hp:=fun b=>match A b with
 | some (.tbl q)=>some (.tbl q)
 | _=>B b
theorem zjx{A B:Hp}(h:∀b q,A b=some (.tbl q)->B b=some (.tbl q)):tbH A B=B:=funext fun b=>by unfold tbH;split;rename_i q e;exact(h b q e).symm;rfl
theorem zm7{A B:Hp}{b:aj}{q:Str}(h:A b=some (.tbl q)):tbH A B b=some (.tbl q):=by unfold tbH;rw[h]
abbrev capN(X:Cx)(capt:List Nat):List Str:=capt.map fun i=>X.N.getD i o8
abbrev capS(capt:List Nat)(σ:St):St:=capt.map fun i=>σ.getD i none
abbrev Ji(own:List Str):St:=own.map fun _=>none
abbrev Ja(X:Cx)(scope:e8)(own:List Str)(capt:List Nat)(C:aj)(s₀:aq)(H₀:Hp)(fp:List aj):Cx :=
 { X with N:=own++capN X capt,s₀:=s₀,H₀:=tbH X.H₀ H₀,env:=compEnvC scope (closed X.env scope.names []) C X.env,outer:=X.stack,stack:=X.stack,ex:=fp,fn:=fun _=>false,pn:=[],xe:=fun _ _=>False }
structure JC(scope:e8)(own:List Str)(capt:List Nat)(X:Cx):Prop where
 kind:scope.kind=.function
 nocell:∀y∈scope.names,y.2≠.cell
 names:∀y∈scope.names,y.2=.local->scope.names.lookup y.1=some .local
 frees:∀y∈scope.names,y.2=.free->X.env.kindOf y.1=some .cell\/X.env.kindOf y.1=some .free
 caps:∀k∈capt,scope.names.lookup (X.N.getD k o8)=some .free
theorem getD_some{α:Type}{l:List (Option α)}{k:Nat}{v:α}(h:l.getD k none=some v):l[k]?=some (some v):=by
 rw[bH]at h;cases e:l[k]? with
 | none=>rw[e]at h;cases h
 | some o=>rw[e]at h;simp at h;rw[h]
section
variable{X:Cx}{scope:e8}{own:List Str}{capt:List Nat}
theorem JC.cells(S:JC scope own capt X)(ok:X.Ok):∀x∈scope.names,x.2=.free->∃c,X.env.cells.lookup x.1=some c:=fun x hx hf=>ok.has x.1 (S.frees x hx hf)
theorem zpc{pins:qO}{σ:St}{H₀:Hp}{s₀:aq}{C:aj}{N:List aj}(S:JC scope own capt X)(I:Inv X pins σ H₀ s₀)(hf:∀b∈N,FpOk X pins H₀ b)(J:∀b∈N,b<s₀.heap.objs.size)(U:s₀.heap.objs.size<=C) :
  (Ja X scope own capt C s₀ H₀ N).Ok:=by
 have sub:=ZR scope.names [] (S.cells I.ok) (fun x c h=>nomatch (show(none:Option aj)=some c from h));unfold Ja;rw[zjx I.base.tbls];refine⟨I.ok.mod,S.kind,I.ok.glob,I.ok.blt,U,fun x y c h1 Y=>I.ok.inj x y c (sub x c h1) (sub y c Y),fun x Z=>?_,fun x c z=>absurd (show false=true from z) bf,I.ok.hd,I.ok.frames,.inl rfl,fun b G=>?_,I.bs,bZ I.ok.bsz I.sz,fun b o e G=>?_,fun b G z=>?_,I.stack,I.stkFree⟩;have e:=zcU scope X.env x;have v:(relabel scope X.env).names.lookup x=some .cell\/(relabel scope X.env).names.lookup x=some .free:=Z;rw[e]at v;cases q:scope.names.lookup x with
 | none=>rw[q]at v;rcases v with z|z <;> cases z
 | some k =>
  rw[q]at v;cases k with
  | free=>exact zcQ scope.names [] x (lookup_mem q)
  | cell=>exact absurd rfl (S.nocell _ (lookup_mem q))
  | _=>rcases v with z|z <;> cases z
 obtain⟨f0,f1,f2,L,f4,R⟩:=hf b G;exact⟨aA (aB (J b G) U),fun x c e=>f4 x c (sub x c e)⟩;obtain⟨f0,f1,f2,L,f4,R⟩:=hf b G;rcases L with z|z;exact I.ok.noex b o e z;exact absurd (aB (aw (I.ok.bs b o e).1) z) (hY _);obtain⟨f0,f1,f2,L,f4,R⟩:=hf b G;rcases au.mp (I.stkSub b z) with q|q;exact f1 q;exact f2 q
theorem zf9{J:HO}{pins:qO}{σ:St}{H₀:Hp}{s₀:aq}{fp:List aj}{h':aW}{D C:aj}{tk:Nat}(S:JC scope own capt X)(I:Inv X pins σ H₀ s₀)(hf:∀b∈fp,FpOk X pins H₀ b)(hfp:∀b∈fp,b<s₀.heap.objs.size)
  (hD:s₀.heap.objs.size<=D) (hC:s₀.heap.objs.size<=C) (hDC:D≠C) (old:∀b o,s₀.heap.get? b=some o->h'.get? b=some o) (hns:h'.Ns C (fun _=>none)) (U:Jx X.prog X.w (upd H₀ D J) h' D J) :
  Inv (Ja X scope own capt C s₀ H₀ fp) [] (Ji own++capS capt σ) (upd H₀ D J) { s₀ with heap:=h',toks:=tk }:=by
 have ok:=zpc S I hf hfp hC;have sub:=ZR scope.names [] (S.cells I.ok) (fun x c h=>nomatch (show(none:Option aj)=some c from h));have hn:H₀ D=none:=I.hok.fresh hD;unfold Ja at ok ⊢;rw[zjx I.base.tbls]at ok ⊢;refine⟨ok,rfl,I.bare,Un.laid old hD hn,⟨_,hns,fun i x v e1 L e3=>?_⟩,fun x c e=>?_,?_,fun x c e=>?_,fun p hp=>absurd (show p∈([]:qO) from hp) (by simp),I.hok.laid (o:=J) old hD U,(by show(Ji own++capS capt σ).length=(own++capN X capt).length;simp[Ji,capS,capN])⟩;have N:(Ji own).length=own.length:=aR ..;by_cases hi:i<own.length;rw[bE (by rw[N];exact hi)]at L;unfold Ji at L;rw[aN]at L;cases q:own[i]? with
 | none=>rw[q]at L;cases L
 | some z=>rw[q]at L;cases L
 have Z:own.length<=i:=sD hi;have G:(own++capN X capt)[i]?=some x:=e1;rw[bw Z]at G;rw[bw (by rw[N];exact Z),N]at L;unfold capN at G;unfold capS at L;rw[aN]at G L;cases q:capt[i - own.length]? with
 | none=>rw[q]at G;cases G
 | some k =>
  rw[q]at G L;have ex:X.N.getD k o8=x:=aQ G;have ev:σ.getD k none=some v:=aQ L;have hk:k∈capt:=aP q;have hv:=getD_some ev;have Y:k<X.N.length:=by rw[<- I.len];exact(aH.mp hv).1
  have hx:X.N[k]?=some x:=by rw[bH,av Y]at ex;rw[av Y];exact congrArg some ex
  have Ln:=S.caps k hk;rw[ex]at Ln;have Lu:=S.frees _ (lookup_mem Ln) rfl;obtain⟨m,hm,hl⟩:=I.loc;have vis:Vis X.env.scope x:=by rcases Lu with z|z;exact .inr (.inl z);exact .inr (.inr z)
  obtain⟨u,r,l⟩:=hl k x v hx hv vis;refine⟨u,r,.inr ⟨?_,?_⟩⟩;have e:=zcU scope X.env x;rw[Ln]at e;show(relabel scope X.env).names.lookup x=some .cell\/(relabel scope X.env).names.lookup x=some .free;rw[e];unfold kin;by_cases c:(X.env.scope.kind == .function&&X.env.kindOf x == some .cell)=true;rw[if_pos c];exact .inl rfl;rw[if_neg c];exact .inr rfl;rcases l with⟨z,_⟩|⟨_,c,hc,R⟩;rcases Lu with y|y <;> (have y':X.env.kindOf x=_:=y;rw[z]at y';cases y');obtain⟨d,hd⟩:=zcQ (env:=X.env) scope.names [] x (lookup_mem Ln);have:=sub x d hd;rw[hc]at this;cases this;obtain⟨o,U,hod⟩:=R;exact⟨c,hd,o,old _ _ U,hod⟩
 obtain⟨v,o,U,hd⟩:=I.cell x c (sub x c e);exact⟨v,o,old _ _ U,hd⟩;show upd H₀ D J C=none;rw[Jc (dW hDC)];exact I.hok.fresh hC;obtain⟨v,o,U,hd⟩:=I.cell x c (sub x c e);show upd H₀ D J c=none;rw[Jc (aA (aB (aw U) hD))];exact I.freeC x c (sub x c e)
theorem zmW{pins:qO}{σ:St}{H₀:Hp}{s₀:aq}{x:List aj}{h':aW}{D C:aj}{tk:Nat}(S:JC scope own capt X)(I:Inv X pins σ H₀ s₀)(hf:∀b∈x,FpOk X pins H₀ b)(v:∀b∈x,b<s₀.heap.objs.size)
  (L:s₀.heap.objs.size<=D) (J:s₀.heap.objs.size<=C) (u:D≠C) (old:∀b o,s₀.heap.get? b=some o->h'.get? b=some o) (G:h'.Ns C (fun _=>none)) (N:h'.get? D=some { cls:=.type "list",data:=.seq ([]:List af).toArray 0 }) :
  Inv (Ja X scope own capt C s₀ H₀ x) [] (Ji own++capS capt σ) (upd H₀ D (.lst [])) { s₀ with heap:=h',toks:=tk }:=zf9 S I hf v L J u old G ⟨cw _,[],0,.nil,N⟩
theorem zie{pins S:qO}{σ σ':St}{H₀ H':Hp}{s₀ s':aq}{R:List aj}{l:aW}{C:aj}(I:Inv X pins σ H₀ s₀)(hf:∀b∈R,FpOk X pins H₀ b)(hC:s₀.heap.objs.size<=C)
  (J:Inv (Ja X scope own capt C s₀ H₀ R) S σ' H' s') (N:cN C s'.heap l):Inv X pins σ H' { s' with heap:=l }:=by
 have G:H' C=none:=J.free;have x:∀b o,s₀.heap.get? b=some o->b≠C:=fun b o e=>aA (aB (aw e) hC);have u:Un (frs X.stack) R (tbH X.H₀ H₀) H' s₀.heap s'.heap:=J.base;rw[zjx I.base.tbls]at u;have u2:Un (frs X.stack) R H₀ H' s₀.heap l:=by refine⟨fun b o q n h1 L=>(N.2 b (x b o q)).trans (u.keep b o q n h1 L),fun b o q n h1 L=>?_,u.free,fun b o q L=>?_,u.tups,u.frzs,u.tbls⟩;obtain⟨sl,e⟩:=u.slot b o q n h1 L;exact⟨sl,(N.2 b (x b o q)).trans e⟩;obtain⟨o',e⟩:=u.there b o q L;exact⟨o',(N.2 b (x b o q)).trans e⟩
 have hok:HOk X.prog X.w H' l:=fun b U e=>by refine(J.hok b U e).stay (fun c v hc q=>(N.2 c ?_).trans q) (fun _ q=>q) (fun _ _ q=>q) fun _ _ _ q=>q;rintro rfl;rcases hc with z|z;subst z;rw[G]at e;cases e;rw[G]at z;cases z
 refine I.call' (s':={ s' with heap:=l }) J.os u2 hok J.bare fun b Y=>?_;obtain⟨f0,f1,f2,f3,f4,Z⟩:=hf b Y;exact⟨f3,f1,f4,Z⟩
end
def PTs(Y:Cx)(ifs:List bg)(t:TT):Prop :=
 ∀(pins:qO) (s:aq) (σ:St) (H:Hp) (Q:Bool->Hp->Prop),Inv Y pins σ H s->t σ H Q ->
  wpAny (model Y.prog Y.w) Y.A (forIn ifs true fun c r=>if r=true then do let ok <- isTrue c Y.env (eval c Y.env);pure (bT ok) else pure (bT r)) (TP Y pins σ Q) Y.xe s
def tYes:TT:=fun _ H Q=>Q true H
theorem zn3{Y:Cx}:PTs Y [] tYes:=fun _ _ _ H _ I h=>wpAny_tests_nil ⟨H,I,h⟩
theorem zn2{Y:Cx}{c:bg}{t:TT}(h:PT Y c t):PTs Y [c] t:=fun pins s σ H Q I q=>wpAny_tests_one (h pins s σ H Q I q)
abbrev NoX:af->aq->Prop:=fun _ _=>False
theorem zi1{prog:aJ}{w:a7}{A:aX}{R:kD->aq->Prop}{s:aq}{elt target iter:bg}{ifs:List bg}{scope:e8}{pos:Pos}{it acc:af}{env:Env}(I:Nat->aq->Prop)
  (turn:∀n s,I n s->wpAny (model prog w) A (pyNext it) (fun r G=>match r with
   | none=>R (.ok .next) G
   | some v=>wpAny (model prog w) A (letOwnedTupleGo target it v) (fun _ U=>wpAny (model prog w) A (assign target env v) (fun _ S =>
     wpAny (model prog w) A (forIn ifs true fun c r=>if r=true then do let ok <- isTrue c env (eval c env);pure (bT ok) else pure (bT r)) (fun ok y =>
      if ok=true then wpAny (model prog w) A (eval elt env) (fun x Y=>wpAny (model prog w) A (call (.builtin "list.append") [acc,x]) (fun _ Z=>∃m,m<n/\I m Z) NoX Y) NoX y
      else ∃m,m<n/\I m y) NoX S) NoX U) NoX G) NoX s) (n:Nat) (h:I n s) :
  codeAny (model prog w) A (.compLoop (.ListComp elt [⟨target,iter,ifs,0⟩] scope pos) 0 it acc env) R s:=by
 refine k6 rfl I (fun n s hI=>?_) n h;show wpAny _ A ((compTurn (.ListComp elt [⟨target,iter,ifs,0⟩] scope pos) 0 it acc env).onRaise (fun x=>do noteFrame x env;theTreesLotGoes x)) _ _ s;refine mH (cA (E:=NoX) ?_ (fun _ _ q=>q) fun _ _ z=>cF z);rw[compTurn_list];refine aa (b9 (aa (thn (turn n s hI) fun r G J=>?_)));cases r with
 | none=>exact ae J
 | some v =>
  refine aa (thn J fun _ U h₂=>aa (thn h₂ fun _ S h₃=>aa (thn h₃ fun ok y N=>?_)));cases ok with
  | false=>exact ae ⟨rfl,N⟩
  | true =>refine aa (aa (thn N fun x Y h₅=>aa (thn h₅ fun _ Z h₆=>?_)));exact ae (ae ⟨rfl,h₆⟩)
def Wk:St->St->Prop
 | [],[]=>True
 | none::r,_::r'=>Wk r r'
 | some v::r,o::r'=>o=some v/\Wk r r'
 | _,_=>False
theorem Wk.weak:∀{σ σ':St},Wk σ σ'->σ.length=σ'.length/\∀(i:Nat) v,σ[i]?=some (some v)->σ'[i]?=some (some v)
 | [],[],_=>⟨rfl,fun _ _ h=>by simp at h⟩
 | none::r,o::r',h=>by
  obtain⟨a,b⟩:=Wk.weak (σ:=r) (σ':=r') h;refine⟨by simp[a],fun i v e=>?_⟩;cases i with
  | zero=>simp at e
  | succ i=>simpa using b i v (by simpa using e)
 | some w::r,o::r',h=>by
  obtain⟨h0,h1⟩:o=some w/\Wk r r':=h;obtain⟨a,b⟩:=Wk.weak h1;refine⟨by simp[a],fun i v e=>?_⟩;cases i with
  | zero=>rw[h0];simpa using e
  | succ i=>simpa using b i v (by simpa using e)
 | none::_,[],h=>cF h
 | some _::_,[],h=>cF h
 | [],_::_,h=>cF h
def zpt(own:List Str)(capt:List Nat)(g:TG)(tt:TT)(S:TE)(σ:St)(J:It)(U:Hp)(D:aj)(Q:VK):Prop:=∃W:Nat->Nat->Hp->Prop,(∃m,W 0 m (upd U D (.lst [])))/\∀i m y,W i m y ->
 (J.stop i y/\Q (.ref D) y)\/(J.go i y/\∃(N:V->Hp->Prop) (L:Hp->Prop),(∀v G,N v G->∃ys,G D=some (.lst ys)/\ys.length<sizeLine/\∃u,u<m/\W (i+1) u (upd G D (.lst (ys++[v]))))/\(∀C,L C->∃u,u<m/\W (i+1) u C) /\
  ∀x I,J.yld i y x I->g x (Ji own++capS capt σ) I fun o R=>Wk (Ji own++capS capt σ) o/\tt o R fun b C=>if b=true then S o C N else L C)
def tComp(own:List Str)(capt:List Nat)(o:TI)(g:TG)(tt:TT)(u:TE):TE:=fun σ H Q=>o σ H fun J l=>∀D,l D=none->zpt own capt g tt u σ J l D Q
def CompI(Y:Cx)(pins:qO)(σ:St)(l:List aj)(o:Nat->aW->Prop)(W:Nat->Nat->Hp->Prop)(n:Nat)(s':aq):Prop:=∃i H',Inv Y pins σ H' s'/\o i s'.heap/\(∀b∈l,H' b=none)/\W i n H'
theorem Yg{Y:Cx}{tg:bg}{ifs:List bg}{g:TG}{tt:TT}(hxe:Y.xe=NoX)(hc:Y.calm=true)(hg:PG Y tg g)(ht:PTs Y ifs tt){pins:qO}{σ:St}{it:aj}{I:List aj}{tn:Nat->aW->Prop}{J:It}(T:Turn Y.prog Y.w Y.K tg J I it tn)
  (Lo:∀{H':Hp},(∀b∈I,H' b=none)->∀b∈I,FpOk Y pins H' b) {W:Nat->Nat->Hp->Prop} {n i:Nat} {s4:aq} {G:Hp} {Dn AC:aq->Prop} (I4:Inv Y pins σ G s4) (st4:tn i s4.heap) (fr4:∀b∈I,G b=none)
  (h:(J.stop i G/\∀s5,Inv Y pins σ G s5->Dn s5)\/(J.go i G/\∃(NT:St->Hp->Prop) (NF:Hp->Prop),(∀{p6 l C R},Inv Y (pins++p6) l C R->NT l C->(∀{s9 H9 y},Inv Y (pins++p6) l H9 s9->y<n->W (i+1) y H9->∃m,m<n/\CompI Y pins σ I tn W m s9)->AC R) /\
   (∀H5,NF H5->∃y,y<n/\W (i+1) y H5)/\∀x H3,J.yld i G x H3->g x σ H3 fun S H5=>Wk σ S/\tt S H5 fun b H6=>if b=true then NT S H6 else NF H6)) :
  wpAny (model Y.prog Y.w) Y.A (pyNext (.ref it)) (fun r N=>match r with
   | none=>Dn N
   | some v=>wpAny (model Y.prog Y.w) Y.A (letOwnedTupleGo tg (.ref it) v) (fun _ s₂=>wpAny (model Y.prog Y.w) Y.A (assign tg Y.env v) (fun _ s₃ =>
     wpAny (model Y.prog Y.w) Y.A (forIn ifs true fun c r=>if r=true then do let ok <- isTrue c Y.env (eval c Y.env);pure (bT ok) else pure (bT r)) (fun ok L =>
      if ok=true then AC L else ∃m,m<n/\CompI Y pins σ I tn W m L) NoX s₃) NoX s₂) NoX N) NoX s4:=by
 rcases h with⟨stop,dn⟩|⟨go,NT,NF,hT,hF,step⟩
 ·refine thn (T.done Y rfl rfl rfl hc i pins s4 _ G NoX I4 (Lo fr4) st4 stop) fun r s5 ⟨hr,I5⟩=>?_;subst hr;exact dn s5 I5
 refine thn (T.item Y rfl rfl rfl hc i pins s4 _ G NoX I4 (Lo fr4) st4 go) fun r s5 ⟨u,hr,h5⟩=>?_;subst hr;refine thn h5 fun _ s6 ⟨x,H6,I6,r6,y6,U,fr6⟩=>?_;have I6':=I6.pinned (Lo fr6) (T.obj _ _ U);have a1:=hg _ s6 _ H6 x u _ I6' r6 (step x H6 y6);rw[hxe]at a1;refine thn a1 fun _ s7 ⟨l,H7,I7,wk,q7⟩=>?_;obtain⟨wl,wv⟩:=wk.weak;have again:∀{R:aq} {C:Hp} {y:Nat},Inv Y (pins++US I s6.heap) l C R->y<n->W (i+1) y C->∃m,m<n/\CompI Y pins σ I tn W m R:=fun {R C y} Z hm w8=>by refine⟨y,hm,i+1,C,(Z.unpinned).weak wl wv,T.keep _ _ _ U fun b hb o e=>(Z.pin (b,o) (aK _ (aK _ (ZS hb e)))).1,fun b hb=>?_,w8⟩;obtain⟨o,e,d⟩:=T.obj _ _ U b hb;exact(Z.pin (b,o) (aK _ (aK _ (ZS hb e)))).2.1
 have a2:=ht _ s7 l H7 _ I7 q7;rw[hxe]at a2;refine thn a2 fun ok R ⟨C,Z,q8⟩=>?_;cases ok with
 | false =>obtain⟨y,hm,w8⟩:=hF C (by simpa using q8);exact again Z hm w8
 | true=>exact hT Z (by simpa using q8) again
section
variable{X:Cx}{scope:e8}{own:List Str}{capt:List Nat}{elt tg iter:bg}{ifs:List bg}{pos:Pos}{wi:TI}{g:TG}{tt:TT}{te:TE}
theorem zf6(S:JC scope own capt X){pins:qO}{σ:St}{v:Hp}{s2:aq}{o:List aj}{C:aj}(G:Inv X pins σ v s2)(f2:∀b∈o,FpOk X pins v b)(y:∀b∈o,b<s2.heap.objs.size)(I:s2.heap.objs.size<=C){H':Hp}(N:∀b∈o,H' b=none):∀b∈o,FpOk (Ja X scope own capt C s2 v o) [] H' b:=fun b u=>by obtain⟨U,g1,g2,g3,L,R⟩:=f2 b u;have sub:=ZR scope.names [] (S.cells G.ok) (fun x c h=>nomatch (show(none:Option aj)=some c from h));refine⟨N b u,aA (aB (y b u) I),fun z=>?_,.inl u,fun x c e=>L x c (sub x c e),fun p J=>absurd (show p∈([]:qO) from J) (by simp)⟩;rcases au.mp (G.stkSub b z) with q|q;exact g1 q;exact g2 q
theorem zf8(S:JC scope own capt X){pins:qO}{σ:St}{R:It->Hp->Prop}{Z:af}{s2:aq}{E:qV}{CA:af->Env->aq->Prop}(h2:PIE X pins σ tg R Z s2)
  (k:∀(it:aj) (G:List aj) (tn:Nat->aW->Prop) (J:It) (I:Hp) (D C:aj) (v:aW),Z=.ref it->Turn X.prog X.w X.K tg J G it tn->R J I->I D=none->tn 0 v->(∀b∈G,upd I D (.lst []) b=none) ->
   (∀tk,Inv (Ja X scope own capt C s2 I G) [] (Ji own++capS capt σ) (upd I D (.lst [])) { s2 with heap:=v,toks:=tk })->(∀{H':Hp},(∀b∈G,H' b=none)->∀b∈G,FpOk (Ja X scope own capt C s2 I G) [] H' b) ->
   (∀s5 H4,Inv (Ja X scope own capt C s2 I G) [] (Ji own++capS capt σ) H4 s5->(∃m,s5.heap.Ns C m)/\(∀N,cN C s5.heap N->Inv X pins σ H4 { s5 with heap:=N })/\H4 C=none/\FpOk X pins H4 C) ->
   CA (.ref D) (compEnvC scope (closed X.env scope.names []) C X.env) { s2 with heap:=v }) :
  wpAny (model X.prog X.w) X.A (newList []) (fun acc s₃=>wpAny (model X.prog X.w) X.A (newFunctionEnv scope X.env.globals (closed X.env scope.names []) [] X.env.qual none .none (some X.env)) (fun cenv Y=>CA acc { cenv with scope:=relabel scope X.env } Y) E s₃) E s2:=by
 obtain⟨it,G,tn,J,I,e,I2,T,st2,f2,rd⟩:=h2;have L:∀b∈G,b<s2.heap.objs.size:=fun b hb=>by obtain⟨o,e,_⟩:=T.obj 0 _ st2 b hb;exact aw e
 refine bG (oG S.nocell (by intro y hy;simp at hy) (fun v x u=>?_) S.kind);dsimp only at x u ⊢;generalize hH3:s2.heap.push { cls:=.type "list",dict:=none,data:=.seq ([]:List af).toArray }=H3 at x u ⊢;have hC:H3.objs.size=s2.heap.objs.size+1:=by rw[<- hH3,cZ]
 have hDC:s2.heap.objs.size≠H3.objs.size:=by rw[hC];exact aA (m9 _)
 have U:s2.heap.objs.size<=H3.objs.size:=by rw[hC];exact fK _
 have neC:∀b o,s2.heap.get? b=some o->b≠H3.objs.size:=fun b o e=>aA (aB (aw e) U);have old:∀b o,s2.heap.get? b=some o->v.get? b=some o:=fun b o e=>u.extBut b o (neC b o e) (ag _ (hH3▸ag _ e));have LC:v.get? s2.heap.objs.size=some { cls:=.type "list",data:=.seq ([]:List af).toArray 0 }:=u.extBut _ _ hDC (ag _ (hH3▸ax _ rfl));refine k it G tn J I s2.heap.objs.size H3.objs.size v e T rd (I2.hok.fresh (aD _)) (T.keep _ _ _ st2 fun b hb o e=>old b o e) (fun b hb=>by rw[Jc (aA (L b hb))];exact(f2 b hb).1)
  (fun tk=>zmW (tk:=tk) S I2 f2 L (aD _) U hDC old x LC) (zf6 S I2 f2 L U) (fun s5 H4 I5=>?_)
 obtain⟨m,hn,_⟩:=I5.loc;exact⟨⟨m,hn⟩,fun N sb=>zie I2 f2 U I5 sb,I5.free,I2.fpOk U I5.free⟩
theorem zic(hc:X.calm=true)(S:JC scope own capt X)
  (hg:∀C s₀ H₀ I,PG (Ja X scope own capt C s₀ H₀ I) tg g) (ht:∀C s₀ H₀ I,PTs (Ja X scope own capt C s₀ H₀ I) ifs tt) (he:∀C s₀ H₀ I,PE (Ja X scope own capt C s₀ H₀ I) elt te)
  {pins:qO} {σ:St} {Q:VK} {R:af} {s2:aq} {E:qV} {RR:af->aj->kD->aq->Prop}
  (h2:PIE X pins σ tg (fun J H1=>∀D,H1 D=none->zpt own capt g tt te σ J H1 D Q) R s2)
  (hR:∀D C s' H',(∃m,s'.heap.Ns C m)->(∀h'',cN C s'.heap h''->Inv X pins σ H' { s' with heap:=h'' })->H' C=none->FpOk X pins H' C->Q (.ref D) H'->RR (.ref D) C (.ok .next) s') :
  wpAny (model X.prog X.w) X.A (newList []) (fun acc Z=>wpAny (model X.prog X.w) X.A (newFunctionEnv scope X.env.globals (closed X.env scope.names []) [] X.env.qual none .none (some X.env)) (fun u G =>
   codeAny (model X.prog X.w) X.A (.compStart (.ListComp elt [⟨tg,iter,ifs,0⟩] scope pos) 0 R acc { u with scope:=relabel scope X.env }) (RR acc u.locals) G) E Z) E s2:=by
 refine zf8 (CA:=fun acc u G=>codeAny (model X.prog X.w) X.A (.compStart (.ListComp elt [⟨tg,iter,ifs,0⟩] scope pos) 0 R acc u) (RR acc u.locals) G) S h2 fun it I tn J H2 D C h₁ e T rd hnD U fr0 J0 Lo out=>?_;subst e;obtain⟨W,⟨m0,w0⟩,turn⟩:=rd _ hnD;have loop:∀tk:Tok,codeAny (model X.prog X.w) X.A (.compLoop (.ListComp elt [⟨tg,iter,ifs,0⟩] scope pos) 0 (.ref it) (.ref D) (compEnvC scope (closed X.env scope.names []) C X.env)) (RR (.ref D) C) { s2 with heap:=h₁,toks:=tk }:=fun tk=>by
  refine zi1 (CompI (Ja X scope own capt C s2 H2 I) [] (Ji own++capS capt σ) I tn W) ?_ m0 ⟨0,_,J0 tk,U,fr0,w0⟩;rintro n s4 ⟨i,H4,I4,st4,fr4,w4⟩;refine Yg (Y:=Ja X scope own capt C s2 H2 I) rfl hc (hg _ _ _ _) (ht _ _ _ _) T Lo I4 st4 fr4 ?_;rcases turn i n H4 w4 with⟨stop,qn⟩|⟨go,N,N',hN,hN',step⟩
  ·exact .inl ⟨stop,fun s5 I5=>let ⟨o1,o2,o3,o4⟩:=out s5 H4 I5;hR _ _ s5 H4 o1 o2 o3 o4 qn⟩
  refine .inr ⟨go,fun σ4 H5=>te σ4 H5 N,N',fun {p6 σ7 H8 s8} I8 q8 again=>?_,hN',step⟩;refine thn (he _ _ _ _ _ s8 σ7 H8 N I8 q8) fun y s9 ⟨v,H9,I9,r9,q9⟩=>?_;obtain⟨ys,hD,hl,m',hm,w9⟩:=hN v H9 q9;refine thn (zdH (X:=Ja X scope own capt C s2 H2 I) _ s9 σ7 H9 (.ref D) [v] _ [y] (fun _ H'=>H'=upd H9 D (.lst (ys++[v]))) I9 rfl (.cons r9 .nil) ⟨_,ys,v,rfl,rfl,hD,hl,rfl⟩) fun _ s10 ⟨_,H10,I10,_,q10⟩=>?_;subst q10;exact again I10 hm w9
 exact nJ (loop _) (T.self X.A 0 _ _ _ U (loop _))
theorem zmb(hc:X.calm=true)(S:JC scope own capt X)(hi:PI X tg iter wi)
  (Z:∀C s₀ H₀ l,PG (Ja X scope own capt C s₀ H₀ l) tg g) (G:∀C s₀ H₀ l,PTs (Ja X scope own capt C s₀ H₀ l) ifs tt) (he:∀C s₀ H₀ l,PE (Ja X scope own capt C s₀ H₀ l) elt te)
  (N:∀x,foldedSetIterable iter X.env x=pure x:=by intro _;rfl):PE X (.ListComp elt [⟨tg,iter,ifs,0⟩] scope pos) (tComp own capt wi g tt te):=by
 intro pins s σ H Q I h;rw[eval_ListComp];refine fR (use:=none) rfl N (ZV (S.cells I.ok)) S.kind S.names (thn (hi pins s σ H _ I h) fun v s1 h1=>thn h1 fun R s2 U=>?_);refine zic (RR:=fun acc C=>compPost (model X.prog X.w) X.A X.xe none (EP X pins σ Q) acc C) hc S Z G he U fun D C s' H' y J _ _ q=>?_;obtain⟨m,y⟩:=y;exact⟨m,y,fun u Y=>⟨.ref D,H',J u Y,rfl,q⟩⟩
theorem zjW(hc:X.calm=true)(S:JC scope own capt X)(hi:PI X tg iter wi)
  (hg:∀C s₀ H₀ y,PG (Ja X scope own capt C s₀ H₀ y) tg g) (ht:∀C s₀ H₀ y,PTs (Ja X scope own capt C s₀ H₀ y) ifs tt) (he:∀C s₀ H₀ y,PE (Ja X scope own capt C s₀ H₀ y) elt te)
  {i:Nat} {x:Str} {u LA:Pos} (hN:X.N.Nodup) (hxi:X.N[i]?=some x) (hx:Loc X.env.scope x)
  (hs:∀x,foldedSetIterable iter X.env x=pure x:=by intro _;rfl) (Z:swapsWith (.ListComp elt [⟨tg,iter,ifs,0⟩] scope pos) (some (.Name x u)) LA.line X.env=pure true:=by rfl)
  (hf:X.fn x=true\/X.env.scope.names.lookup x=some .local:=by walk_at "F") :
  PS X (.Assign [.Name x u] (.ListComp elt [⟨tg,iter,ifs,0⟩] scope pos) LA) (tAsg (tComp own capt wi g tt te) (YE i)):=by
 intro pins s σ H D I h;rw[exec_Assign_Name_used _ _ _ _ Z];refine aa (b9 (aa ?_));show wpAny _ X.A (do let _ <- comprehension (.ListComp elt [⟨tg,iter,ifs,0⟩] scope pos) scope X.env _ (newList []) false (eval iter X.env) (some (assign (.Name x u) X.env))) _ _ s;refine aa (cA (fR (use:=some (assign (.Name x u) X.env)) (Q:=fun _ s'=>SP X pins D .next s') rfl hs (ZV (S.cells I.ok)) S.kind S.names (thn (hi pins s σ H _ I h) fun v s1 h1=>thn h1 fun itv s2 h2=>?_)) (fun _ s' hq=>ae (ae hq)) fun _ _ e=>e);refine zic (RR:=fun acc C=>compPost (model X.prog X.w) X.A X.xe (some (assign (.Name x u) X.env)) (fun _ s'=>SP X pins D .next s') acc C) hc S hg ht he h2 fun D' C s' H' hn J hCn y q=>?_;obtain⟨m,hn⟩:=hn;obtain⟨f0,f1,f2,f3,f4,f5⟩:=y;have Is:Inv X pins σ H' s':=J s'.heap (mI _ _);refine rm (zfe Is hN hxi hx (show RelV (.ref D') (.ref D') from rfl) (fun G U sb=>?_) hf);obtain⟨a,sb,Y⟩:=sb;have R:C≠a:=by rcases Y with rfl|Y;exact f1;exact fun z=>f4 x a Y z.symm
 have hn':G.heap.Ns C m:=hn.sameBut sb R;exact⟨m,hn',fun h' sb'=>⟨_,H',U.turned (t':=G.toks) (fun b o hb e=>(sb'.2 b hb).trans e) f0 f1 f3 f4 f5,q⟩⟩
end
theorem zll{J:It}{n:Nat}{own:List Str}{capt:List Nat}{g:TG}{tt:TT}{L:TE}{σ:St}{N:Hp}{D:aj}{Q:VK}(y:Nat->List V->Hp->Prop)(h0:y 0 [] (upd N D (.lst [])))
  (turn:∀i ys o,i<n->o D=some (.lst ys)->y i ys o->J.go i o/\∀x I,J.yld i o x I->g x (Ji own++capS capt σ) I fun u S=>Wk (Ji own++capS capt σ) u/\tt u S fun b C =>
   if b=true then L u C (fun v G=>∃zs,G D=some (.lst zs)/\zs.length<sizeLine/\y (i+1) (zs++[v]) (upd G D (.lst (zs++[v])))) else ∃zs,C D=some (.lst zs)/\y (i+1) zs C)
  (stop:∀ys o,o D=some (.lst ys)->y n ys o->J.stop n o/\Q (.ref D) o) :
  zpt own capt g tt L σ J N D Q:=by
 refine⟨fun i m H=>m=n - i/\i<=n/\∃ys,H D=some (.lst ys)/\y i ys H,⟨n,rfl,cw _,[],Jo,h0⟩,?_⟩;rintro i m o ⟨rfl,hi,ys,R,p⟩;by_cases hlt:i<n;obtain⟨go,st⟩:=turn i ys o hlt R p;refine .inr ⟨go,_,_,?_,?_,st⟩;rintro v G ⟨zs,e,l,q⟩;exact⟨zs,e,l,n - (i+1),by omega,rfl,hlt,_,Jo,q⟩;rintro C ⟨zs,e,q⟩;exact⟨n - (i+1),by omega,rfl,hlt,zs,e,q⟩
 ·have e:i=n:=by omega
  subst e;exact .inl (stop ys o R p)
def zdV(scope outer:e8)(N:List Str)(capt:List Nat):Bool :=
 scope.kind == .function&&scope.names.all (fun y=>!(y.2 == .cell))&&scope.names.all (fun y=>!(y.2 == .local)||scope.names.lookup y.1 == some .local) &&
 scope.names.all (fun y=>!(y.2 == .free)||(outer.names.lookup y.1 == some .cell||outer.names.lookup y.1 == some .free))&&capt.all (fun k=>scope.names.lookup (N.getD k o8) == some .free)
theorem JC.of{X:Cx}{scope:e8}{own:List Str}{capt:List Nat}(h:zdV scope X.env.scope X.N capt=true):JC scope own capt X:=by unfold zdV at h;simp only[cc]at h;obtain⟨⟨⟨⟨h1,x⟩,u⟩,C⟩,v⟩:=h;rw[dw]at x u C v;refine⟨by simpa using h1,fun y o=>?_,fun y o I=>?_,fun y o hf=>?_,fun k G=>?_⟩;simpa using x y o;have:=u y o;rw[I]at this;simpa using this;have:=C y o;rw[hf]at this;show X.env.scope.names.lookup y.1=some .cell\/X.env.scope.names.lookup y.1=some .free;simpa using this;simpa using v k G
section
variable{X:Cx}
def kitB(t T:String):Option Bool:=if (a8 t == a8 T)=true then some true else if PySem.W.kitMeta T=true then(fastBuiltinMro t).map (·.contains (.type T)) else none
theorem QM(K:qF)(t T:String):tP K (.type t) (.type T)=kitB t T:=rfl
inductive Ty (H:Hp):V->String->Prop where
 | non:Ty H .non "NoneType"
 | bl (x:Bool):Ty H (.bl x) "bool"
 | int (i:Int):Ty H (.int i) "int"
 | str (x:Str):Ty H (.str x) "str"
 | lst {a:aj} {xs:List V} (e:H a=some (.lst xs)):Ty H (.ref a) "list"
 | tup {a:aj} {xs:List V} (e:H a=some (.tup xs)):Ty H (.ref a) "tuple"
 | dK {a:aj} {kvs:List (Key×V)} (e:H a=some (.dK kvs)):Ty H (.ref a) "dict"
theorem Ty.of{K:qF}{H:Hp}{v:V}{t:String}(h:Ty H v t):TyOf K H v (.type t):=by
 cases h with
 | non=>exact .non
 | bl x=>exact .bl x
 | int i=>exact .int i
 | str x=>exact .str x
 | lst e=>exact .lst e
 | tup e=>exact .tup e
 | dK e=>exact .dK e
theorem zig:bootBuiltins "isinstance" = some (.builtin "isinstance"):=by decide +kernel
theorem boot_int:bootBuiltins "int" = some (.type "int"):=by decide +kernel
theorem zcS:bootBuiltins "bool" = some (.type "bool"):=by decide +kernel
theorem Ub:bootBuiltins "tuple" = some (.type "tuple"):=by decide +kernel
theorem Zy:bootBuiltins "all" = some (.builtin "all"):=by decide +kernel
theorem zgg:bootBuiltins "any" = some (.builtin "any"):=by decide +kernel
theorem Yk:bootBuiltins "min" = some (.builtin "min"):=by decide +kernel
theorem Zz:bootBuiltins "max" = some (.builtin "max"):=by decide +kernel
theorem Q7:bootBuiltins "len" = some (.builtin "len"):=by decide +kernel
theorem zd0:∀{bs:List Bool}{u:List af},Vals (bs.map V.bl) u->LSm.BoolsAre u bs
 | [],_,h=>by cases h;exact .nil
 | b::bs,_,h=>by
  cases h with
  | cons r t =>cases(show _=iZ b from r);exact .cons b (zd0 t)
theorem ZA(hc:X.calm=true):JI X (.builtin "all") (fun xs H Q=>∃(a:aj) (bs:List Bool),xs=[.ref a]/\SqL X.K H a (bs.map V.bl)/\Q (.bl (bs.all id)) H):=by
 intro pins s σ H xs U Q I r h;obtain⟨a,bs,rfl,J,q⟩:=h;cases r with
 | cons R L =>
  cases L;cases(show _=aO a from R);obtain⟨its,G,p,hz⟩:=I.list J;have C:=zd0 G;have x:s.heap.IsList a its.toArray:=p.isList;have o:a<s.heap.objs.size:=by obtain⟨_,e,_⟩:=x;exact aw e
  refine call_all_walk (gJ x ?_);refine⟨s.heap.objs.size,[s.heap.objs.size,a],[s.heap.objs.size],its.toArray.size,_,_,fun i=>(bs[i]?).getD true,rfl,yW (A:=X.A.in1) (I.ok.hd hc) _ a (aA o) its.toArray,
   ⟨⟨_,ax _ rfl,rfl,rfl⟩,x.push _⟩,fun i v s' Y Z N y=>?_,fun h' tk S=>?_⟩
  obtain⟨b,e,rfl⟩:=C.get i v (by simpa using N);simp only[e,fh]at y;exact dX y;have e:((eJ its.toArray.size).all fun i=>(bs[i]?).getD true)=bs.all id:=by rw[aG,C.length];exact LSm.range_all bs
  rw[e];exact⟨.bl _,H,I.kept (vd S),rfl,q⟩
theorem zgf(hc:X.calm=true):JI X (.builtin "any") (fun xs H Q=>∃(a:aj) (bs:List Bool),xs=[.ref a]/\SqL X.K H a (bs.map V.bl)/\Q (.bl (bs.any id)) H):=by
 intro pins s σ H xs Y Q I r h;obtain⟨a,bs,rfl,L,q⟩:=h;cases r with
 | cons S N =>
  cases N;cases(show _=aO a from S);obtain⟨its,J,p,hz⟩:=I.list L;have G:=zd0 J;have x:s.heap.IsList a its.toArray:=p.isList;have o:a<s.heap.objs.size:=by obtain⟨_,e,_⟩:=x;exact aw e
  refine call_any_walk (gJ x ?_);refine⟨s.heap.objs.size,[s.heap.objs.size,a],[s.heap.objs.size],its.toArray.size,_,_,fun i=>(bs[i]?).getD false,rfl,yW (A:=X.A.in1) (I.ok.hd hc) _ a (aA o) its.toArray,
   ⟨⟨_,ax _ rfl,rfl,rfl⟩,x.push _⟩,fun i v s' Z E' R C=>?_,fun h' tk U=>?_⟩
  obtain⟨b,e,rfl⟩:=G.get i v (by simpa using R);simp only[e,fh]at C;exact dX C;have e:((eJ its.toArray.size).any fun i=>(bs[i]?).getD false)=bs.any id:=by rw[aG,G.length];exact LSm.range_any bs
  rw[e];exact⟨.bl _,H,I.kept (vd U),rfl,q⟩
mutual
inductive QW (H:Hp):V->ah->Prop
 | non:QW H .non .none
 | bl (b:Bool):QW H (.bl b) (.bool b)
 | int (i:Int):QW H (.int i) (.int i)
 | str (x:Str):QW H (.str x) (.str x)
 | lst {a:aj} {xs:List V} {ds:qD}:H a=some (.lst xs)->Yh H xs ds->QW H (.ref a) (.list ds)
 | tup {a:aj} {xs:List V} {ds:qD}:H a=some (.tup xs)->Yh H xs ds->QW H (.ref a) (.tuple ds)
inductive Yh (H:Hp):List V->List ah->Prop
 | nil:Yh H [] []
 | cons {v:V} {vs:List V} {d:ah} {ds:qD}:QW H v d->Yh H vs ds->Yh H (v::vs) (d::ds)
end
def UI(i j:Int):Prop:=0<j/\j<2 ^ 128
theorem Zx:OpR X (binaryOp .FloorDiv) (rI UI fun i j=>.int (i / j)):=opI fun i j _ _ _ _ _ hc q=>by
 have h1:(0:Int)<j:=hc.1;have x:j<2 ^ 128:=hc.2;refine floordiv_int (by omega) (by rw[lI i (by omega)];exact q) (.inl (PyProof.noPylong_of_log2 ?_));have u:j.natAbs<2 ^ 128:=by omega
 have y:j.natAbs.log2<128:=(Nat.log2_lt (by omega)).mpr u;omega
end
def Pl(X:Cx)(es:List bg):Prop:=∀pos,(backTo pos (starEach es X.env)).any (·.1)=false
def Hd(X:Cx):List bg->Prop
 | []=>True
 | e::r=>starEach (e::r) X.env=(false,eval e X.env)::starEach r X.env/\Pl X r
structure PB(X:Cx)(es:List bg)(t:TA):Prop where
 pa:PA X es t
 pl:Pl X es
 hd:Hd X es
section
variable{X:Cx}{es:List bg}{t:TA}{te:TE}
theorem Qi:PB X [] tNil:=⟨Q3,fun _=>rfl,trivial⟩
theorem JW(h:PE X e te)(l:PB X es t)(o:starEach (e::es) X.env=(false,eval e X.env)::starEach es X.env):PB X (e::es) (Qm te t) :=
 ⟨Qv h l.pa o,fun pos=>by rw[o];have:(backTo pos ((false,eval e X.env)::starEach es X.env)).any (·.1)=(false||(backTo pos (starEach es X.env)).any (·.1)):=rfl;rw[this,l.pl pos];rfl,o,l.pl⟩
theorem pb_i{j pos}(l:PB X es t):PB X (.Constant (.int i) j pos::es) (Qm (tC (.int i)) t):=JW Jz l rfl
theorem pb_v(i:Nat){x:Str}{pos:Pos}(o:PB X es t)(u:X.N[i]?=some x:=by rfl)(v:Vis X.env.scope x:=by walk_at "V")(hd:(x == ("__debug__":Str))=false:=by rfl)
  (l:(x == ("__classdict__":Str))=false:=by rfl):PB X (.Name x pos::es) (Qm (tVar i) t):=JW (Qr u v hd l) o rfl
theorem zok(h:PE X (.Name x pos) te)(l:PB X es t):PB X (.Name x pos::es) (Qm te t):=JW h l rfl
theorem zng{a b c d}(h:PE X (.BinOp a b c d) te)(l:PB X es t):PB X (.BinOp a b c d::es) (Qm te t):=JW h l rfl
theorem zqq{a b c d}(h:PE X (.Compare a b c d) te)(l:PB X es t):PB X (.Compare a b c d::es) (Qm te t):=JW h l rfl
variable{e:bg}{x:Str}{p pos:Pos}
theorem zof{x1}(h:PB X es t):PE X (.Tuple es x1 pos) (tTup t):=zne h.pa
theorem zj0(h:PB X es t):PE X (.List es pos) (tLst t):=zqn h.pa
theorem QT{id:String}{r:List V->Hp->VK->Prop}(hc:JI X (.builtin id) r)(I:X.mg x=none)(y:bootBuiltins x=some (.builtin id))(h:PB X (e::es) t)(v:Gl X x:=by rfl)(G:x ≠ "__name__":=by decide) (o:(x == ("__debug__":Str))=false:=by rfl) :
  PE X (.Call (.Name x p) (e::es) [] pos) (tCB r t):=zmf hc v I y h.pa G o h.hd.1 (h.hd.2 pos)
theorem zoi(hc:JI X (.type T) r)(I:X.mg x=none)(v:bootBuiltins x=some (.type T))(h:PB X (e::es) t)(u:Gl X x:=by rfl)(G:x ≠ "__name__":=by decide) (o:(x == ("__debug__":Str))=false:=by rfl) :
  PE X (.Call (.Name x p) (e::es) [] pos) (tCB r t):=zfv hc u I v h.pa G o h.hd.1 (h.hd.2 pos)
end
end L2
namespace Bd
open PySem L2
structure Def(K:qF)(mg:qM)(x:Str)(st:eK)(ps:List Str)(f:aj)(fd:dz):Prop where
 F:Fun K x x st f fd
 b:Binds K fd ps []
 m:mg x=some (.ref f)
section
variable{X:Cx}{k:Nat}{f:aj}{fd:dz}{ps:List Str}{sp:Sp}{x:Str}{p pos:Pos}{e:bg}{es:List bg}{t:TA}{st:eK}
theorem zog(D:Def X.K X.mg x st ps f fd)(G:FnOk X.prog X.w X.K X.mg X.base CX0 k f fd ps sp)(v:Room k X.A)(h:PB X (e::es) t)(u:Gl X x:=by rfl)
  (o:(x == ("__debug__":Str))=false:=by rfl):PE X (.Call (.Name x p) (e::es) [] pos) (znJ sp [] E0 t):=zoh G v u D.m D.F.kp D.b .nil zqr h.pa o h.hd.1 (h.hd.2 pos)
theorem zoe(v:X.mg x=none)(o:bootBuiltins x=some (.type T))(l:Gl X x:=by rfl)(u:x ≠ "__name__":=by decide) (hd:(x == ("__debug__":Str))=false:=by rfl):PE X (.Name x p) (tC (.ty T)) :=
 zoj l v o rfl u hd
end
theorem iteP{c A B:Prop}[Decidable c](hc:c)(h:A):if decide c=true then A else B:=by rw[decide_eq_true hc];exact iteT h
theorem iteN{c A B:Prop}[Decidable c](hc:¬c)(h:B):if decide c=true then A else B:=by rw[decide_eq_false hc];exact iteF h
theorem zq8{c A B:Prop}[Decidable c](h1:c->A)(l:¬c->B):if decide c=true then A else B:=by by_cases h:c;exact iteP h (h1 h);exact iteN h (l h)
theorem zg3{α:Type}{xs:List α}{k:Int}{v:α}(h0:0<=k)(h:xs[k.toNat]?=some v):atI xs k=some v:=by obtain⟨n,rfl⟩:=nc h0;exact zpi h
theorem Qt(k:Nat):(0:Int)<2 ^ k:=by
 have:(0:Nat)<2 ^ k:=Nat.two_pow_pos k;have e:((2 ^ k:Nat):Int)=(2:Int) ^ k:=by simp
 omega
theorem zfs(h:k<=64):(2:Int) ^ k<2 ^ 128:=by
 have:(2:Nat) ^ k<2 ^ 128:=Nat.pow_lt_pow_right (by decide) (by omega);have e:((2 ^ k:Nat):Int)=(2:Int) ^ k:=by simp
 omega
theorem zhu(h:k<=64):(2:Int) ^ k<=2 ^ 64:=by
 have:(2:Nat) ^ k<=2 ^ 64:=Nat.pow_le_pow_right (by decide) (by omega);have e:((2 ^ k:Nat):Int)=(2:Int) ^ k:=by simp
 omega
theorem zlU(h:H p=none):Same H (upd H p o):=fun b u e=>by rw[Jc (Qg e h)];exact e
end Bd
namespace L2
open PySem PySem.Spec PyProof.Rows
theorem zpk(k h:Nat):(k*2 ^ h) &&& (2 ^ h)=(k % 2)*2 ^ h:=by
 have l:k*2 ^ h=k <<< h:=(ng k h).symm;have u:(2:Nat) ^ h=1 <<< h:=by rw[ng,xC]
 have o:(k &&& 1) <<< h=k <<< h &&& 1 <<< h:=Nat.shiftLeft_and_distrib;rw[l];conv=>lhs;rw[u]
 rw[<- o,Nat.and_one_is_mod,ng]
theorem zg9(h:Nat)(v:0<=k):cY (k*2 ^ h) (2 ^ h)=if k % 2=0 then k*2 ^ h+2 ^ h else k*2 ^ h - 2 ^ h:=by
 obtain⟨n,rfl⟩:=nc v;have l:((2 ^ h:Nat):Int)=(2:Int) ^ h:=by simp
 have u:((n:Int)*2 ^ h)=((n*2 ^ h:Nat):Int):=by rw[Int.natCast_mul,l]
 rw[bitXor_and,u,<- l,bitAnd_pp (lH _) (lH _)];have x:((n*2 ^ h:Nat):Int).toNat &&& ((2 ^ h:Nat):Int).toNat=(n % 2)*2 ^ h:=by rw[bQ,bQ];exact zpk n h
 rw[x];rcases Nat.mod_two_eq_zero_or_one n with z|z;have:((n:Int)) % 2=0:=by lia
 rw[if_pos this,z];simp;have:¬((n:Int)) % 2=0:=by lia
 rw[if_neg this,z,xC];lia
def HAND:ah:=.dict [(.none,.none)]
def SCR(ns:List Int):ah:=.dict [(.none,.list (ns.map .int))]
def UP(H:Hp)(hd:aj)(n:Int):Prop:=∃d m t:Int,H hd=some (.lst [.int d,.int m,.int t])/\0<=m/\m<2 ^ 62/\0<=t/\t<=n
def StT(K:qF)(a:aj)(xs:List V):Prop :=
 ∃(o:Obj) (its:Array af) (n:Nat),K.lookup a=some o/\o.cls=.type "tuple" /\ o.data=.seq its n/\its.size<=sizeLine/\Vals xs its.toList/\o.dict=none
theorem StT.sq{K:qF}{H:Hp}{a:aj}{xs:List V}(h:StT K a xs):SqT K H a xs:=by obtain⟨o,its,n,h1,v,l,x,u,_⟩:=h;exact .inr ⟨o,its,n,h1,v,l,x,u⟩
def hsT(k:Int×Int):Int:=reduceHash (uC [hashInt k.1,hashInt k.2])
def entZ(z:(Int×Int)×aj×V)(e:iD):Prop:=e.hash=hsT z.1/\e.key=.ref z.2.1/\RelV z.2.2 e.val
abbrev ZT:=List ((Int×Int)×aj×V)
def ZDO(a:aj)(zs:ZT)(ep:Nat):HO:=.ext fun h=>(a == sysModules)=false/\zs.length<=sizeLine/\(zs.map (·.1)).Nodup/\∃o es,h.get? a=some o/\o.ExactDict/\o.data=.dict es ep/\bR entZ zs es.toList
abbrev KT2:=List ((Int×Int)×ah)
def entI(z:Int×V)(e:iD):Prop:=e.hash=hashInt z.1/\(∃t,e.key=.int z.1 t)/\RelV z.2 e.val
def KDO(a:aj)(zs:List (Int×V))(ep:Nat):HO:=.ext fun h=>(a == sysModules)=false/\zs.length<=sizeLine/\(zs.map (·.1)).Nodup/\∃o es,h.get? a=some o/\o.ExactDict/\o.data=.dict es ep/\bR entI zs es.toList
def blkT(k:Int×Int):ah:=.tuple [.int k.1,.int k.2]
def UN(l:List (Int×ah)):List (ah×ah):=l.map fun q=>(.int q.1,q.2)
def JF(l:KT2):List (ah×ah):=l.map fun q=>(blkT q.1,q.2)
def EXC(C:aj):ah:=.dict [(.none,.int (C:Int))]
def EXO(a C:aj):HO:=.ext fun h=>∃o,h.get? a=some o/\o.cls=.ref C/\∃vs,o.data=.fields vs
mutual
inductive Rep (K:qF)(hd:Option aj)(O:aj->Prop)(H:Hp):V->ah->Prop
 | non:Rep K hd O H .non .none
 | bl (b:Bool):Rep K hd O H (.bl b) (.bool b)
 | int (i:Int):Rep K hd O H (.int i) (.int i)
 | str (x:Str):Rep K hd O H (.str x) (.str x)
 | tup {a vs ds} (h:H a=some (.tup vs)) (o:¬O a) (r:Reps K hd O H vs ds):Rep K hd O H (.ref a) (.tuple ds)
 | tupS {a vs ds} (h:StT K a vs) (r:Reps K hd O H vs ds):Rep K hd O H (.ref a) (.tuple ds)
 | lst {a vs ds} (h:H a=some (.lst vs)) (o:¬O a) (r:Reps K hd O H vs ds):Rep K hd O H (.ref a) (.list ds)
 | dct {a ep} (h:H a=some (KDO a [] ep)) (o:¬O a):Rep K hd O H (.ref a) (.dict [])
 | dcK {a kvs ep ks ps} (h:H a=some (KDO a kvs ep)) (o:¬O a) (r:UE K hd O H kvs ks) (e:ps=UN ks):Rep K hd O H (.ref a) (.dict ps)
 | dcT {a zs ep ks ps} (h:H a=some (ZDO a zs ep)) (o:¬O a) (r:Jj K hd O H zs ks) (e:ps=JF ks):Rep K hd O H (.ref a) (.dict ps)
 | hand {a} (h:hd=some a):Rep K hd O H (.ref a) HAND
 | scr {a ns} (h:Rd H a (.lst (ns.map V.int))) (o:¬O a):Rep K hd O H (.ref a) (SCR ns)
 | scrS {a} {ns:List Int} (h:∀H':Hp,SqL K H' a (ns.map V.int)):Rep K hd O H (.ref a) (SCR ns)
 | exc {a C} (h:H a=some (EXO a C)) (o:¬O a):Rep K hd O H (.ref a) (EXC C)
inductive Reps (K:qF)(hd:Option aj)(O:aj->Prop)(H:Hp):List V->List ah->Prop
 | nil:Reps K hd O H [] []
 | cons {v d vs ds} (h:Rep K hd O H v d) (r:Reps K hd O H vs ds):Reps K hd O H (v::vs) (d::ds)
inductive UE (K:qF)(hd:Option aj)(O:aj->Prop)(H:Hp):List (Int×V)->List (Int×ah)->Prop
 | nil:UE K hd O H [] []
 | cons {k v d kvs ks} (h:Rep K hd O H v d) (r:UE K hd O H kvs ks):UE K hd O H ((k,v)::kvs) ((k,d)::ks)
inductive Jj (K:qF)(hd:Option aj)(O:aj->Prop)(H:Hp):ZT->KT2->Prop
 | nil:Jj K hd O H [] []
 | cons {k q v d zs ks} (h:Rep K hd O H (.ref q) (.tuple [.int k.1,.int k.2])) (h2:Rep K hd O H v d) (r:Jj K hd O H zs ks):Jj K hd O H ((k,q,v)::zs) ((k,d)::ks)
end
section
variable{K:qF}{hd:Option aj}{O O':aj->Prop}{H H':Hp}
theorem Rep.mono(y:∀a o,H a=some o->O' a->O a)(C:∀a o,¬O a->H a=some o->H' a=some o)(q:Rep K hd O H v d):Rep K hd O' H' v d :=
 Rep.rec (motive_1:=fun v d _=>Rep K hd O' H' v d) (motive_2:=fun v d _=>Reps K hd O' H' v d) (motive_3:=fun v d _=>UE K hd O' H' v d) (motive_4:=fun v d _=>Jj K hd O' H' v d)
  .non .bl .int .str (fun h o _ r=>.tup (C _ _ o h) (fun z=>o (y _ _ h z)) r) (fun h _ r=>.tupS h r) (fun h o _ r=>.lst (C _ _ o h) (fun z=>o (y _ _ h z)) r) (fun h o=>.dct (C _ _ o h) (fun z=>o (y _ _ h z))) (fun h o _ e r=>.dcK (C _ _ o h) (fun z=>o (y _ _ h z)) r e) (fun h o _ e r=>.dcT (C _ _ o h) (fun z=>o (y _ _ h z)) r e) .hand
  (fun h o=>h.elim (fun h=>.scr (.inl (C _ _ o h)) fun z=>o (y _ _ h z)) fun h=>h.elim fun u h=>.scr (.inr ⟨u,C _ _ o h⟩) fun z=>o (y _ _ h z)) .scrS (fun h o=>.exc (C _ _ o h) (fun z=>o (y _ _ h z)))
  .nil (fun _ _ h r=>.cons h r) .nil (fun _ _ h r=>.cons h r) .nil (fun _ _ _ h k r=>.cons h k r) q
theorem Reps.ind{P:List V->List ah->Prop}(n:P [] [])(c:∀{v d vs ds},Rep K hd O H v d->Reps K hd O H vs ds->P vs ds->P (v::vs) (d::ds))(q:Reps K hd O H vs ds):P vs ds:=by refine Reps.rec (motive_1:=fun _ _ _=>True) (motive_2:=fun v d _=>P v d) (motive_3:=fun _ _ _=>True) (motive_4:=fun _ _ _=>True) ?_ ?_ ?_ ?_ ?_ ?_ ?_ ?_ ?_ ?_ ?_ ?_ ?_ ?_ n (fun h r _ i=>c h r i) ?_ ?_ ?_ ?_ q <;> intros <;> trivial
theorem Jj.ind{P:ZT->KT2->Prop}(n:P [] [])(c:∀{k q v d vs ds},Rep K hd O H (.ref q) (.tuple [.int k.1,.int k.2])->Rep K hd O H v d->Jj K hd O H vs ds->P vs ds->P ((k,q,v)::vs) ((k,d)::ds))(q:Jj K hd O H vs ds):P vs ds:=by refine Jj.rec (motive_1:=fun _ _ _=>True) (motive_4:=fun v d _=>P v d) (motive_2:=fun _ _ _=>True) (motive_3:=fun _ _ _=>True) ?_ ?_ ?_ ?_ ?_ ?_ ?_ ?_ ?_ ?_ ?_ ?_ ?_ ?_ ?_ ?_ ?_ ?_ n (fun h k r _ _ i=>c h k r i) q <;> intros <;> trivial
theorem Reps.mono(u:∀a o,H a=some o->O' a->O a)(v:∀a o,¬O a->H a=some o->H' a=some o)(q:Reps K hd O H vs ds):Reps K hd O' H' vs ds:=q.ind .nil fun h _ r=>.cons (h.mono u v) r
theorem Jj.mono(u:∀a o,H a=some o->O' a->O a)(v:∀a o,¬O a->H a=some o->H' a=some o)(q:Jj K hd O H vs ds):Jj K hd O' H' vs ds:=q.ind .nil fun h k _ r=>.cons (h.mono u v) (k.mono u v) r
theorem dict_noK(e:(oH,v)::r=UN l):False:=by
 cases l with
 | nil=>cases e
 | cons q l=>cases e
theorem dict_noT(e:(oH,v)::r=JF l):False:=by
 cases l with
 | nil=>cases e
 | cons q l=>cases e
theorem Reps.length(q:Reps K hd O H vs ds):vs.length=ds.length:=q.ind (P:=fun a b=>a.length=b.length) rfl fun _ _ e=>congrArg (·+1) e
theorem Reps.get{i:Nat}(q:Reps K hd O H vs ds):ds[i]?=some d->∃v,vs[i]?=some v/\Rep K hd O H v d :=
 q.ind (P:=fun vs ds=>∀(i:Nat),ds[i]?=some d->∃v,vs[i]?=some v/\Rep K hd O H v d) (fun _ e=>nomatch e) (fun {v _ _ _} h _ r i=>i.casesOn (fun e=>⟨v,rfl,aQ e▸h⟩) fun i e=>r i e) i
theorem Reps.append(q:Reps K hd O H vs ds)(s:Reps K hd O H ws es):Reps K hd O H (vs++ws) (ds++es):=q.ind (P:=fun a b=>Reps K hd O H (a++ws) (b++es)) s fun h _ r=>.cons h r
theorem Reps.take(n:Nat)(q:Reps K hd O H vs ds):Reps K hd O H (vs.take n) (ds.take n) :=
 q.ind (P:=fun vs ds=>∀n:Nat,Reps K hd O H (vs.take n) (ds.take n)) (fun n=>by rw[vf,vf];exact .nil) (fun h _ r n=>n.casesOn .nil fun n=>.cons h (r n)) n
theorem Reps.drop(n:Nat)(q:Reps K hd O H vs ds):Reps K hd O H (vs.drop n) (ds.drop n) :=
 q.ind (P:=fun vs ds=>∀n:Nat,Reps K hd O H (vs.drop n) (ds.drop n)) (fun n=>by rw[vg,vg];exact .nil) (fun h k r n=>n.casesOn (.cons h k) fun n=>r n) n
theorem Reps.set{v d}(h:Rep K hd O H v d)(n:Nat)(q:Reps K hd O H vs ds):Reps K hd O H (vs.set n v) (ds.set n d) :=
 q.ind (P:=fun vs ds=>∀n:Nat,Reps K hd O H (vs.set n v) (ds.set n d)) (fun n=>.nil) (fun k s r n=>n.casesOn (.cons h s) fun n=>.cons k (r n)) n
theorem Rep.tupI(h:Rep K hd O H v (.tuple ds)):∃a vs,v=.ref a/\SqT K H a vs/\Reps K hd O H vs ds:=by
 cases h with
 | tup h o r=>exact⟨_,_,rfl,.inl (.inl h),r⟩
 | tupS h r=>exact⟨_,_,rfl,h.sq,r⟩
theorem Rep.lstI(h:Rep K hd O H v (.list ds)):∃a vs,v=.ref a/\H a=some (.lst vs)/\¬O a/\Reps K hd O H vs ds:=by
 cases h with
 | lst h o r=>exact⟨_,_,rfl,h,o,r⟩
theorem Rep.intI(h:Rep K hd O H v (.int i)):v=.int i:=by cases h;rfl
theorem Rep.blI(h:Rep K hd O H v (.bool b)):v=.bl b:=by cases h;rfl
theorem Rep.strI(h:Rep K hd O H v (.str x)):v=.str x:=by cases h;rfl
theorem Rep.nonI(h:Rep K hd O H v .none):v=.non:=by cases h;rfl
theorem Rep.handI(h:Rep K hd O H v HAND):∃a,v=.ref a/\hd=some a:=by
 generalize e:HAND=d at h;cases h with
 | hand h=>exact⟨_,rfl,h⟩
 | dct _ _=>cases e
 | dcK _ _ _ o=>cases e;exact(dict_noK o).elim
 | dcT _ _ _ o=>cases e;exact(dict_noT o).elim
 | scr _ _=>simp[HAND,SCR]at e
 | scrS _=>simp[HAND,SCR]at e
 | exc _ _=>simp[HAND,EXC]at e
 | _=>cases e
theorem Rep.scrI(h:Rep K hd O H v (SCR ns)):∃a,v=.ref a/\SqL K H a (ns.map V.int):=by
 generalize e:SCR ns=d at h;cases h with
 | hand h=>simp[HAND,SCR]at e
 | dct _ _=>cases e
 | dcK _ _ _ u=>cases e;exact(dict_noK u).elim
 | dcT _ _ _ u=>cases e;exact(dict_noT u).elim
 | @scr a ms h o =>
  have:ns=ms:=by
   have u:(ns.map cg)=ms.map cg:=by simpa[SCR] using e
   have:=congrArg (List.map fun x=>match x with|cg i=>i|_=>0) u;simpa[cD,fL] using this
  subst this;exact⟨_,rfl,.inl h⟩
 | @scrS a ms h =>
  have:ns=ms:=by
   have u:(ns.map cg)=ms.map cg:=by simpa[SCR] using e
   have:=congrArg (List.map fun x=>match x with|cg i=>i|_=>0) u;simpa[cD,fL] using this
  subst this;exact⟨_,rfl,h H⟩
 | exc _ _=>simp[SCR,EXC]at e
 | _=>cases e
end
mutual
def JO:ah->Bool
 | .list _=>false
 | .tuple ts=>UZ ts
 | .dict [(.none,.none)]=>true
 | .dict _=>false
 | _=>true
def UZ:List ah->Bool
 | []=>true
 | t::ts=>JO t&&UZ ts
end
section
variable{K:qF}{hd:Option aj}{O O':aj->Prop}{H:Hp}
theorem zou(e:JO (.dict (UN ks))=true):False:=by unfold JO at e;split at e;rename_i h;cases h;rename_i h;cases h;rename_i h;exact dict_noK (dg h).symm;cases e;rename_i h;exact h _ rfl
theorem zot(e:JO (.dict (JF ks))=true):False:=by unfold JO at e;split at e;rename_i h;cases h;rename_i h;cases h;rename_i h;exact dict_noT (dg h).symm;cases e;rename_i h;exact h _ rfl
def MutO(o:Option HO):Prop:=(∃xs,o=some (.lst xs))\/(∃u,o=some (.dK u))\/∃v,o=some (.ext v)
theorem Rep.up(y:∀a,O a->MutO (H a))(q:Rep K hd O' H v d):JO d=true->Rep K hd O H v d:=by
 refine Rep.rec (motive_1:=fun v d _=>JO d=true->Rep K hd O H v d) (motive_2:=fun v d _=>UZ d=true->Reps K hd O H v d) (motive_3:=fun _ _ _=>True) (motive_4:=fun _ _ _=>True)
  (fun _=>.non) (fun b _=>.bl b) (fun b _=>.int b) (fun b _=>.str b) (fun h _ _ r e=>.tup h (fun z=>by rcases y _ z with⟨xs,q⟩|⟨xs,q⟩|⟨b,q⟩ <;> (rw[h]at q;cases q)) (r (by simpa[JO] using e))) (fun h _ r e=>.tupS h (r (by simpa[JO] using e)))
  (fun _ _ _ _ e=>by simp[JO]at e) (fun _ _ e=>by simp[JO]at e) (fun _ _ _ x _ e=>by subst x;exact(zou e).elim) (fun _ _ _ x _ e=>by subst x;exact(zot e).elim) (fun h _=>.hand h) (fun _ _ e=>by simp[SCR,JO]at e) (fun _ e=>by simp[SCR,JO]at e) (fun _ _ e=>by simp[EXC,JO]at e)
  (fun _=>.nil) (fun _ _ h r e=>by rw[UZ,cc]at e;exact .cons (h e.1) (r e.2)) trivial ?_ trivial ?_ q <;> intros <;> trivial
end
section
variable{X:Cx}{pins:qO}{σ:St}{H:Hp}{s:aq}{hd:Option aj}{O:aj->Prop}
theorem Rep.reads(I:Inv X pins σ H s){u:af}(q:Rep X.K hd O H v d):RelV v u->d.hasDict=false->∃as,Reads s.heap u d as:=by
 refine Rep.rec (motive_1:=fun v d _=>∀u,RelV v u->d.hasDict=false->∃as,Reads s.heap u d as) (motive_2:=fun v d _=>∀u,Vals v u->gL d=false->∃as,xD s.heap u d as) (motive_3:=fun _ _ _=>True) (motive_4:=fun _ _ _=>True)
  (fun _ r _=>by cases r;exact⟨_,.none⟩) (fun b _ r _=>by cases r;exact⟨_,.bool b⟩) (fun i _ r _=>by obtain⟨t,rfl⟩:=r;exact⟨_,.int i t⟩) (fun x _ r _=>by obtain⟨t,rfl⟩:=r;exact⟨_,.str x t⟩)
  (fun {_ vs _} h _ _ q _ r e=>?_) (fun {_ vs _} h _ q _ r e=>?_) (fun {_ vs _} h _ _ q _ r e=>?_) (fun _ _ _ _ e=>by simp[c8]at e) (fun _ _ _ _ _ _ _ e=>by simp[c8]at e) (fun _ _ _ _ _ _ _ e=>by simp[c8]at e)
  (fun _ _ _ e=>by simp[HAND,c8]at e) (fun _ _ _ _ e=>by simp[SCR,c8]at e) (fun _ _ _ e=>by simp[SCR,c8]at e) (fun _ _ _ _ e=>by simp[EXC,c8]at e)
  (fun _ r _=>by cases r;exact⟨_,.nil⟩) (fun _ _ h q _ r e=>?_) trivial (by intros;trivial) trivial (by intros;trivial) q u
 cases r;obtain⟨its,J,p,_⟩:=I.tuple (xs:=vs) (.inl (.inl h));obtain⟨o,G,hc,n,y⟩:=p;obtain⟨as,C⟩:=q _ J (by simpa[c8] using e);exact⟨_,.tuple G hc y (by simpa using C)⟩;cases r;obtain⟨its,J,p,_⟩:=I.tuple (xs:=vs) h.sq;obtain⟨o,G,hc,n,y⟩:=p;obtain⟨as,C⟩:=q _ J (by simpa[c8] using e);exact⟨_,.tuple G hc y (by simpa using C)⟩;cases r;obtain⟨its,J,p,_⟩:=I.list (xs:=vs) (.inl (.inl h));obtain⟨o,n,G,hc,_,y⟩:=p;obtain⟨as,C⟩:=q _ J (by simpa[c8] using e);exact⟨_,.list G hc y (by simpa using C)⟩;cases r with
 | cons R N =>rw[gL,oI]at e;obtain⟨as,C⟩:=h _ R e.1;obtain⟨bs,L⟩:=q _ N e.2;exact⟨_,.cons C L⟩
theorem Reps.reads(I:Inv X pins σ H s){u:List af}(q:Reps X.K hd O H vs ds):Vals vs u->gL ds=false->∃as,xD s.heap u ds as :=
 q.ind (P:=fun vs ds=>∀u,Vals vs u->gL ds=false->∃as,xD s.heap u ds as) (fun _ r _=>by cases r;exact⟨_,.nil⟩) (fun h _ q _ r e=>by
  cases r with
  | cons C x =>rw[gL,oI]at e;obtain⟨as,v⟩:=h.reads I C e.1;obtain⟨bs,y⟩:=q _ x e.2;exact⟨_,.cons v y⟩) u
end
inductive Cell where
 | val (d:ah)
 | own (ds:qD)
 | dct (ks:List (Key×ah))
 | rdo (ks:List (Key×ah))
 | dtt (ks:KT2)
def Cell.mine:Cell->Bool
 | .val _=>false
 | .own _=>true
 | .dct _=>true
 | .rdo _=>false
 | .dtt _=>true
def QV(K:qF)(hd:Option aj)(O:aj->Prop)(H:Hp)(l:List (Key×V))(o:List (Key×ah)):Prop:=bR (fun(p:Key×V) (q:Key×ah)=>p.1=q.1/\Rep K hd O H p.2 q.2) l o
theorem QV.mono{K:qF}{hd:Option aj}{O u:aj->Prop}{H H':Hp}(x:∀a o,H a=some o->u a->O a)(y:∀a o,¬O a->H a=some o->H' a=some o){l:List (Key×V)}{v:List (Key×ah)}(r:QV K hd O H l v):QV K hd u H' l v :=
 Paired.mapP r fun _ _ z=>⟨z.1,z.2.mono x y⟩
abbrev En:=List (Option Cell)
structure Ctx where
 hd:Option aj
 ext:aj->Prop
def OwnS(l:En)(σ:St)(a:aj):Prop:=∃(i:Nat) (c:Cell),c.mine=true/\l[i]?=some (some c)/\σ[i]?=some (some (V.ref a))
def Own(C:Ctx)(l:En)(σ:St)(a:aj):Prop:=C.ext a\/OwnS l σ a
mutual
def papD:ah->Bool
 | .tuple ts=>decide (ts.length<=1000000)&&zqs ts
 | .str x=>decide (x.length<=1000000)
 | .int _=>true
 | .none=>true
 | .bool _=>true
 | _=>false
def zqs:List ah->Bool
 | []=>true
 | t::ts=>papD t&&zqs ts
end
def pap(t:ah):Bool:=papD t&&t.canLay0&&decide (t.depth<=40)
def Qu(K:qF)(H:Hp)(a:aj)(m:Nat):Prop:=∃(vs:List V) (ts:qD),H a=some (.lst vs)/\vs.length<=m/\Reps K none (fun b=>MutO (H b)) H vs ts/\∀t∈ts,pap t=true
def Hn(K:qF)(hd:Option aj)(H:Hp)(n:Nat):Prop:=∀a,hd=some a->(UP H a n/\n<10000000000000)\/(10000000000000<=n/\Qu K H a (n - 10000000000000))
theorem Hn.lst{K:qF}{hd:Option aj}{H:Hp}{n:Nat}{a:aj}(h:Hn K hd H n)(e:hd=some a):∃vs,H a=some (.lst vs):=by rcases h a e with⟨⟨_,_,_,q,_⟩,_⟩|⟨_,_,_,q,_⟩;exact⟨_,q⟩;exact⟨_,q⟩
theorem Qu.to{K:qF}{H H':Hp}{a:aj}{w:Nat}(h:Qu K H a w)(u:H' a=H a)(k:∀b o,¬MutO (H b)->H b=some o->H' b=some o)(m:∀b o,H b=some o->MutO (H' b)->MutO (H b)):Qu K H' a w:=by obtain⟨vs,ts,q,l,r,p⟩:=h;exact⟨vs,ts,u.trans q,l,r.mono m k,p⟩
theorem Qu.upd{K:qF}{H:Hp}{a p:aj}{o:HO}{m:Nat}(h:Qu K H a m)(ne:a≠p)(l:MutO (H p)):Qu K (upd H p o) a m:=by refine h.to (Jc ne) (fun b u nb e=>?_) fun b u e z=>?_;rw[Jc (show b≠p from fun z=>nb (by rw[z];exact l))];exact e;by_cases y:b=p;rw[y];exact l;rw[Jc y]at z;exact z
theorem Qu.same{K:qF}{H H':Hp}{a:aj}{m:Nat}(h:Qu K H a m)(s:∀b o,H b=some o->H' b=some o):Qu K H' a m:=by obtain⟨vs,ts,q,l,r,p⟩:=id h;exact h.to (by rw[q];exact s _ _ q) (fun b o _ e=>s b o e) fun b o e z=>by rw[s b o e]at z;rw[e];exact z
structure Stt(K:qF)(C:Ctx)(ρ:En)(σ:St)(H:Hp)(n:Nat):Prop where
 len:ρ.length=σ.length
 val:∀(i:Nat) (d:ah),ρ[i]?=some (some (Cell.val d))->∃v,σ[i]?=some (some v)/\Rep K C.hd (Own C ρ σ) H v d
 own:∀(i:Nat) (ds:qD),ρ[i]?=some (some (Cell.own ds))->∃a vs,σ[i]?=some (some (V.ref a))/\H a=some (.lst vs)/\Reps K C.hd (Own C ρ σ) H vs ds/\¬C.ext a
 dct:∀(i:Nat) (ks:List (Key×ah)),ρ[i]?=some (some (Cell.dct ks))->∃a kvs,σ[i]?=some (some (V.ref a))/\H a=some (.dK kvs)/\QV K C.hd (Own C ρ σ) H kvs ks/\¬C.ext a
 rdo:∀(i:Nat) (ks:List (Key×ah)),ρ[i]?=some (some (Cell.rdo ks))->∃a kvs,σ[i]?=some (some (V.ref a))/\H a=some (.dK kvs)/\QV K C.hd (Own C ρ σ) H kvs ks/\C.ext a/\C.hd≠some a
 dtt:∀(i:Nat) (ks:KT2),ρ[i]?=some (some (Cell.dtt ks))->∃a zs ep,σ[i]?=some (some (V.ref a))/\H a=some (ZDO a zs ep)/\Jj K C.hd (Own C ρ σ) H zs ks/\¬C.ext a
 dif:∀(i j:Nat) (c e:Cell) (a:aj),c.mine=true->e.mine=true->ρ[i]?=some (some c)->ρ[j]?=some (some e)->σ[i]?=some (some (V.ref a))->σ[j]?=some (some (V.ref a))->i=j
 hnd:Hn K C.hd H n
 ext:∀a,C.ext a->MutO (H a)
 hx:∀a,C.hd=some a->C.ext a
def ExtE(hd:Option aj)(H H':Hp):Prop:=∀a o,H a=some o->hd≠some a->H' a=some o
theorem ExtE.refl:ExtE hd H H:=fun _ _ h _=>h
theorem ExtE.trans(a:ExtE hd H H1)(b:ExtE hd H1 H2):ExtE hd H H2:=fun c o h n=>b c o (a c o h n) n
theorem ExtE.new(h:H p=none):ExtE hd H (upd H p o):=fun b u e _=>by rw[Jc (Qg e h)];exact e
section
variable{K:qF}{C:Ctx}{ρ:En}{σ:St}{H H':Hp}{n n':Nat}
theorem MutO.ne(h:MutO o):o≠none:=by rcases h with⟨_,rfl⟩|⟨_,rfl⟩|⟨_,rfl⟩ <;> exact fun z=>by cases z
theorem Stt.at(S:Stt K C ρ σ H n){i:Nat}{c:Cell}(m:c.mine=true)(h1:ρ[i]?=some (some c)):∃a:aj,σ[i]?=some (some (V.ref a))/\MutO (H a)/\¬C.ext a:=by
 cases c with
 | val d=>cases m
 | own ds =>obtain⟨a,vs,o,v,_,u⟩:=S.own i ds h1;exact⟨a,o,.inl ⟨_,v⟩,u⟩
 | dct x =>obtain⟨a,vs,o,v,_,u⟩:=S.dct i x h1;exact⟨a,o,.inr (.inl ⟨_,v⟩),u⟩
 | rdo x=>cases m
 | dtt x =>obtain⟨a,vs,ep,o,v,_,u⟩:=S.dtt i x h1;exact⟨a,o,.inr (.inr ⟨_,v⟩),u⟩
theorem Stt.lst(S:Stt K C ρ σ H n){a:aj}(h:Own C ρ σ a):MutO (H a):=by rcases h with h|⟨i,c,m,h1,o⟩;exact S.ext a h;obtain⟨b,l,u,_⟩:=S.at m h1;rw[o]at l;cases l;exact u
theorem Stt.dom(S:Stt K C ρ σ H n)(h:Own C ρ σ a):H a≠none:=(S.lst h).ne
theorem Stt.free(S:Stt K C ρ σ H n)(h:H a=none):¬Own C ρ σ a:=fun z=>S.dom z h
theorem ExtE.rep(e:ExtE C.hd H H')(hx:∀a,C.hd=some a->C.ext a){v d}(r:Rep K C.hd (Own C ρ σ) H v d):Rep K C.hd (Own C ρ σ) H' v d :=
 r.mono (fun _ _ _ z=>z) fun a o no h=>e a o h fun z=>no (.inl (hx a z))
theorem ExtE.reps(e:ExtE C.hd H H')(hx:∀a,C.hd=some a->C.ext a){v d}(r:Reps K C.hd (Own C ρ σ) H v d):Reps K C.hd (Own C ρ σ) H' v d :=
 r.mono (fun _ _ _ z=>z) fun a o no h=>e a o h fun z=>no (.inl (hx a z))
theorem Stt.on(S:Stt K C ρ σ H n)(e:ExtE C.hd H H')(h:Hn K C.hd H' n'):Stt K C ρ σ H' n' where
 len:=S.len
 val:=fun i d hi=>by obtain⟨v,h1,x⟩:=S.val i d hi;exact⟨v,h1,e.rep S.hx x⟩
 own:=fun i ds hi=>by obtain⟨a,vs,h1,x,y,u⟩:=S.own i ds hi;exact⟨a,vs,h1,e a _ x fun z=>u (S.hx a z),e.reps S.hx y,u⟩
 dct:=fun i G hi=>by obtain⟨a,vs,h1,x,y,u⟩:=S.dct i G hi;exact⟨a,vs,h1,e a _ x fun z=>u (S.hx a z),Paired.mapP y fun _ _ z=>⟨z.1,e.rep S.hx z.2⟩,u⟩
 rdo:=fun i G hi=>by obtain⟨a,vs,h1,x,y,u,I⟩:=S.rdo i G hi;exact⟨a,vs,h1,e a _ x I,Paired.mapP y fun _ _ z=>⟨z.1,e.rep S.hx z.2⟩,u,I⟩
 dtt:=fun i G hi=>by obtain⟨a,vs,ep,h1,x,y,u⟩:=S.dtt i G hi;exact⟨a,vs,ep,h1,e a _ x fun z=>u (S.hx a z),y.mono (fun _ _ _ z=>z) (fun a o no h=>e a o h fun z=>no (.inl (S.hx a z))),u⟩
 dif:=S.dif
 hnd:=h
 ext:=fun a J=>by by_cases z:C.hd=some a;obtain⟨vs,q⟩:=h.lst z;exact .inl ⟨_,q⟩;rcases S.ext a J with⟨xs,q⟩|⟨xs,q⟩|⟨b,q⟩;exact .inl ⟨xs,e a _ q z⟩;exact .inr (.inl ⟨xs,e a _ q z⟩);exact .inr (.inr ⟨b,e a _ q z⟩)
 hx:=S.hx
end
abbrev DTE:=En->Nat->(ah->Nat->Prop)->Prop
abbrev DTT:=En->Nat->(Bool->Nat->Prop)->Prop
abbrev DTA:=En->Nat->(List ah->Nat->Prop)->Prop
def DE(X:Cx)(e:bg)(d:DTE):Prop:=∃o,PE X e o/\∀(C:Ctx) (l:En) (σ:St) (H:Hp) (n:Nat) (Q:VK) (R:qN),Stt X.K C l σ H n->d l n R ->
 (∀t u v H',R t u->ExtE C.hd H H'->Hn X.K C.hd H' u->Rep X.K C.hd (Own C l σ) H' v t->Q v H')->o σ H Q
def RepT(K:qF)(hd:Option aj)(O:aj->Prop)(H:Hp)(v:V)(t:ah):Prop :=
 Rep K hd O H v t\/(∃a vs ds,v=.ref a/\t=.list ds/\H a=some (.lst vs)/\Reps K hd O H vs ds/\hd≠some a)\/∃a zs ep o,v=.ref a/\t=.dict (JF o)/\H a=some (ZDO a zs ep)/\Jj K hd O H zs o/\hd≠some a
def DL(X:Cx)(e:bg)(d:DTE):Prop:=∃o,PE X e o/\∀(C:Ctx) (l:En) (σ:St) (H:Hp) (n:Nat) (Q:VK) (R:qN),Stt X.K C l σ H n->d l n R ->
 (∀t u v H',R t u->ExtE C.hd H H'->Hn X.K C.hd H' u->RepT X.K C.hd (Own C l σ) H' v t->Q v H')->o σ H Q
def DN(X:Cx)(e:bg)(d:DTA):Prop:=∃u,PE X e u/\∀(C:Ctx) (o:En) (σ:St) (H:Hp) (n:Nat) (Q:VK) (R:List ah->Nat->Prop),Stt X.K C o σ H n->d o n R ->
 (∀ts v p vs H',R ts v->ExtE C.hd H H'->Hn X.K C.hd H' v->H p=none->H' p=some (.lst vs)->Reps X.K C.hd (fun a=>Own C o σ a\/a=p) H' vs ts->Q (.ref p) H')->u σ H Q
def DT(X:Cx)(e:bg)(d:DTT):Prop:=∃l,PT X e l/\∀(C:Ctx) (u:En) (σ:St) (H:Hp) (n:Nat) (Q:Bool->Hp->Prop) (R:Bool->Nat->Prop),Stt X.K C u σ H n->d u n R ->
 (∀b o H',R b o->ExtE C.hd H H'->Hn X.K C.hd H' o->Q b H')->l σ H Q
def DW(X:Cx)(e:bg)(d:DTT):Prop:=∃l,PW X e l/\∀(C:Ctx) (u:En) (σ:St) (H:Hp) (n:Nat) (Q:Bool->Hp->Prop) (R:Bool->Nat->Prop),Stt X.K C u σ H n->d u n R ->
 (∀b o H',R b o->ExtE C.hd H H'->Hn X.K C.hd H' o->Q b H')->l σ H Q
def DB(X:Cx)(es:List bg)(d:DTA):Prop:=∃o,PB X es o/\∀(C:Ctx) (l:En) (σ:St) (H:Hp) (n:Nat) (Q:List V->Hp->Prop) (R:List ah->Nat->Prop),Stt X.K C l σ H n->d l n R ->
 (∀ts u vs H',R ts u->ExtE C.hd H H'->Hn X.K C.hd H' u->Reps X.K C.hd (Own C l σ) H' vs ts->ts.length=es.length->Q vs H')->o σ H Q
section
variable{X:Cx}{e a b c:bg}{es:List bg}{d da db dc:DTE}{pos:Pos}
theorem dl(h:DE X e d):DL X e d:=by obtain⟨u,p,h⟩:=h;exact⟨u,p,fun C G σ H n Q R S hd x=>h C G σ H n Q R S hd fun t y v H' r e h1 o=>x t y v H' r e h1 (.inl o)⟩
def dNew(d:DTA):DTE:=fun u n R=>d u n fun ts o=>R (.list ts) o
theorem Jm{d:DTA}(h:DN X e d):DE X e (dNew d):=by obtain⟨v,p,h⟩:=h;refine⟨v,p,fun C I σ H n Q R S hd x=>h C I σ H n Q _ S hd fun ts y p vs H' r e h1 u o G=>x _ y _ H' r e h1 (.lst o (S.free u) (G.mono (fun _ _ _ z=>.inl z) fun _ _ _ z=>z))⟩
def dVar(i:Nat):DTE:=fun l n R=>match l[i]? with|some (some (Cell.val d))=>R d n|_=>False
def dOwn(i:Nat):DTE:=fun o n R=>match o[i]? with|some (some (Cell.own d))=>R (.list d) n|_=>False
def dC(t:ah):DTE:=fun _ n R=>R t n
theorem Jr(i:Nat)(u:X.N[i]?=some x:=by rfl)(o:Vis X.env.scope x:=by walk_at "V")(hd:(x == ("__debug__":Str))=false:=by rfl)
  (l:(x == ("__classdict__":Str))=false:=by rfl):DE X (.Name x pos) (dVar i):=by
 refine⟨_,Qr u o hd l,fun C I σ H n Q R S h G=>?_⟩;unfold dVar at h;split at h;rename_i d e;obtain⟨v,h1,y⟩:=S.val i d e;exact⟨v,h1,G d n v H h ExtE.refl S.hnd y⟩;exact h.elim
theorem Uj(i:Nat)(y:X.N[i]?=some x:=by rfl)(u:Vis X.env.scope x:=by walk_at "V")(hd:(x == ("__debug__":Str))=false:=by rfl)
  (o:(x == ("__classdict__":Str))=false:=by rfl):DL X (.Name x pos) (dOwn i):=by
 refine⟨_,Qr y u hd o,fun C L σ H n Q R S h I=>?_⟩;unfold dOwn at h;split at h;rename_i ds e;obtain⟨p,vs,h1,G,v,J⟩:=S.own i ds e;exact⟨.ref p,h1,I _ n _ H h ExtE.refl S.hnd (.inr (.inl ⟨p,vs,ds,rfl,rfl,G,v,fun z=>J (S.hx p z)⟩))⟩;exact h.elim
theorem Jg{i j pos}:DE X (.Constant (.int i) j pos) (dC (.int i)):=⟨_,Jz,fun _ _ _ H n _ _ S h l=>l _ n _ H h ExtE.refl S.hnd (.int i)⟩
theorem UH{b j pos}:DE X (.Constant (.bool b) j pos) (dC (.bool b)):=⟨_,ztl,fun _ _ _ H n _ _ S h u=>u _ n _ H h ExtE.refl S.hnd (.bl b)⟩
end
section
variable{K:qF}{hd:Option aj}{O:aj->Prop}{H H':Hp}{v:V}{t:ah}{n:Nat}
theorem Same.ext(h:Same H H'):ExtE hd H H':=fun a o e _=>h a o e
theorem Hn.same(h:Hn K hd H n)(s:Same H H'):Hn K hd H' n:=fun a e=>by rcases h a e with⟨⟨d,m,t,q,r⟩,l⟩|⟨l,p⟩;exact .inl ⟨⟨d,m,t,s _ _ q,r⟩,l⟩;exact .inr ⟨l,p.same s⟩
theorem Rep.same(s:Same H H')(r:Rep K hd O H v t):Rep K hd O H' v t:=r.mono (fun _ _ _ z=>z) fun a o _ h=>s a o h
theorem Reps.same{vs ts}(s:Same H H')(r:Reps K hd O H vs ts):Reps K hd O H' vs ts:=r.mono (fun _ _ _ z=>z) fun a o _ h=>s a o h
theorem ExtE.repT(e:ExtE C.hd H H')(hx:∀a,C.hd=some a->C.ext a)(r:RepT K C.hd (Own C ρ σ) H v t):RepT K C.hd (Own C ρ σ) H' v t:=by rcases r with r|⟨a,vs,ds,h1,y,x,G,u⟩|⟨a,zs,ep,I,h1,y,x,G,u⟩;exact .inl (e.rep hx r);exact .inr (.inl ⟨a,vs,ds,h1,y,e _ _ x u,e.reps hx G,u⟩);exact .inr (.inr ⟨a,zs,ep,I,h1,y,e _ _ x u,G.mono (fun _ _ _ z=>z) (fun a o no h=>e a o h fun z=>no (.inl (hx a z))),u⟩)
theorem RepT.lstI{ds}(h:RepT K hd O H v (.list ds)):∃a vs,v=.ref a/\H a=some (.lst vs)/\Reps K hd O H vs ds:=by rcases h with h|⟨a,vs,es,h1,o,u,x,_⟩|⟨a,vs,ep,es,h1,o,u,x,_⟩;obtain⟨a,vs,h1,o,_,u⟩:=h.lstI;exact⟨a,vs,h1,o,u⟩;cases o;exact⟨a,vs,h1,u,x⟩;cases o
theorem RepT.tupI{ds}(h:RepT K hd O H v (.tuple ds)):∃a vs,v=.ref a/\SqT K H a vs/\Reps K hd O H vs ds:=by rcases h with h|⟨a,vs,es,h1,o,x,y,_⟩|⟨a,vs,ep,es,h1,o,x,y,_⟩;exact h.tupI;cases o;cases o
theorem RepT.rep(h:RepT K hd O H v t)(nl:∀ds,t≠.list ds)(nd:∀u,t≠.dict (JF u):=by intro u z;first|cases z|exact dict_noT (dg z)):Rep K hd O H v t:=by rcases h with h|⟨a,vs,es,h1,o,x,y,_⟩|⟨a,vs,ep,es,h1,o,x,y,_⟩;exact h;exact absurd o (nl es);exact absurd o (nd es)
theorem RepT.intI{i}(h:RepT K hd O H v (.int i)):v=.int i:=(h.rep (by intro _ z;cases z)).intI
theorem RepT.blI{i}(h:RepT K hd O H v (.bool i)):v=.bl i:=(h.rep (by intro _ z;cases z)).blI
theorem RepT.strI{i}(h:RepT K hd O H v (.str i)):v=.str i:=(h.rep (by intro _ z;cases z)).strI
theorem RepT.nonI(h:RepT K hd O H v .none):v=.non:=(h.rep (by intro _ z;cases z)).nonI
theorem Rep.newT{vs ts}(no:¬O p)(h:H p=none)(r:Reps K hd O H vs ts):Rep K hd O (upd H p (.tup vs)) (.ref p) (.tuple ts) :=
 .tup Jo no (r.same (fun b u e=>by rw[Jc (Qg e h)];exact e))
end
theorem JB(h:H p=none):Same H (upd H p o):=fun b u e=>by rw[Jc (Qg e h)];exact e
abbrev G2:=ah->ah->(ah->Prop)->Prop
def dOp(g:G2)(v db:DTE):DTE:=fun l n R=>v l n fun x o=>db l o fun y u=>g x y fun z=>R z u
def Gp2(X:Cx)(r:R2)(g:G2):Prop:=∀(hd:Option aj) (O:aj->Prop) (H:Hp) (x y:V) (t u:ah) (Q:VK) (R:ah->Prop),(∀p,O p->H p≠none)->RepT X.K hd O H x t->RepT X.K hd O H y u->g t u R ->
 (∀z v H',R z->Same H H'->Rep X.K hd O H' v z->Q v H')->r x y H Q
section
variable{X:Cx}{a b c:bg}{da db dc:DTE}{pos:Pos}{r r':R2}{g g':G2}
theorem two{C:Ctx}{l:En}{σ:St}{H:Hp}{n:Nat}{U Z:TE}(ha:∀(C:Ctx) (l:En) (σ:St) (H:Hp) (n:Nat) (Q:VK) (R:qN),Stt X.K C l σ H n->da l n R ->
  (∀t I v H',R t I->ExtE C.hd H H'->Hn X.K C.hd H' I->RepT X.K C.hd (Own C l σ) H' v t->Q v H')->U σ H Q)
  (hb:∀(C:Ctx) (l:En) (σ:St) (H:Hp) (n:Nat) (Q:VK) (R:qN),Stt X.K C l σ H n->db l n R ->
  (∀t I v H',R t I->ExtE C.hd H H'->Hn X.K C.hd H' I->RepT X.K C.hd (Own C l σ) H' v t->Q v H')->Z σ H Q)
  {Q2:V->V->Hp->Prop} {R2:ah->ah->Nat->Prop} (S:Stt X.K C l σ H n) (h:da l n fun x N=>db l N fun y G=>R2 x y G)
  (hq:∀x y G v w o,R2 x y G->ExtE C.hd H o->Stt X.K C l σ o G->RepT X.K C.hd (Own C l σ) o v x->RepT X.K C.hd (Own C l σ) o w y->Q2 v w o) :
  U σ H fun v L=>Z σ L fun w o=>Q2 v w o:=by
 refine ha C l σ H n _ _ S h fun t N v L r1 e1 h1 q1=>?_;have Y:=S.on e1 h1;refine hb C l σ L N _ _ Y r1 fun u G w o r2 J h2 q2=>?_;exact hq t u G v w o r2 (e1.trans J) (Y.on J h2) (J.repT S.hx q1) q2
theorem Qz{op:Operator}(L:OpR X (binaryOp op) r)(hg:Gp2 X r g)(l:DL X a da)(o:DL X b db):DE X (.BinOp a op b pos) (dOp g da db):=by obtain⟨ta,pa,l⟩:=l;obtain⟨tb,Z,o⟩:=o;refine⟨_,Jy L pa Z,fun C ρ σ H n Q R S h hq=>?_⟩;refine two l o S h fun x y N v w Y r2 e I J U=>?_;exact hg C.hd (Own C ρ σ) Y v w x y Q _ (fun p=>I.dom) J U r2 fun z u H' rz G rp=>hq z N u H' rz (e.trans G.ext) (I.hnd.same G) rp
theorem QJ{op:xn}(N:OpR X (compareOp op) r)(hg:Gp2 X r g)(l:DL X a da)(G:DL X b db)(hm:behindInMarks op b=false):DE X (.Compare a [op] [b] pos) (dOp g da db):=by obtain⟨ta,pa,l⟩:=l;obtain⟨tb,pb,G⟩:=G;refine⟨_,zj2 N pa pb hm,fun C ρ σ H n Q R S h hq=>?_⟩;refine two l G S h fun x y U v w Z r2 e J L Y=>?_;exact hg C.hd (Own C ρ σ) Z v w x y Q _ (fun p=>J.dom) L Y r2 fun z u H' rz I rp=>hq z U u H' rz (e.trans I.ext) (J.hnd.same I) rp
def UG(d:DTE):DTT:=fun v n R=>d v n fun t u=>match t with|.bool k=>R k u|_=>False
theorem J1{op:xn}(U:OpR X (compareOp op) r)(hg:Gp2 X r g)(l:DL X a da)(G:DL X b db)(hm:behindInMarks op b=false):DT X (.Compare a [op] [b] pos) (UG (dOp g da db)):=by
 obtain⟨ta,pa,l⟩:=l;obtain⟨tb,pb,G⟩:=G;refine⟨_,zgx U pa pb hm,fun C ρ σ H n Q R S h hq=>?_⟩;refine two l G S h fun x y Y v w H2 r2 e L N Z=>?_;refine hg C.hd (Own C ρ σ) H2 v w x y _ _ (fun p=>L.dom) N Z r2 fun z u H' J I rp=>?_;cases z with
 | bool k =>cases rp;exact⟨k,rfl,hq k Y H' J (e.trans I.ext) (L.hnd.same I)⟩
 | _=>exact J.elim
def U1(g g':G2)(da db dc:DTE):DTE:=fun u n R=>da u n fun x G=>db u G fun y v=>g x y fun z=>match z with
 | .bool true=>dc u v fun w C=>g' y w fun z=>R z C
 | .bool false=>R (.bool false) v
 | _=>False
def gI(C:Int->Int->Prop)(f:Int->Int->Int):G2
 | .int i,.int j,R=>C i j/\R (.int (f i j))
 | _,_,_=>False
def gB(f:Int->Int->Bool):G2
 | .int i,.int j,R=>R (.bool (f i j))
 | _,_,_=>False
theorem gp_I:Gp2 X (rI C fun i j=>.int (f i j)) (gI C f):=by intro hd O H x y t u Q R dom o l h v;unfold gI at h;split at h;rename_i i j;exact⟨i,j,o.intI,l.intI,h.1,v _ _ H h.2 (Same.refl H) (.int _)⟩;exact h.elim
def gI0(f:Int->Int->Int):G2
 | .int i,.int j,R=>R (.int (f i j))
 | _,_,_=>False
theorem zoS:Gp2 X (rI0 fun i j=>.int (f i j)) (gI0 f):=by intro hd O H x y t u Q R dom o l h v;unfold gI0 at h;split at h;rename_i i j;exact⟨i,j,o.intI,l.intI,v _ _ H h (Same.refl H) (.int _)⟩;exact h.elim
theorem gp_B:Gp2 X (rI0 fun i j=>.bl (f i j)) (gB f):=by intro hd O H x y t u Q R dom v o h C;unfold gB at h;split at h;rename_i i j;exact⟨i,j,v.intI,o.intI,C _ _ H h (Same.refl H) (.bl _)⟩;exact h.elim
end
section
variable{X:Cx}{a b c:bg}{da db dc:DTE}{pos:Pos}
def oSub:=gI0 fun i j=>i - j
def oMod:=gI (fun _ j=>0<j) fun i j=>i % j
def Uh:=gI UI fun i j=>i / j
def oShl:=gI CPow fun i j=>i*2 ^ j.toNat
def oShr:=gI (fun _ j=>0<=j) fun i j=>i / 2 ^ j.toNat
def oXor:=gI0 cY
def oAnd:=gI0 gP
theorem Qd(o:DL X a da)(l:DL X b db):DE X (.BinOp a .Sub b pos) (dOp oSub da db):=Qz zqu zoS o l
theorem zrS(u:DL X a da)(l:DL X b db):DE X (.BinOp a .Mod b pos) (dOp oMod da db):=Qz QZ gp_I u l
theorem zlb(x:DL X a da)(u:DL X b db):DE X (.BinOp a .FloorDiv b pos) (dOp Uh da db):=Qz Zx gp_I x u
theorem JX(o:DL X a da)(l:DL X b db):DE X (.BinOp a .LShift b pos) (dOp oShl da db):=Qz zqw gp_I o l
theorem zk8(o:DL X a da)(l:DL X b db):DE X (.BinOp a .RShift b pos) (dOp oShr da db):=Qz zqv gp_I o l
theorem znz(u:DL X a da)(l:DL X b db):DE X (.BinOp a .BitXor b pos) (dOp oXor da db):=Qz zqt zoS u l
theorem zrW(o:DL X a da)(l:DL X b db):DE X (.BinOp a .BitAnd b pos) (dOp oAnd da db):=Qz zqF zoS o l
end
section
variable{X:Cx}{pins:qO}{σ:St}{H:Hp}{s:aq}{hd:Option aj}{O:aj->Prop}
theorem RepT.reads(I:Inv X pins σ H s)(h:RepT X.K hd O H v d)(r:RelV v u)(e:d.hasDict=false):∃as,Reads s.heap u d as:=by
 rcases h with h|⟨a,vs,ds,rfl,rfl,y,C,_⟩|⟨a,zs,ep,N,rfl,rfl,y,C,_⟩
 rotate_left 2
 simp[c8]at e;exact h.reads I r e;cases r;obtain⟨its,J,p,_⟩:=I.list (xs:=vs) (.inl (.inl y));obtain⟨o,n,G,hc,_,x⟩:=p;obtain⟨as,L⟩:=Reps.reads I C J (by simpa[c8] using e);exact⟨_,.list G hc x (by simpa using L)⟩
end
def Okd(t:ah):Prop:=t.canLay0=true/\t.depth<=60
section
variable{X:Cx}{a b c:bg}{da db dc:DTE}{pos:Pos}{k:Nat}
def rEqD(K:qF)(neg:Bool):R2:=fun x y H Q=>∃hd O t u,RepT K hd O H x t/\RepT K hd O H y u/\Okd t/\Okd u/\Q (.bl (if neg then !t.eqv u else t.eqv u)) H
theorem zqD(R:Room k X.A):OpR X (compareOp .Eq) (rEqD X.K false):=by intro pins s σ H x y v u Q I J G h;obtain⟨hd,O,t,w,h1,L,o,C,q⟩:=h;obtain⟨as,S⟩:=h1.reads I J (fS _ o.1);obtain⟨bs,N⟩:=L.reads I G (fS _ C.1);refine SeqAt.compareEq_reads S N o.1 C.1 ?_ ⟨.bl _,H,I,rfl,q⟩;have:=R.un;have:=o.2;omega
theorem zqy(U:Room k X.A):OpR X (compareOp .NotEq) (rEqD X.K true):=by intro pins s σ H x y v u Q I L J h;obtain⟨hd,O,t,w,h1,R,C,G,q⟩:=h;obtain⟨as,Y⟩:=h1.reads I L (fS _ C.1);obtain⟨bs,S⟩:=R.reads I J (fS _ G.1);refine SeqAt.compareNe_reads Y S C.1 G.1 ?_ ⟨.bl _,H,I,rfl,q⟩;have:=U.un;have:=C.2;omega
def oEq:G2
 | .int i,.int j,R=>R (.bool (decide (i=j)))
 | .str i,.str j,R=>R (.bool (decide (i=j)))
 | .bool i,.bool j,R=>R (.bool (decide (i=j)))
 | t,u,R=>Okd t/\Okd u/\R (.bool (t.eqv u))
def oNe:G2
 | .int i,.int j,R=>R (.bool (!decide (i=j)))
 | .str i,.str j,R=>R (.bool (!decide (i=j)))
 | .bool i,.bool j,R=>R (.bool (!decide (i=j)))
 | t,u,R=>Okd t/\Okd u/\R (.bool (!t.eqv u))
def rEqA(K:qF):R2:=fun x y H Q=>rEq x y H Q\/rEqD K false x y H Q
def rNeA(K:qF):R2:=fun x y H Q=>rNe x y H Q\/rEqD K true x y H Q
theorem Qe(l:Room k X.A):OpR X (compareOp .Eq) (rEqA X.K):=OpR.or ztp (zqD l)
theorem znh(l:Room k X.A):OpR X (compareOp .NotEq) (rNeA X.K):=OpR.or ztm (zqy l)
theorem Qb:Gp2 X (rEqA X.K) oEq:=by intro hd O H x y t u Q R dom v o h C;unfold oEq at h;split at h;rename_i i j;rw[v.intI,o.intI];refine .inl ⟨rfl,?_⟩;have e:decide (V.int i=V.int j)=decide (i=j):=decide_eq_decide.mpr ⟨fun z=>by cases z;rfl,fun z=>by rw[z]⟩;rw[e];exact C _ _ H h (Same.refl H) (.bl _);rename_i i j;rw[v.strI,o.strI];refine .inl ⟨rfl,?_⟩;have e:decide (V.str i=V.str j)=decide (i=j):=decide_eq_decide.mpr ⟨fun z=>by cases z;rfl,fun z=>by rw[z]⟩;rw[e];exact C _ _ H h (Same.refl H) (.bl _);rename_i i j;rw[v.blI,o.blI];refine .inl ⟨rfl,?_⟩;have e:decide (V.bl i=V.bl j)=decide (i=j):=decide_eq_decide.mpr ⟨fun z=>by cases z;rfl,fun z=>by rw[z]⟩;rw[e];exact C _ _ H h (Same.refl H) (.bl _);exact .inr ⟨hd,O,_,_,v,o,h.1,h.2.1,C _ _ H h.2.2 (Same.refl H) (.bl _)⟩
theorem zry:Gp2 X (rNeA X.K) oNe:=by intro hd O H x y t u Q R dom v o h C;unfold oNe at h;split at h;rename_i i j;rw[v.intI,o.intI];refine .inl ⟨rfl,?_⟩;have e:decide (V.int i=V.int j)=decide (i=j):=decide_eq_decide.mpr ⟨fun z=>by cases z;rfl,fun z=>by rw[z]⟩;rw[e];exact C _ _ H h (Same.refl H) (.bl _);rename_i i j;rw[v.strI,o.strI];refine .inl ⟨rfl,?_⟩;have e:decide (V.str i=V.str j)=decide (i=j):=decide_eq_decide.mpr ⟨fun z=>by cases z;rfl,fun z=>by rw[z]⟩;rw[e];exact C _ _ H h (Same.refl H) (.bl _);rename_i i j;rw[v.blI,o.blI];refine .inl ⟨rfl,?_⟩;have e:decide (V.bl i=V.bl j)=decide (i=j):=decide_eq_decide.mpr ⟨fun z=>by cases z;rfl,fun z=>by rw[z]⟩;rw[e];exact C _ _ H h (Same.refl H) (.bl _);exact .inr ⟨hd,O,_,_,v,o,h.1,h.2.1,C _ _ H h.2.2 (Same.refl H) (.bl _)⟩
def oLtA:G2
 | .int i,.int j,R=>R (.bool (decide (i<j)))
 | .str i,.str j,R=>R (.bool (decide (i.cps.toList<j.cps.toList)))
 | .tuple xs,.tuple ys,R=>∃ns ms,xs=ns.map cg/\ys=ms.map cg/\R (.bool (HT.lexLt ns ms))
 | _,_,_=>False
def rLtA(K:qF):R2:=fun x y H Q=>(rI0 fun i j=>.bl (decide (i<j))) x y H Q\/(∃i j,x=.str i/\y=.str j/\Q (.bl (decide (i.cps.toList<j.cps.toList))) H)\/rLtT K x y H Q
theorem zj9(l:Room k X.A):OpR X (compareOp .Lt) (rLtA X.K):=OpR.or zqA (OpR.or zj8 (zqz l.units0))
theorem zds{K:qF}{hd:Option aj}{O:aj->Prop}{H:Hp}:∀{ns:List Int}{vs:List V},Reps K hd O H vs (ns.map cg)->vs=ns.map V.int
 | [],_,h=>by cases h;rfl
 | n::ns,_,h=>by
  cases h with
  | cons h r=>rw[h.intI,zds r];rfl
theorem zkQ:Gp2 X (rLtA X.K) oLtA:=by intro hd O H x y t u Q R dom v o h C;unfold oLtA at h;split at h;exact .inl ⟨_,_,v.intI,o.intI,C _ _ H h (Same.refl H) (.bl _)⟩;exact .inr (.inl ⟨_,_,v.strI,o.strI,C _ _ H h (Same.refl H) (.bl _)⟩);obtain⟨ns,ms,rfl,rfl,h⟩:=h;obtain⟨p,vs,L,s1,J⟩:=v.tupI;obtain⟨q,N,G,s2,I⟩:=o.tupI;rw[zds J]at s1;rw[zds I]at s2;exact .inr (.inr ⟨p,q,ns,ms,L,G,s1,s2,C _ _ H h (Same.refl H) (.bl _)⟩);exact h.elim
def oLeA:G2
 | .int i,.int j,R=>R (.bool (decide (i<=j)))
 | .str i,.str j,R=>R (.bool (!decide (j.cps.toList<i.cps.toList)))
 | _,_,_=>False
def rLeA:R2:=fun x y H Q=>(rI0 fun i j=>.bl (decide (i<=j))) x y H Q\/(∃i j,x=.str i/\y=.str j/\Q (.bl (!decide (j.cps.toList<i.cps.toList))) H)
theorem zj_:OpR X (compareOp .LtE) (fun x y H Q=>∃i j,x=.str i/\y=.str j/\Q (.bl (!decide (j.cps.toList<i.cps.toList))) H):=by intro pins s σ H x y v u Q I C o h;obtain⟨i,j,rfl,rfl,q⟩:=h;obtain⟨t,rfl⟩:=C;obtain⟨t',rfl⟩:=o;exact PySem.P.le_str ⟨.bl _,H,I,rfl,q⟩
theorem zka:OpR X (compareOp .LtE) rLeA:=OpR.or ztn zj_
theorem zkR:Gp2 X rLeA oLeA:=by intro hd O H x y t u Q R dom v o h C;unfold oLeA at h;split at h;exact .inl ⟨_,_,v.intI,o.intI,C _ _ H h (Same.refl H) (.bl _)⟩;exact .inr ⟨_,_,v.strI,o.strI,C _ _ H h (Same.refl H) (.bl _)⟩;exact h.elim
variable{r r':R2}{g g':G2}
theorem zmS(ho:OpR X (compareOp op) r)(hg:Gp2 X r g)(ho':OpR X (compareOp op') r')(hg':Gp2 X r' g')(N:DL X a da)(U:DL X b db)(hc:DL X c dc)
  (hm:lastMarks [op,op'] [b,c]=false:=by with_unfolding_all rfl):DE X (.Compare a [op,op'] [b,c] pos) (U1 g g' da db dc):=by
 obtain⟨ta,pa,N⟩:=N;obtain⟨tb,pb,U⟩:=U;obtain⟨tc,pc,hc⟩:=hc;refine⟨_,zmd ho ho' pa pb pc hm,fun C ρ σ H n Q R S h hq=>?_⟩;refine two N U S h fun x y n2 v w H2 r2 e S2 q1 q2=>?_;refine hg C.hd (Own C ρ σ) H2 v w x y _ _ (fun p=>S2.dom) q1 q2 r2 fun z u H' I G rp=>?_;have Z:=S2.on G.ext (S2.hnd.same G);cases z with
 | bool k =>
  cases rp;refine⟨k,rfl,?_⟩;cases k with
  | false=>exact iteF (hq _ n2 _ H' I (e.trans G.ext) Z.hnd (.bl _))
  | true =>refine iteT (hc C ρ σ H' n2 _ _ Z I fun z2 n3 w2 H4 r4 Y h4 q4=>?_);have S4:=Z.on Y h4;have L:=Y.repT S.hx ((Same.ext G:ExtE C.hd H2 H').repT S.hx q2);exact hg' C.hd (Own C ρ σ) H4 w w2 y z2 Q _ (fun p=>S4.dom) L q4 r4 fun z u H' I J rp=>hq z n3 u H' I (((e.trans G.ext).trans Y).trans J.ext) (S4.hnd.same J) rp
 | _=>exact I.elim
end
section
variable{X:Cx}{a b c e:bg}{es rest:List bg}{d da db dc:DTE}{t u:DTT}{pos p:Pos}{k:Nat}
def truD:ah->(Bool->Prop)->Prop
 | .none,R=>R false
 | .bool b,R=>R b
 | .int i,R=>R (decide (i≠0))
 | .str x,R=>x.length<=16777216/\R (decide (x.length≠0))
 | .list ts,R=>R (!ts.isEmpty)
 | .tuple ts,R=>R (!ts.isEmpty)
 | _,_=>False
def dTru(d:DTE):DTT:=fun o n R=>d o n fun t l=>truD t fun b=>R b l
theorem zpL{K:qF}{hd:Option aj}{O:aj->Prop}{H:Hp}{v:V}{t:ah}{Q:Bool->Hp->Prop}{R:Bool->Prop}(r:RepT K hd O H v t)(h:truD t R)(y:∀b,R b->Q b H):∃k,TruV K v H k/\Q k H:=by
 cases t with
 | none=>exact⟨false,by rw[r.nonI];rfl,y _ h⟩
 | bool b=>exact⟨b,by rw[r.blI];rfl,y _ h⟩
 | int i=>exact⟨decide (i≠0),by rw[r.intI];show _=(i != 0);by_cases z:i=0 <;> simp[z],y _ h⟩
 | str x =>refine⟨decide (x.length≠0),by rw[r.strI];exact⟨h.1,by by_cases z:x.length=0 <;> simp[z]⟩,y _ h.2⟩
 | list ts =>obtain⟨p,vs,e,h1,C⟩:=r.lstI;subst e;refine⟨!ts.isEmpty,.inl ⟨vs,.of h1,?_⟩,y _ h⟩;cases C <;> rfl
 | tuple ts =>obtain⟨p,vs,e,h1,C⟩:=r.tupI;subst e;refine⟨!ts.isEmpty,.inr (.inl ⟨vs,h1,?_⟩),y _ h⟩;cases C <;> rfl
 | dict _=>exact h.elim
theorem Qw(l:DL X a da)(he:∀whole,isTrue a X.env whole=(do let v <- whole;standAt a.pos;holding [v] (truthy v)):=by intro _;rfl):DT X a (dTru da):=by obtain⟨J,pa,l⟩:=l;refine⟨_,zl8 pa he,fun C I σ H n Q R S h x=>?_⟩;refine l C I σ H n _ _ S h fun t y v H' r G h1 q=>?_;exact zpL q r fun b o=>x b y H' o G h1
def dAnd(t u:DTT):DTT:=fun o n R=>t o n fun b l=>if b=true then u o l R else R false l
def dOr(t u:DTT):DTT:=fun o n R=>t o n fun b l=>if b=true then R true l else u o l R
def dNot(t:DTT):DTT:=fun o n R=>t o n fun b l=>R (!b) l
theorem UM(h:DW X a t):DT X a t:=by obtain⟨l,pa,h⟩:=h;exact⟨_,pa.pt,h⟩
theorem zgS(h:DT X a t):DW X (.BoolOp .And [a] pos) t:=by obtain⟨v,pa,h⟩:=h;exact⟨_,zn0 pa,h⟩
theorem znv(h:DT X a t):DW X (.BoolOp .Or [a] pos) t:=by obtain⟨v,pa,h⟩:=h;exact⟨_,zqd pa,h⟩
theorem zkU(h:DT X a t)(h':DW X (.BoolOp .And (b::rest) pos) u):DW X (.BoolOp .And (a::b::rest) pos) (dAnd t u):=by
 obtain⟨Z,pa,h⟩:=h;obtain⟨tb,N,h'⟩:=h';refine⟨_,zqe pa N,fun C I σ H n Q R S hd x=>?_⟩;refine h C I σ H n _ _ S hd fun b G y r v h1=>?_;cases b with
 | true=>exact iteT (h' C I σ y G Q R (S.on v h1) (by simpa using r) fun b J L r U Y=>x b J L r (v.trans U) Y)
 | false=>exact iteF (x _ G y (by simpa using r) v h1)
theorem zrM(h:DT X a t)(h':DW X (.BoolOp .Or (b::rest) pos) u):DW X (.BoolOp .Or (a::b::rest) pos) (dOr t u):=by
 obtain⟨Z,pa,h⟩:=h;obtain⟨tb,N,h'⟩:=h';refine⟨_,zti pa N,fun C I σ H n Q R S hd x=>?_⟩;refine h C I σ H n _ _ S hd fun b G y r v h1=>?_;cases b with
 | false=>exact iteF (h' C I σ y G Q R (S.on v h1) (by simpa using r) fun b J L r U Y=>x b J L r (v.trans U) Y)
 | true=>exact iteT (x _ G y (by simpa using r) v h1)
theorem Za(h:DT X a t):DT X (.UnaryOp .Not a pos) (dNot t):=by obtain⟨J,pa,h⟩:=h;refine⟨_,zqg pa,fun C I σ H n Q R S hd l=>?_⟩;exact h C I σ H n _ _ S hd fun b G x r v h1=>l _ G x r v h1
def bolD:ah->(Bool->Prop)->Prop
 | .bool b,R=>R b
 | _,_=>False
def zpb(da db:DTE):DTE:=fun x n R=>da x n fun t v=>bolD t fun b=>if b=true then db x v R else R (.bool false) v
theorem zk9{op}(h:DE X a d):DE X (.BoolOp op [a] pos) d:=by obtain⟨v,pa,h⟩:=h;exact⟨_,zqm pa,h⟩
theorem Uo(h:DE X a da)(h':DE X (.BoolOp .And (b::rest) pos) db):DE X (.BoolOp .And (a::b::rest) pos) (zpb da db):=by
 obtain⟨ta,pa,h⟩:=h;obtain⟨tb,Z,h'⟩:=h';refine⟨_,zqp pa Z,fun C J σ H n Q R S hd y=>?_⟩;refine h C J σ H n _ _ S hd fun t I v G r x h1 L=>?_;cases t with
 | bool b =>
  cases L;refine⟨b,rfl,?_⟩;cases b with
  | true=>exact iteT (h' C J σ G I Q R (S.on x h1) (by simpa[bolD] using r) fun t N v Y r e2 h2 U=>y t N v Y r (x.trans e2) h2 U)
  | false=>exact iteF (y _ I _ G (by simpa[bolD] using r) x h1 (.bl _))
 | _=>exact r.elim
def dNil:DTA:=fun _ n R=>R [] n
def Qa(d:DTE)(ds:DTA):DTA:=fun l n R=>d l n fun t v=>ds l v fun ts o=>R (t::ts) o
theorem Jb:DB X [] dNil:=⟨_,Qi,fun C v σ H n Q R S h o=>o [] n [] H h ExtE.refl S.hnd .nil rfl⟩
theorem zle(h:DE X e d)(l:DB X es ds)(N:starEach (e::es) X.env=(false,eval e X.env)::starEach es X.env):DB X (e::es) (Qa d ds):=by obtain⟨ta,pa,h⟩:=h;obtain⟨tb,Y,l⟩:=l;refine⟨_,JW pa Y N,fun C G σ H n Q R S hd hq=>?_⟩;refine h C G σ H n _ _ S hd fun t n1 v H1 r y h1 I=>?_;refine l C G σ H1 n1 _ _ (S.on y h1) r fun ts J vs U r2 x Z L l2=>?_;exact hq _ J _ U r2 (y.trans x) Z (.cons (x.rep S.hx I) L) (by simp[l2])
def UD(K:qF)(hd:Option aj)(O:aj->Prop)(H:Hp):List V->List ah->Prop:=bR (RepT K hd O H)
def DBL(X:Cx)(es:List bg)(d:DTA):Prop:=∃o,PB X es o/\∀(C:Ctx) (l:En) (σ:St) (H:Hp) (n:Nat) (Q:List V->Hp->Prop) (R:List ah->Nat->Prop),Stt X.K C l σ H n->d l n R ->
 (∀ts v vs H',R ts v->ExtE C.hd H H'->Hn X.K C.hd H' v->UD X.K C.hd (Own C l σ) H' vs ts->ts.length=es.length->Q vs H')->o σ H Q
theorem JA:DBL X [] dNil:=⟨_,Qi,fun C v σ H n Q R S h o=>o [] n [] H h ExtE.refl S.hnd .nil rfl⟩
theorem Jk(h:DL X e d)(l:DBL X es ds)(N:starEach (e::es) X.env=(false,eval e X.env)::starEach es X.env):DBL X (e::es) (Qa d ds):=by obtain⟨ta,pa,h⟩:=h;obtain⟨tb,Y,l⟩:=l;refine⟨_,JW pa Y N,fun C G σ H n Q R S hd hq=>?_⟩;refine h C G σ H n _ _ S hd fun t n1 v H1 r y h1 I=>?_;refine l C G σ H1 n1 _ _ (S.on y h1) r fun ts J vs U r2 x Z L l2=>?_;exact hq _ J _ U r2 (y.trans x) Z (.cons (x.repT S.hx I) L) (by simp[l2])
def dTup(ds:DTA):DTE:=fun v n R=>ds v n fun ts o=>R (.tuple ts) o
theorem JR(h:DB X es ds)(y:es.length<=sizeLine:=by decide):DE X (.Tuple es x1 pos) (dTup ds):=by obtain⟨U,pa,h⟩:=h;refine⟨_,zof pa,fun C N σ H n Q R S hd J=>?_⟩;refine h C N σ H n _ _ S hd fun ts L vs Y r x h1 v G=>⟨by rw[v.length,G];exact y,fun p o=>?_⟩;have I:=S.on x h1;exact J _ L _ _ r (x.trans (ExtE.new o)) (h1.same (JB o)) (.newT (I.free o) o v)
theorem J6(h:DB X es ds)(J:es.length<=sizeLine:=by decide):DN X (.List es pos) ds:=by
 obtain⟨ta,pa,h⟩:=h;refine⟨_,zj0 pa,fun C Z σ H n Q R S hd U=>?_⟩;refine h C Z σ H n _ _ S hd fun ts Y vs H1 r G h1 I N=>⟨by rw[I.length,N];exact J,fun p l=>?_⟩;have S1:=S.on G h1;have x:H p=none:=by
  cases z:H p with
  | none=>rfl
  | some o =>by_cases y:C.hd=some p;obtain⟨vs,q⟩:=h1.lst y;rw[l]at q;cases q;rw[G p o z y]at l;cases l
 refine U ts Y p vs _ r (G.trans (ExtE.new l)) (h1.same (JB l)) x Jo ?_;refine I.mono (fun b o v z=>z.elim id fun z=>?_) fun b o _ v=>JB l b o v;subst z;rw[l]at v;cases v
end
section
variable{X:Cx}{a b c e:bg}{es rest:List bg}{d da db dc:DTE}{ds:DTA}{pos p:Pos}{k:Nat}{x:Str}
abbrev GC:=List ah->(ah->Prop)->Prop
def U0(g:GC)(ds:DTA):DTE:=fun o n R=>ds o n fun ts l=>g ts fun z=>R z l
def GpC(X:Cx)(r:List V->Hp->VK->Prop)(g:GC):Prop:=∀(hd:Option aj) (O:aj->Prop) (H:Hp) (xs:List V) (ts:qD) (Q:VK) (R:ah->Prop),(∀p,O p->H p≠none)->UD X.K hd O H xs ts->g ts R ->
 (∀z v H',R z->Same H H'->Rep X.K hd O H' v z->Q v H')->r xs H Q
theorem JJ{id:String}{r:List V->Hp->VK->Prop}{g:GC}(hc:JI X (.builtin id) r)(o:GpC X r g)(hm:X.mg x=none)(L:bootBuiltins x=some (.builtin id))(h:DBL X (e::es) ds)(hg:Gl X x:=by rfl)(hn:x ≠ "__name__":=by decide) (v:(x == ("__debug__":Str))=false:=by rfl) :
  DE X (.Call (.Name x p) (e::es) [] pos) (U0 g ds):=by
 obtain⟨ta,pa,h⟩:=h;refine⟨_,QT hc hm L pa hg hn v,fun C I σ H n Q R S hd hq=>?_⟩;refine h C I σ H n _ _ S hd fun ts n1 vs H1 r1 G h1 J _=>?_;have U:=S.on G h1;exact o C.hd (Own C I σ) H1 vs ts Q _ (fun p=>U.dom) J r1 fun z u H' Y y Z=>hq z n1 u H' Y (G.trans y.ext) (h1.same y) Z
theorem YC(hc:JI X (.type T) r)(o:GpC X r g)(hm:X.mg x=none)(U:bootBuiltins x=some (.type T))(h:DBL X (e::es) ds)(hg:Gl X x:=by rfl)(hn:x ≠ "__name__":=by decide) (v:(x == ("__debug__":Str))=false:=by rfl) :
  DE X (.Call (.Name x p) (e::es) [] pos) (U0 g ds):=by
 obtain⟨ta,pa,h⟩:=h;refine⟨_,zoi hc hm U pa hg hn v,fun C J σ H n Q R S hd hq=>?_⟩;refine h C J σ H n _ _ S hd fun ts n1 vs H1 r1 I h1 L _=>?_;have Y:=S.on I h1;exact o C.hd (Own C J σ) H1 vs ts Q _ (fun p=>Y.dom) L r1 fun z u H' Z G rp=>hq z n1 u H' Z (I.trans G.ext) (h1.same G) rp
theorem QN{K:qF}{hd:Option aj}{O:aj->Prop}{H:Hp}{xs:List V}{t:ah}(h:UD K hd O H xs [t]):∃v,xs=[v]/\RepT K hd O H v t:=by
 cases h with
 | cons h r=>cases r;exact⟨_,rfl,h⟩
theorem zna{K:qF}{hd:Option aj}{O:aj->Prop}{H:Hp}{xs:List V}{t u:ah}(h:UD K hd O H xs [t,u]):∃v w,xs=[v,w]/\RepT K hd O H v t/\RepT K hd O H w u:=by
 cases h with
 | cons h r=>cases r with|cons l r=>cases r;exact⟨_,_,rfl,h,l⟩
def bLen:GC:=fun l R=>(∃ts,l=[.list ts]/\R (.int ts.length))\/(∃ts,l=[.tuple ts]/\R (.int ts.length))\/(∃x:Str,l=[.str x]/\x.length<=16777216/\R (.int x.length))\/∃ts,l=[.dict [(.none,.list ts)]]/\R (.int ts.length)
def rLen(K:qF):List V->Hp->VK->Prop:=fun xs H Q=>∃x n,xs=[x]/\LenV K x H n/\Q (.int n) H
theorem Uk:GpC X (rLen X.K) bLen:=by
 intro hd O H xs ts Q R dom rs h u;rcases h with⟨ts,rfl,h⟩|⟨ts,rfl,h⟩|⟨x,rfl,h⟩|⟨ts,rfl,h⟩;obtain⟨v,rfl,r⟩:=QN rs;obtain⟨p,vs,rfl,h1,C⟩:=r.lstI;exact⟨_,_,rfl,.inl ⟨vs,.of h1,rfl⟩,by rw[C.length];exact u _ _ H h (Same.refl H) (.int _)⟩;obtain⟨v,rfl,r⟩:=QN rs;obtain⟨p,vs,rfl,h1,C⟩:=r.tupI;exact⟨_,_,rfl,.inr ⟨vs,h1,rfl⟩,by rw[C.length];exact u _ _ H h (Same.refl H) (.int _)⟩;obtain⟨v,rfl,r⟩:=QN rs;rw[r.strI];exact⟨_,_,rfl,⟨h.1,rfl⟩,u _ _ H h.2 (Same.refl H) (.int _)⟩;obtain⟨v,rfl,r⟩:=QN rs;have r:=r.rep (by intro _ z;cases z);generalize e:(sQ [(oH,xE ts)])=t at r;cases r with
 | scr h1 o =>simp only[SCR,rK,tm,vh,rL,true_and,and_true]at e;subst e;exact⟨_,_,rfl,.inl ⟨_,.inl h1,rfl⟩,by simpa using u _ _ H h (Same.refl H) (.int _)⟩
 | scrS h1 =>simp only[SCR,rK,tm,vh,rL,true_and,and_true]at e;subst e;exact⟨_,_,rfl,.inl ⟨_,h1 H,rfl⟩,by simpa using u _ _ H h (Same.refl H) (.int _)⟩
 | hand _=>simp[HAND]at e
 | exc _ _=>simp[EXC]at e
 | dct _ _=>cases e
 | dcK _ _ _ y=>cases e;exact(dict_noK y).elim
 | dcT _ _ _ y=>cases e;exact(dict_noT y).elim
 | _=>cases e
def bMin:GC
 | [.int i,.int j],R=>R (.int (if j<i then j else i))
 | _,_=>False
def bMax:GC
 | [.int i,.int j],R=>R (.int (if j > i then j else i))
 | _,_=>False
theorem UW:GpC X (fun xs H Q=>∃i j,xs=[.int i,.int j]/\Q (.int (if j<i then j else i)) H) bMin:=by intro hd O H xs ts Q R dom rs h l;unfold bMin at h;split at h;obtain⟨v,w,rfl,u,o⟩:=zna rs;rw[u.intI,o.intI];exact⟨_,_,rfl,l _ _ H h (Same.refl H) (.int _)⟩;exact h.elim
theorem YX:GpC X (fun xs H Q=>∃i j,xs=[.int i,.int j]/\Q (.int (if j > i then j else i)) H) bMax:=by intro hd O H xs ts Q R dom rs h l;unfold bMax at h;split at h;obtain⟨v,w,rfl,u,o⟩:=zna rs;rw[u.intI,o.intI];exact⟨_,_,rfl,l _ _ H h (Same.refl H) (.int _)⟩;exact h.elim
def bAll:GC
 | [.list ts],R=>∃bs:List Bool,ts=bs.map eU/\R (.bool (bs.all id))
 | _,_=>False
def bAny:GC
 | [.list ts],R=>∃bs:List Bool,ts=bs.map eU/\R (.bool (bs.any id))
 | _,_=>False
theorem zcF{K:qF}{hd:Option aj}{O:aj->Prop}{H:Hp}:∀{ns:List Bool}{vs:List V},Reps K hd O H vs (ns.map eU)->vs=ns.map V.bl
 | [],_,h=>by cases h;rfl
 | n::ns,_,h=>by
  cases h with
  | cons h r=>rw[h.blI,zcF r];rfl
theorem YW:GpC X (fun xs H Q=>∃(a:aj) (bs:List Bool),xs=[.ref a]/\SqL X.K H a (bs.map V.bl)/\Q (.bl (bs.all id)) H) bAll:=by intro hd O H xs ts Q R dom rs h y;unfold bAll at h;split at h;obtain⟨bs,rfl,h⟩:=h;obtain⟨v,rfl,C⟩:=QN rs;obtain⟨p,vs,rfl,h1,u⟩:=C.lstI;rw[zcF u]at h1;exact⟨p,bs,rfl,.of h1,y _ _ H h (Same.refl H) (.bl _)⟩;exact h.elim
theorem zns:GpC X (fun xs H Q=>∃(a:aj) (bs:List Bool),xs=[.ref a]/\SqL X.K H a (bs.map V.bl)/\Q (.bl (bs.any id)) H) bAny:=by intro hd O H xs ts Q R dom rs h y;unfold bAny at h;split at h;obtain⟨bs,rfl,h⟩:=h;obtain⟨v,rfl,C⟩:=QN rs;obtain⟨p,vs,rfl,h1,u⟩:=C.lstI;rw[zcF u]at h1;exact⟨p,bs,rfl,.of h1,y _ _ H h (Same.refl H) (.bl _)⟩;exact h.elim
def UR:GC
 | [.list ts],R=>R (.tuple ts)
 | [.tuple ts],R=>R (.tuple ts)
 | _,_=>False
theorem Zt:GpC X (fun xs H Q=>∃p ys,xs=[.ref p]/\((SqL X.K H p ys/\∀l,H l=none->Q (.ref l) (upd H l (.tup ys)))\/(SqT X.K H p ys/\Q (.ref p) H))) UR:=by intro hd O H xs ts Q R dom rs h I;unfold UR at h;split at h;obtain⟨v,rfl,y⟩:=QN rs;obtain⟨p,vs,rfl,h1,G⟩:=y.lstI;refine⟨p,vs,rfl,.inl ⟨.of h1,fun l C=>?_⟩⟩;exact I _ _ _ h (JB C) (.newT (fun z=>dom l z C) C G);obtain⟨v,rfl,y⟩:=QN rs;obtain⟨p,vs,rfl,h1,G⟩:=y.tupI;exact⟨p,vs,rfl,.inr ⟨h1,I _ _ H h (Same.refl H) (y.rep (by intro _ z;cases z))⟩⟩;exact h.elim
def JG:ah->(List ah->Prop)->Prop
 | .list ts,R=>R ts
 | .tuple ts,R=>R ts
 | _,_=>False
def zgU(d:DTE):DTA:=fun o n R=>d o n fun t l=>JG t fun ts=>R ts l
theorem zkZ(hm:X.mg "list" = none) (h:DL X e d) (hs:starEach [e] X.env=[(false,eval e X.env)]) (hg:Gl X "list":=by rfl):DN X (.Call (.Name "list" p) [e] [] pos) (zgU d):=by
 obtain⟨ta,pa,h⟩:=h;refine⟨_,zoi zgd hm (by decide +kernel) (JW pa Qi hs) hg,fun C ρ σ H n Q R S hd hq=>?_⟩;refine h C ρ σ H n _ _ S hd fun t n1 v H1 Y Z h1 q1=>?_;have S1:=S.on Z h1;have fin:∀p vs ts,Reps X.K C.hd (Own C ρ σ) H1 vs ts->R ts n1->H1 p=none->Q (.ref p) (upd H1 p (.lst vs)):=fun p vs ts rp rr G=>by
  have L:H p=none:=by
   cases z:H p with
   | none=>rfl
   | some o =>by_cases y:C.hd=some p;obtain⟨vs,q⟩:=h1.lst y;rw[G]at q;cases q;rw[Z p o z y]at G;cases G
  refine hq ts n1 p vs _ rr (Z.trans (ExtE.new G)) (h1.same (JB G)) L Jo ?_;refine rp.mono (fun b o I z=>z.elim id fun z=>?_) fun b o _ I=>JB G b o I;subst z;rw[G]at I;cases I
 cases t with
 | list ts =>obtain⟨p,vs,rfl,u,U⟩:=q1.lstI;exact⟨p,vs,rfl,.inl (.of u),fun l J=>fin l vs ts U Y J⟩
 | tuple ts =>obtain⟨p,vs,rfl,u,U⟩:=q1.tupI;exact⟨p,vs,rfl,.inr u,fun l J=>fin l vs ts U Y J⟩
 | _=>exact Y.elim
def tyN:ah->Option String
 | .none=>some "NoneType"
 | .bool _=>some "bool"
 | .int _=>some "int"
 | .str _=>some "str"
 | .list _=>some "list"
 | .tuple _=>some "tuple"
 | .dict []=>some "dict"
 | .dict _=>none
def rIsi(K:qF):List V->Hp->VK->Prop:=fun xs H Q=>∃x hd O t T y b,xs=[x,.ty T]/\RepT K hd O H x t/\tyN t=some y/\kitB y T=some b/\Q (.bl b) H
theorem zlq:JI X (.builtin "isinstance") (rIsi X.K):=by
 intro pins s σ H xs us Q I r h;obtain⟨x,hd,O,t,T,y,b,rfl,N,ty,e,q⟩:=h;cases r with
 | cons C S =>
  cases S with
  | cons R U =>
   cases U;cases(show _=a8 T from R);have fin:∀L,tyN t=some L->L=y:=fun L h=>aQ (h.symm.trans ty);have go:Ty H x y->wpAny (model X.prog X.w) X.A (call (.builtin "isinstance") [_,a8 T]) (EP X pins σ Q) X.xe s:=fun ty=>zkG I C ty.of ((QM X.K y T).trans e) fun tk=>⟨.bl b,H,I.tok tk,rfl,q⟩;rcases N with N|⟨a,vs,ds,rfl,rfl,J,Z,_⟩|⟨a,zs,ep,G,rfl,rfl,J,Z,_⟩;cases N with
   | non=>cases ty;exact go .non
   | bl b=>cases ty;exact go (.bl b)
   | int i=>cases ty;exact go (.int i)
   | str i=>cases ty;exact go (.str i)
   | tup h o r=>cases ty;exact go (.tup h)
   | lst h o r=>cases ty;exact go (.lst h)
   | @dct a ep h o =>cases ty;cases(show _=aO a from C);obtain⟨⟨_,_,_,v,es,g1,g2,_⟩,_⟩:=I.hok a _ h;exact bX fH I.kIn ⟨v,g1,g2.1⟩ ((QM X.K "dict" T).trans e) (fun z=>nomatch z) fun tk=>⟨.bl b,H,I.tok tk,rfl,q⟩
   | @dcK a kvs ep G ps h o r e' =>
    cases ps with
    | nil =>cases ty;cases(show _=aO a from C);obtain⟨⟨_,_,_,v,es,g1,g2,_⟩,_⟩:=I.hok a _ h;exact bX fH I.kIn ⟨v,g1,g2.1⟩ ((QM X.K "dict" T).trans e) (fun z=>nomatch z) fun tk=>⟨.bl b,H,I.tok tk,rfl,q⟩
    | cons _ _=>simp[tyN]at ty
   | @dcT a zs ep G ps h o r e' =>
    cases ps with
    | nil =>cases ty;cases(show _=aO a from C);obtain⟨⟨_,_,_,v,es,g1,g2,_⟩,_⟩:=I.hok a _ h;exact bX fH I.kIn ⟨v,g1,g2.1⟩ ((QM X.K "dict" T).trans e) (fun z=>nomatch z) fun tk=>⟨.bl b,H,I.tok tk,rfl,q⟩
    | cons _ _=>simp[tyN]at ty
   | hand h=>simp[HAND,tyN]at ty
   | scr h o=>simp[SCR,tyN]at ty
   | scrS h=>simp[SCR,tyN]at ty
   | exc h o=>simp[EXC,tyN]at ty
   | @tupS a vs ds h r =>cases ty;cases(show _=aO a from C);obtain⟨o,its,n,Y,hc,_⟩:=h;exact bX pP I.kIn ⟨o,I.kIn a o Y,hc⟩ ((QM X.K "tuple" T).trans e) (fun z=>nomatch z) fun tk=>⟨.bl b,H,I.tok tk,rfl,q⟩
   cases ty;exact go (.lst J);cases G with
   | nil =>cases ty;cases(show _=aO a from C);obtain⟨⟨_,_,_,v,es,g1,g2,_⟩,_⟩:=I.hok a _ J;exact bX fH I.kIn ⟨v,g1,g2.1⟩ ((QM X.K "dict" T).trans e) (fun z=>nomatch z) fun tk=>⟨.bl b,H,I.tok tk,rfl,q⟩
   | cons _ _=>simp[tyN,JF]at ty
end
section
variable{X:Cx}{a b c e:bg}{es rest:List bg}{d da db dc:DTE}{ds:DTA}{pos p:Pos}{k:Nat}{x:Str}
theorem Reps.atI{K:qF}{hd:Option aj}{O:aj->Prop}{H:Hp}{vs ts}{i:Int}{t}(r:Reps K hd O H vs ts)(h:L2.atI ts i=some t):∃v,L2.atI vs i=some v/\Rep K hd O H v t:=by
 unfold L2.atI at h ⊢;rw[r.length];cases e:ixN ts.length i with
 | none=>rw[e]at h;cases h
 | some j =>rw[e]at h;have h:ts[j]?=some t:=h;exact r.get h
def oIx:G2
 | .list ts,.int i,R=>match atI ts i with|some t=>R t|none=>False
 | .tuple ts,.int i,R=>match atI ts i with|some t=>R t|none=>False
 | .str x,.int i,R=>x.length<=16777216/\match atI x.cps.toList i with|some c=>R (.str ⟨#[c]⟩)|none=>False
 | _,_,_=>False
theorem ztX:Gp2 X (rIx X.K) oIx:=by intro hd O H x y t u Q R dom I C h L;unfold oIx at h;split at h;rename_i ts i;obtain⟨p,vs,rfl,h1,J⟩:=I.lstI;split at h;rename_i t N;obtain⟨v,ev,G⟩:=J.atI N;exact .inl ⟨p,vs,i,v,rfl,C.intI,.of h1,ev,L _ _ H h (Same.refl H) G⟩;exact h.elim;rename_i ts i;obtain⟨p,vs,rfl,h1,J⟩:=I.tupI;split at h;rename_i t N;obtain⟨v,ev,G⟩:=J.atI N;exact .inr (.inl ⟨p,vs,i,v,rfl,C.intI,h1,ev,L _ _ H h (Same.refl H) G⟩);exact h.elim;rename_i z i;obtain⟨h0,h⟩:=h;split at h;rename_i c S;exact .inr (.inr ⟨z,i,c,I.strI,C.intI,h0,S,L _ _ H h (Same.refl H) (.str _)⟩);exact h.elim;exact h.elim
theorem JT(l:DL X a da)(o:DL X b db)(Y:zlA b:=by intro _ _;rfl):DE X (.Subscript a b pos) (dOp oIx da db):=by obtain⟨ta,pa,l⟩:=l;obtain⟨tb,Z,o⟩:=o;refine⟨_,QF zq6 pa Z Y,fun C ρ σ H n Q R S h hq=>?_⟩;refine two l o S h fun x y L v w U r2 e I J N=>?_;exact ztX C.hd (Own C ρ σ) U v w x y Q _ (fun p=>I.dom) J N r2 fun z u H' rz G rp=>hq z L u H' rz (e.trans G.ext) (I.hnd.same G) rp
def dNeg(d:DTE):DTE:=fun o n R=>d o n fun t l=>match t with|.int i=>R (.int (-i)) l|_=>False
theorem U2(h:DE X a da):DE X (.UnaryOp .USub a pos) (dNeg da):=by
 obtain⟨N,pa,h⟩:=h;refine⟨_,ztj zpG pa,fun C L σ H n Q R S hd o=>?_⟩;refine h C L σ H n _ _ S hd fun t J v I r G h1 l=>?_;cases t with
 | int i=>rw[l.intI];exact⟨i,rfl,o _ J _ I r G h1 (.int _)⟩
 | _=>exact r.elim
def zqb(K:qF):R2:=fun x y H Q=>∃a b xs ys,x=.ref a/\y=.ref b/\SqT K H a xs/\SqT K H b ys/\xs.length+ys.length<=sizeLine /\
 (xs=[]->Q (.ref b) H)/\(ys=[]->Q (.ref a) H)/\∀p,H p=none->Q (.ref p) (upd H p (.tup (xs++ys)))
theorem zom:OpR X (binaryOp .Add) (zqb X.K):=by
 intro pins s σ H x y v u Q I U N h;obtain⟨a,b,xs,ys,rfl,rfl,R,Y,hz,q0,Z,q2⟩:=h;by_cases hx:xs=[];cases U;cases N;obtain⟨its,r1,p1,_⟩:=I.tuple R;obtain⟨l,r2,p2,_⟩:=I.tuple Y;have hv:its=[]:=r1.nil_iff.mpr hx;obtain⟨⟨cls,dd,data,sl⟩,L,hc,n,hd⟩:=id p1;obtain⟨⟨S,G,data2,J⟩,o,C,n2,hd2⟩:=id p2;simp only at hc hd C hd2;subst hc hd C hd2;exact rF ⟨_,L,rfl⟩ ⟨_,o,rfl⟩ m6 pH iJ iC (hZ _ _)
  (tuple_addW0 a b its.toArray l.toArray n n2 dd G sl J (by simp[hv])) ⟨L,o,⟨.ref b,H,I,rfl,q0 hx⟩⟩
 exact zol pins s σ H _ _ v u Q I U N ⟨a,b,xs,ys,rfl,rfl,R,Y,hx,hz,Z,fun _=>q2⟩
def oAdd:G2
 | .int i,.int j,R=>R (.int (i+j))
 | .str i,.str j,R=>i.length+j.length<=16777216/\R (.str (i++j))
 | .tuple xs,.tuple ys,R=>xs.length+ys.length<=16777216/\R (.tuple (xs++ys))
 | _,_,_=>False
def zqc(K:qF):R2:=fun x y H Q=>(rI0 fun i j=>.int (i+j)) x y H Q\/(∃i j,x=.str i/\y=.str j/\i.length+j.length<=sizeLine/\Q (.str (i++j)) H)\/zqb K x y H Q
theorem zon:OpR X (binaryOp .Add) (zqc X.K):=OpR.or QA (OpR.or ziB zom)
theorem zrB:Gp2 X (zqc X.K) oAdd:=by intro hd O H x y t u Q R dom C v h o;unfold oAdd at h;split at h;exact .inl ⟨_,_,C.intI,v.intI,o _ _ H h (Same.refl H) (.int _)⟩;exact .inr (.inl ⟨_,_,C.strI,v.strI,h.1,o _ _ H h.2 (Same.refl H) (.str _)⟩);rename_i xs ys;obtain⟨p,vs,rfl,h1,I⟩:=C.tupI;obtain⟨q,N,rfl,L,J⟩:=v.tupI;refine .inr (.inr ⟨p,q,vs,N,rfl,rfl,h1,L,by rw[I.length,J.length];exact h.1,fun e=>?_,fun e=>?_,fun l G=>?_⟩);subst e;cases I;exact o _ _ H h.2 (Same.refl H) (v.rep (by intro _ z;cases z));subst e;cases J;exact o _ _ H h.2 (Same.refl H) (by rw[df];exact C.rep (by intro _ z;cases z));exact o _ _ _ h.2 (JB G) (.newT (fun z=>dom l z G) G (I.append J));exact h.elim
theorem Qc(o:DL X a da)(l:DL X b db):DE X (.BinOp a .Add b pos) (dOp oAdd da db):=Qz zon zrB o l
def dCat(da db:DTE):DTA:=fun o n R=>da o n fun x v=>db o v fun y u=>match x,y with|.list xs,.list ys=>xs.length+ys.length<=16777216/\R (xs++ys) u|_,_=>False
theorem Q5{K:qF}{C:Ctx}{H l:Hp}{G:Nat}{p:aj}(v:ExtE C.hd H l)(h1:Hn K C.hd l G)(u:l p=none):H p=none:=by
 cases z:H p with
 | none=>rfl
 | some o =>by_cases y:C.hd=some p;obtain⟨vs,q⟩:=h1.lst y;rw[u]at q;cases q;rw[v p o z y]at u;cases u
theorem zho{K:qF}{hd:Option aj}{O:aj->Prop}{H:Hp}{p:aj}{o:HO}{vs ts}(u:H p=none)(r:Reps K hd O H vs ts):Reps K hd (fun a=>O a\/a=p) (upd H p o) vs ts:=by refine r.mono (fun b o l z=>z.elim id fun z=>?_) fun b o _ l=>JB u b o l;subst z;rw[u]at l;cases l
theorem Y8(G:DL X a da)(I:DL X b db):DN X (.BinOp a .Add b pos) (dCat da db):=by obtain⟨ta,pa,G⟩:=G;obtain⟨tb,pb,I⟩:=I;refine⟨_,Jy zqE pa pb,fun C ρ σ H n Q R S h hq=>?_⟩;refine two G I S h fun x y Y v w H2 u e L U Z=>?_;split at u;obtain⟨p,vs,rfl,h1,J⟩:=U.lstI;obtain⟨q,ws,rfl,h3,N⟩:=Z.lstI;refine⟨p,q,vs,ws,rfl,rfl,h1,h3,by rw[J.length,N.length];exact u.1,fun l o=>?_⟩;exact hq _ Y l _ _ u.2 (e.trans (ExtE.new o)) (L.hnd.same (JB o)) (Q5 e L.hnd o) Jo (zho o (J.append N));exact u.elim
def oMul:=gI CMul fun i j=>i*j
theorem zk_(v:DL X a da)(o:DL X b db):DE X (.BinOp a .Mult b pos) (dOp oMul da db):=Qz QB gp_I v o
abbrev GD:=List ah->Nat->(ah->Nat->Prop)->Prop
def spD(K:qF)(m:Nat)(g:GD):Sp:=fun vs H Q _=>∃(hd:Option aj) (O:aj->Prop) (ts:qD) (n:Nat) (R:qN),Reps K hd O H vs ts/\Hn K hd H n/\(∀a,O a->MutO (H a))/\(∀a,hd=some a->O a)/\ts.length=m/\g ts n R /\
 ∀t l v H',R t l->ExtE hd H H'->Hn K hd H' l->Rep K hd O H' v t->Q v H'
def dFn(g:GD)(ds:DTA):DTE:=fun o n R=>ds o n fun ts l=>g ts l R
theorem zt0{st:eK}{ps:List Str}{f:aj}{fd:dz}{g:GD}{m:Nat}(D:Bd.Def X.K X.mg x st ps f fd)(G:FnOk X.prog X.w X.K X.mg X.base CX0 k f fd ps (spD X.K m g))(hr:Room k X.A)(h:DB X (e::es) ds)(hm:(e::es).length=m:=by rfl)(hg:Gl X x:=by rfl)
  (o:(x == ("__debug__":Str))=false:=by rfl):DE X (.Call (.Name x p) (e::es) [] pos) (dFn g ds):=by
 obtain⟨ta,pa,h⟩:=h;refine⟨_,Bd.zog D G hr pa hg o,fun C y σ H n Q R S hd hq=>?_⟩;refine h C y σ H n _ _ S hd fun ts n1 vs H1 r1 u h1 I Y=>?_;have Z:=S.on u h1;rw[df];exact⟨C.hd,Own C y σ,ts,n1,R,I,h1,fun a=>Z.lst,fun a z=>.inl (S.hx a z),Y.trans hm,r1,fun t n' v H' rt L U J=>hq t n' v H' rt (u.trans L) U J⟩
def dFnL(g:GD)(ds:DTA):DTE:=fun u n R=>ds u n fun ts o=>g ts o fun t l=>JO t=true/\R t l
theorem zrV{st:eK}{ps:List Str}{f:aj}{fd:dz}{g:GD}{m:Nat}(D:Bd.Def X.K X.mg x st ps f fd)(G:FnOk X.prog X.w X.K X.mg X.base CX0 k f fd ps (spD X.K m g))(hr:Room k X.A)(h:DBL X (e::es) ds)(hm:(e::es).length=m:=by rfl)(hg:Gl X x:=by rfl)
  (I:(x == ("__debug__":Str))=false:=by rfl):DE X (.Call (.Name x p) (e::es) [] pos) (dFnL g ds):=by
 obtain⟨ta,pa,h⟩:=h;refine⟨_,Bd.zog D G hr pa hg I,fun C ρ σ H n Q R S hd hq=>?_⟩;refine h C ρ σ H n _ _ S hd fun ts n1 vs Z r1 Y h1 q1 l1=>?_;have S1:=S.on Y h1;rw[df];have lend:∀{vs ts},UD X.K C.hd (Own C ρ σ) Z vs ts->Reps X.K C.hd (fun a=>C.hd=some a) Z vs ts:=by
  intro vs ts q;induction q with
  | nil=>exact .nil
  | cons r _ ih =>refine .cons ?_ ih;rcases r with r|⟨a,ws,us,rfl,rfl,y,J,u⟩|⟨a,zs,ep,ks,rfl,rfl,y,J,u⟩;exact r.mono (fun a o _ z=>.inl (S.hx a z)) fun _ _ _ z=>z;exact .lst y u (J.mono (fun a o _ z=>.inl (S.hx a z)) fun _ _ _ z=>z);exact .dcT y u (J.mono (fun a o _ z=>.inl (S.hx a z)) fun _ _ _ z=>z) rfl
 refine⟨C.hd,fun a=>C.hd=some a,ts,n1,_,lend q1,h1,fun a z=>?_,fun a z=>z,l1.trans hm,r1,fun t n' v H' rt L U q2=>?_⟩;obtain⟨vs,q⟩:=h1.lst z;exact .inl ⟨_,q⟩;exact hq t n' v H' rt.2 (Y.trans L) U (q2.up (fun a z=>(S1.on L U).lst z) rt.1)
end
section
variable{X:Cx}{pins:qO}{σ:St}{H H':Hp}{s s':aq}{C e:aj}
def Fly1(P:aJ)(w:a7)(l:List Env)(H H':Hp)(h:aW)(C e:aj)(h':aW):Prop :=
 ∃B u,Heap.FlyingW B l e (.ref C) u h'/\H' e=none/\h.get? e=none/\∀o,B.StaysIn o->h'.UpToSlots o->Un (frs l) [] H H' h o/\HOk P w H' o
inductive FlyX (X:Cx)(C:aj)(H':Hp)(e:aj)(s':aq):Prop
 | made {K5:qO} {σ':St} {s h1} (I:Inv X K5 σ' H' s) (m:Heap.MadeExcOf s.heap h1 e (.ref C) []) (hs:s'={ s with heap:=h1 })
 | on {K5:qO} {σ':St} {H1:Hp} {s} (I:Inv X K5 σ' H1 s) (os:s'.os=s.os) (bare:kZ s'.gens) (f:Fly1 X.prog X.w X.stack H1 H' s.heap C e s'.heap)
def XW(X:Cx)(C:aj)(H':Hp):Prop:=∀e s',FlyX X C H' e s'->X.xe (.ref e) s'
end
def Keep(C:Ctx)(u:En)(σ:St)(H:Hp)(l:En)(σ':St)(H':Hp):Prop:=∀a o,H a=some o->C.hd≠some a->¬OwnS u σ a->H' a=some o/\¬OwnS l σ' a
structure JL where
 nx:En->Nat->Prop
 rt:ah->Nat->Prop
 bk:En->Nat->Prop:=fun _ _=>False
 ct:En->Nat->Prop:=fun _ _=>False
 xr:Str->Nat->Prop:=fun _ _=>False
abbrev DTS:=JL->En->Nat->Prop
def XN(X:Cx)(c:Str)(H':Hp):Prop:=∀C,X.mg c=some (.ref C)->XW X C H'
structure Good(X:Cx)(C:Ctx)(ρ:En)(σ:St)(H:Hp)(D:Ends)(D':JL):Prop where
 nx:∀ρ' σ' H' n',D'.nx ρ' n'->Stt X.K C ρ' σ' H' n'->Keep C ρ σ H ρ' σ' H'->D.nx σ' H'
 rt:∀t n' v H',D'.rt t n'->Hn X.K C.hd H' n'->(∀a o,H a=some o->C.hd≠some a->¬OwnS ρ σ a->H' a=some o)->Rep X.K C.hd C.ext H' v t->D.rt v H'
 bk:∀ρ' σ' H' n',D'.bk ρ' n'->Stt X.K C ρ' σ' H' n'->Keep C ρ σ H ρ' σ' H'->D.bk σ' H'
 ct:∀ρ' σ' H' n',D'.ct ρ' n'->Stt X.K C ρ' σ' H' n'->Keep C ρ σ H ρ' σ' H'->D.ct σ' H'
 xr:∀c n' H',D'.xr c n'->Hn X.K C.hd H' n'->(∀a o,H a=some o->C.hd≠some a->¬OwnS ρ σ a->H' a=some o)->XN X c H'
def DS(X:Cx)(st:eK)(d:DTS):Prop:=∃ts,PS X st ts/\∀(C:Ctx) (l:En) (σ:St) (H:Hp) (n:Nat) (D:Ends) (o:JL),Stt X.K C l σ H n->d o l n->Good X C l σ H D o->ts D σ H
def DSs(X:Cx)(st:List eK)(d:DTS):Prop:=∃ts,PSs X st ts/\∀(C:Ctx) (l:En) (σ:St) (H:Hp) (n:Nat) (D:Ends) (o:JL),Stt X.K C l σ H n->d o l n->Good X C l σ H D o->ts D σ H
section
variable{K:qF}{C:Ctx}{ρ ρ1 ρ2:En}{σ σ1 σ2:St}{H H1 H2:Hp}{n n1:Nat}{D:Ends}{D':JL}
theorem Keep.refl:Keep C ρ σ H ρ σ H:=fun _ _ h _ no=>⟨h,no⟩
theorem Keep.trans(v:Keep C ρ σ H ρ1 σ1 H1)(x:Keep C ρ1 σ1 H1 ρ2 σ2 H2):Keep C ρ σ H ρ2 σ2 H2:=fun a o h u no=>by obtain⟨h1,l⟩:=v a o h u no;exact x a o h1 u l
theorem ExtE.keep(e:ExtE C.hd H H1):Keep C ρ σ H ρ σ H1:=fun a o h l no=>⟨e a o h l,no⟩
theorem Good.on{X:Cx}(g:Good X C ρ σ H D D')(k:Keep C ρ σ H ρ1 σ1 H1):Good X C ρ1 σ1 H1 D D' where
 nx:=fun l σ' H' u h S x=>g.nx l σ' H' u h S (k.trans x)
 rt:=fun t u v H' h J x r=>g.rt t u v H' h J (fun a o I G no=>by obtain⟨h1,y⟩:=k a o I G no;exact x a o h1 G y) r
 bk:=fun l σ' H' u h S x=>g.bk l σ' H' u h S (k.trans x)
 ct:=fun l σ' H' u h S x=>g.ct l σ' H' u h S (k.trans x)
 xr:=fun c u H' h J x=>g.xr c u H' h J fun a o I G no=>by obtain⟨h1,y⟩:=k a o I G no;exact x a o h1 G y
theorem Keep.rep(k:Keep C ρ σ H ρ1 σ1 H1)(hx:∀a,C.hd=some a->C.ext a){v t}(r:Rep K C.hd (Own C ρ σ) H v t):Rep K C.hd (Own C ρ1 σ1) H1 v t :=
 Rep.mono (O:=Own C ρ σ) (fun a o h z=>by by_cases q:Own C ρ σ a;exact q;rcases z with z|z;exact .inl z;exact absurd z (k a o h (fun y=>q (.inl (hx a y))) fun y=>q (.inr y)).2) (fun a o no h=>(k a o h (fun y=>no (.inl (hx a y))) fun y=>no (.inr y)).1) r
theorem Keep.reps(k:Keep C ρ σ H ρ1 σ1 H1)(hx:∀a,C.hd=some a->C.ext a){v t}(r:Reps K C.hd (Own C ρ σ) H v t):Reps K C.hd (Own C ρ1 σ1) H1 v t :=
 Reps.mono (O:=Own C ρ σ) (fun a o h z=>by by_cases q:Own C ρ σ a;exact q;rcases z with z|z;exact .inl z;exact absurd z (k a o h (fun y=>q (.inl (hx a y))) fun y=>q (.inr y)).2) (fun a o no h=>(k a o h (fun y=>no (.inl (hx a y))) fun y=>no (.inr y)).1) r
theorem Jq{α:Type}{l:List (Option α)}{i j:Nat}{v w:α}(h:(l.set i (some v))[j]?=some (some w)):(i=j/\v=w)\/(i≠j/\l[j]?=some (some w)):=by by_cases e:i=j;subst e;rw[mJ]at h;simp only[↓reduceIte]at h;split at h;simp at h;exact .inl ⟨rfl,h⟩;cases h;rw[dP e]at h;exact .inr ⟨e,h⟩
theorem Um{α:Type}{l:List (Option α)}{i j:Nat}{v w:α}(e:i≠j)(h:l[j]?=some (some w)):(l.set i (some v))[j]?=some (some w):=by rw[dP e];exact h
theorem zm9{α:Type}{l:List (Option α)}{i j:Nat}{v:α}{w:Option α}(h:(l.set i (some v))[j]?=some w)(e:i=j):i<l.length:=by subst e;rw[mJ]at h;simp only[↓reduceIte]at h;split at h;assumption;cases h
theorem zjH{α:Type}{l:List (Option α)}{i:Nat}{v:α}(h:i<l.length):(l.set i (some v))[i]?=some (some v):=by rw[mJ];simp[h]
theorem ZG{i:Nat}{t:ah}{v:V}{a:aj}(h:OwnS (ρ.set i (some (.val t))) (σ.set i (some v)) a):OwnS ρ σ a:=by obtain⟨j,c,m,h1,o⟩:=h;rcases Jq h1 with⟨_,z⟩|⟨e,h1⟩;subst z;cases m;rcases Jq o with⟨z,_⟩|⟨_,o⟩;exact absurd z e;exact⟨j,c,m,h1,o⟩
def Qq(K:qF)(hd:Option aj)(O:aj->Prop)(H:Hp)(a:aj):Cell->Prop
 | .val _=>False
 | .rdo _=>False
 | .own ts=>∃vs,H a=some (.lst vs)/\Reps K hd O H vs ts
 | .dct x=>∃u,H a=some (.dK u)/\QV K hd O H u x
 | .dtt x=>∃zs ep,H a=some (ZDO a zs ep)/\Jj K hd O H zs x
theorem Qq.mono(x:Qq K hd O H a c)(u:∀a o,H a=some o->O' a->O a)(v:∀a o,¬O a->H a=some o->H' a=some o)(y:∀o,H a=some o->H' a=some o):Qq K hd O' H' a c:=by
 cases c with
 | val _=>exact x.elim
 | rdo _=>exact x.elim
 | own ts=>obtain⟨vs,h1,l⟩:=x;exact⟨vs,y _ h1,l.mono u v⟩
 | dct G=>obtain⟨vs,h1,l⟩:=x;exact⟨vs,y _ h1,l.mono u v⟩
 | dtt G=>obtain⟨vs,ep,h1,l⟩:=x;exact⟨vs,ep,y _ h1,l.mono u v⟩
theorem Qq.some(x:Qq K hd O H a c):∃o,H a=some o:=by
 cases c with
 | val _=>exact x.elim
 | rdo _=>exact x.elim
 | own ts=>obtain⟨vs,h1,l⟩:=x;exact⟨_,h1⟩
 | dct u=>obtain⟨vs,h1,l⟩:=x;exact⟨_,h1⟩
 | dtt u=>obtain⟨vs,ep,h1,l⟩:=x;exact⟨_,h1⟩
theorem Qq.mine(x:Qq K hd O H a c):c.mine=true:=by
 cases c with
 | val _=>exact x.elim
 | rdo _=>exact x.elim
 | own ts=>rfl
 | dct l=>rfl
 | dtt l=>rfl
theorem Stt.cell(S:Stt K C ρ σ H n){i:Nat}{c:Cell}(m:c.mine=true)(h:ρ[i]?=some (some c)):∃a:aj,σ[i]?=some (some (V.ref a))/\Qq K C.hd (Own C ρ σ) H a c/\¬C.ext a:=by
 cases c with
 | val _=>cases m
 | rdo _=>cases m
 | own ts=>obtain⟨a,vs,h1,o,l,u⟩:=S.own i ts h;exact⟨a,h1,⟨vs,o,l⟩,u⟩
 | dct v=>obtain⟨a,vs,h1,o,l,u⟩:=S.dct i v h;exact⟨a,h1,⟨vs,o,l⟩,u⟩
 | dtt v=>obtain⟨a,vs,ep,h1,o,l,u⟩:=S.dtt i v h;exact⟨a,h1,⟨vs,ep,o,l⟩,u⟩
def zpr(K:qF)(C:Ctx)(ρ:En)(σ:St)(H:Hp):Prop:=∀(i:Nat) (o:List (Key×ah)),ρ[i]?=some (some (Cell.rdo o))->∃a l,σ[i]?=some (some (V.ref a))/\H a=some (.dK l)/\QV K C.hd (Own C ρ σ) H l o/\C.ext a/\C.hd≠some a
theorem Stt.mk'(len:ρ.length=σ.length)(val:∀(i:Nat) (d:ah),ρ[i]?=some (some (Cell.val d))->∃v,σ[i]?=some (some v)/\Rep K C.hd (Own C ρ σ) H v d)
  (cell:∀(i:Nat) (c:Cell),c.mine=true->ρ[i]?=some (some c)->∃a:aj,σ[i]?=some (some (V.ref a))/\Qq K C.hd (Own C ρ σ) H a c/\¬C.ext a)
  (rdo:zpr K C ρ σ H) (dif:∀(i j:Nat) (c e:Cell) (a:aj),c.mine=true->e.mine=true->ρ[i]?=some (some c)->ρ[j]?=some (some e)->σ[i]?=some (some (V.ref a))->σ[j]?=some (some (V.ref a))->i=j)
  (hnd:Hn K C.hd H n) (ext:∀a,C.ext a->MutO (H a)) (hx:∀a,C.hd=some a->C.ext a):Stt K C ρ σ H n where
 len:=len
 val:=val
 own:=fun i ts h=>by obtain⟨a,h1,⟨vs,o,l⟩,u⟩:=cell i _ rfl h;exact⟨a,vs,h1,o,l,u⟩
 dct:=fun i ts h=>by obtain⟨a,h1,⟨vs,o,l⟩,u⟩:=cell i _ rfl h;exact⟨a,vs,h1,o,l,u⟩
 rdo:=rdo
 dtt:=fun i ts h=>by obtain⟨a,h1,⟨vs,ep,o,l⟩,u⟩:=cell i _ rfl h;exact⟨a,vs,ep,h1,o,l,u⟩
 dif:=dif
 hnd:=hnd
 ext:=ext
 hx:=hx
theorem Stt.put(S:Stt K C ρ σ H n){i:Nat}{t:ah}{v:V}(r:Rep K C.hd (Own C ρ σ) H v t):Stt K C (ρ.set i (some (.val t))) (σ.set i (some v)) H n:=by
 have sub:∀a o,H a=some o->Own C (ρ.set i (some (.val t))) (σ.set i (some v)) a->Own C ρ σ a:=fun a o _ z=>z.elim .inl fun z=>.inr (ZG z);have mono:∀{w u},Rep K C.hd (Own C ρ σ) H w u->Rep K C.hd (Own C (ρ.set i (some (.val t))) (σ.set i (some v))) H w u:=fun q=>q.mono sub fun _ _ _ z=>z;refine .mk' (by simp[S.len]) (fun j d h=>?_) (fun j c m h=>?_) (fun j Y h=>?_) (fun j k c e a m1 m2 h1 x I h4=>?_) S.hnd S.ext S.hx
 rotate_left 2
 rcases Jq h with⟨_,z⟩|⟨e,h'⟩;cases z;obtain⟨a,J,U,Z,q3,q4⟩:=S.rdo j Y h';exact⟨a,J,Um e U,Z,q3.mono sub fun _ _ _ z=>z,q4⟩
 rotate_left 1
 rcases Jq h with⟨e,z⟩|⟨e,h'⟩;cases z;have:=zm9 h e;subst e;exact⟨v,zjH (by rw[<- S.len];exact this),mono r⟩;obtain⟨w,h1,x⟩:=S.val j d h';exact⟨w,Um e h1,mono x⟩;rcases Jq h with⟨e,z⟩|⟨e,h'⟩;subst z;cases m;obtain⟨a,h1,x,I⟩:=S.cell m h';exact⟨a,Um e h1,x.mono sub (fun _ _ _ z=>z) fun _ z=>z,I⟩;rcases Jq h1 with⟨e,z⟩|⟨e,y⟩;subst z;cases m1;rcases Jq x with⟨R,z⟩|⟨R,L⟩;subst z;cases m2;rcases Jq I with⟨z,_⟩|⟨_,N⟩;exact absurd z e;rcases Jq h4 with⟨z,_⟩|⟨_,G⟩;exact absurd z R;exact S.dif j k c _ a m1 m2 y L N G
theorem UA:Keep C ρ σ H (ρ.set i (some (.val t))) (σ.set i (some v)) H:=fun a o h _ no=>⟨h,fun z=>no (ZG z)⟩
theorem zhx{i:Nat}{c:Cell}{p a:aj}(h:OwnS (ρ.set i (some c)) (σ.set i (some (.ref p))) a):OwnS ρ σ a\/a=p:=by obtain⟨j,ds,m,h1,o⟩:=h;rcases Jq o with⟨e,z⟩|⟨e,o⟩;cases z;exact .inr rfl;rcases Jq h1 with⟨z,_⟩|⟨_,h1⟩;exact absurd z e;exact .inl ⟨j,ds,m,h1,o⟩
theorem Stt.putNew(S:Stt K C ρ σ H n){i:Nat}{c:Cell}{p:aj}{H':Hp}(e:ExtE C.hd H H')(h:Hn K C.hd H' n1)(Y:H p=none)(r:Qq K C.hd (fun a=>Own C ρ σ a\/a=p) H' p c) :
  Stt K C (ρ.set i (some c)) (σ.set i (some (.ref p))) H' n1:=by
 have S':=S.on e h;have mc:=r.mine;have sub:∀a,Own C (ρ.set i (some c)) (σ.set i (some (.ref p))) a->Own C ρ σ a\/a=p:=fun a z=>z.elim (fun z=>.inl (.inl z)) fun z=>(zhx z).elim (fun z=>.inl (.inr z)) .inr;have npx:¬C.ext p:=fun z=>S.dom (.inl z) Y;have sb:∀a o,H a=some o->Own C (ρ.set i (some c)) (σ.set i (some (.ref p))) a->Own C ρ σ a:=fun a o I z=>(sub a z).elim id fun z=>by subst z;rw[Y]at I;cases I
 have kp:∀a o,¬Own C ρ σ a->H a=some o->H' a=some o:=fun a o no I=>e a o I fun z=>no (.inl (S.hx a z));have L4:∀(j:Nat) (d:Cell),d.mine=true->ρ[j]?=some (some d)->σ[j]?≠some (some (V.ref p)):=fun j d m h1 v=>by obtain⟨a,e1,U,_⟩:=S.cell m h1;rw[v]at e1;cases e1;obtain⟨o,U⟩:=U.some;rw[Y]at U;cases U
 refine .mk' (by simp[S.len]) (fun j d G=>?_) (fun j d m G=>?_) (fun j ks G=>?_) (fun j k c1 c2 a m1 m2 h1 v h3 R=>?_) h S'.ext S.hx
 rotate_left 2
 rcases Jq G with⟨_,z⟩|⟨u,h'⟩;subst z;cases mc;obtain⟨a,Z,q1,q2,q3,q4,q5⟩:=S.rdo j ks h';exact⟨a,Z,Um u q1,e a _ q2 q5,q3.mono sb kp,q4,q5⟩
 rotate_left 1
 rcases Jq G with⟨_,z⟩|⟨u,h'⟩;subst z;cases mc;obtain⟨w,h1,v⟩:=S.val j d h';exact⟨w,Um u h1,v.mono sb kp⟩;rcases Jq G with⟨u,z⟩|⟨u,h'⟩;subst z;have:=zm9 G u;subst u;exact⟨p,zjH (by rw[<- S.len];exact this),r.mono (fun a o _ z=>sub a z) (fun _ _ _ z=>z) fun _ z=>z,npx⟩;obtain⟨a,h1,v,R⟩:=S.cell m h';exact⟨a,Um u h1,v.mono sb kp (fun o I=>e a o I fun z=>R (S.hx a z)),R⟩;rcases Jq h3 with⟨e3,z3⟩|⟨e3,N⟩;cases z3;rcases Jq R with⟨J,_⟩|⟨J,x⟩;rw[<- e3,<- J];rcases Jq v with⟨z,_⟩|⟨_,y⟩;exact absurd z J;exact absurd x (L4 k _ m2 y);rcases Jq h1 with⟨z,_⟩|⟨_,L⟩;exact absurd z e3;rcases Jq R with⟨J,z4⟩|⟨J,x⟩;cases z4;exact absurd N (L4 j _ m1 L);rcases Jq v with⟨z,_⟩|⟨_,y⟩;exact absurd z J;exact S.dif j k _ _ a m1 m2 L y N x
theorem Stt.putOwn(S:Stt K C ρ σ H n)(e:ExtE C.hd H H')(h:Hn K C.hd H' n1)(v:H p=none)(u:H' p=some (.lst vs))(r:Reps K C.hd (fun a=>Own C ρ σ a\/a=p) H' vs ts) :
  Stt K C (ρ.set i (some (.own ts))) (σ.set i (some (.ref p))) H' n1:=S.putNew e h v ⟨vs,u,r⟩
theorem zdM(e:ExtE C.hd H H')(v:H p=none):Keep C ρ σ H (ρ.set i (some c)) (σ.set i (some (.ref p))) H':=fun a o h u no =>
 ⟨e a o h u,fun z=>(zhx z).elim no fun z=>by subst z;rw[v]at h;cases h⟩
theorem zcb(e:ExtE C.hd H H')(l:H p=none):Keep C ρ σ H (ρ.set i (some (.own ts))) (σ.set i (some (.ref p))) H':=zdM e l
theorem Stt.chgC(S:Stt K C ρ σ H n){i:Nat}{c c':Cell}{p:aj}{R:HO}(m:c.mine=true)(m':c'.mine=true)(h1:ρ[i]?=some (some c))(N:σ[i]?=some (some (.ref p)))
  (r:∀(O':aj->Prop) (H':Hp),(∀a o,H a=some o->O' a->Own C ρ σ a)->(∀a o,¬Own C ρ σ a->H a=some o->H' a=some o)->H' p=some R->Qq K C.hd O' H' p c') :
  Stt K C (ρ.set i (some c')) σ (upd H p R) n/\Keep C ρ σ H (ρ.set i (some c')) σ (upd H p R):=by
 have op:OwnS ρ σ p:=⟨i,c,m,h1,N⟩;obtain⟨p',e1,hp,x⟩:=S.cell m h1;rw[N]at e1;cases e1;have LL:∀a,OwnS (ρ.set i (some c')) σ a->OwnS ρ σ a:=fun a ⟨j,d,G,u,v⟩=>by rcases Jq u with⟨e,_⟩|⟨e,u⟩;subst e;rw[N]at v;cases v;exact op;exact⟨j,d,G,u,v⟩
 have sub:∀a o,H a=some o->Own C (ρ.set i (some c')) σ a->Own C ρ σ a:=fun a o _ z=>z.elim .inl fun z=>.inr (LL a z);have kp:∀a o,¬Own C ρ σ a->H a=some o->upd H p R a=some o:=fun a o no U=>by rw[Jc (show a≠p from fun z=>no (by rw[z];exact .inr op))];exact U
 have rd:zpr K C (ρ.set i (some c')) σ (upd H p R):=fun j ks I=>by rcases Jq I with⟨_,z⟩|⟨J,h'⟩;subst z;cases m';obtain⟨a,Z,u,v,q3,y,q5⟩:=S.rdo j ks h';exact⟨a,Z,u,by rw[Jc (show a≠p from fun z=>x (by rw[<- z];exact y))];exact v,q3.mono sub kp,y,q5⟩
 refine⟨.mk' (by simp[S.len]) (fun j d I=>?_) (fun j d G I=>?_) rd (fun j k c1 c2 a m1 m2 u v q3 y=>?_) (fun a L=>?_) (fun a L=>?_) S.hx,fun a o h nh no=>⟨by rw[Jc (show a≠p from fun z=>no (by rw[z];exact op))];exact h,fun z=>no (LL a z)⟩⟩;rcases Jq I with⟨_,z⟩|⟨J,h'⟩;subst z;cases m';obtain⟨w,u,v⟩:=S.val j d h';exact⟨w,u,v.mono sub kp⟩;rcases Jq I with⟨J,z⟩|⟨J,h'⟩;subst z;subst J;exact⟨p,N,r _ _ sub kp Jo,x⟩;obtain⟨a,u,v,y⟩:=S.cell G h';have:a≠p:=fun z=>by subst z;exact J (S.dif i j c d a m G h1 h' N u)
 exact⟨a,u,v.mono sub kp (fun o U=>by rw[Jc this];exact U),y⟩;have get:∀(j:Nat) (d:Cell),d.mine=true->(ρ.set i (some c'))[j]?=some (some d)->∃d':Cell,d'.mine=true/\ρ[j]?=some (some d'):=fun j d G q=>by rcases Jq q with⟨e,_⟩|⟨_,q⟩;subst e;exact⟨_,m,h1⟩;exact⟨_,G,q⟩
 obtain⟨d1,Y,g1⟩:=get j c1 m1 u;obtain⟨d2,md2,g2⟩:=get k c2 m2 v;exact S.dif j k d1 d2 a Y md2 g1 g2 q3 y;have ne:a≠p:=fun z=>x (by rw[<- z];exact S.hx a L);rcases S.hnd a L with⟨⟨d,m,t,q,rest⟩,l⟩|⟨l,q⟩;exact .inl ⟨⟨d,m,t,by rw[Jc ne];exact q,rest⟩,l⟩;exact .inr ⟨l,q.upd ne (S.lst (.inr op))⟩;by_cases z:a=p;subst z;exact absurd L x;rw[Jc z];exact S.ext a L
theorem Stt.chg(S:Stt K C ρ σ H n)(h1:ρ[i]?=some (some (.own ts)))(u:σ[i]?=some (some (.ref p)))(r:Reps K C.hd (Own C ρ σ) H ws us) :
  Stt K C (ρ.set i (some (.own us))) σ (upd H p (.lst ws)) n/\Keep C ρ σ H (ρ.set i (some (.own us))) σ (upd H p (.lst ws)):=S.chgC rfl rfl h1 u fun _ _ a b v=>⟨ws,v,r.mono a b⟩
theorem Stt.freeze(S:Stt K C ρ σ H n){i:Nat}{ts:qD}(h1:ρ[i]?=some (some (.own ts))):Stt K C (ρ.set i (some (.val (.list ts)))) σ H n/\Keep C ρ σ H (ρ.set i (some (.val (.list ts)))) σ H:=by
 obtain⟨p,vs,U,Z,hr,R⟩:=S.own i ts h1;have L:∀a,OwnS (ρ.set i (some (.val (.list ts)))) σ a->OwnS ρ σ a/\a≠p:=fun a ⟨j,ds,m,u,x⟩=>by rcases Jq u with⟨_,z⟩|⟨e,u⟩;subst z;cases m;exact⟨⟨j,ds,m,u,x⟩,fun z=>by subst z;exact e (S.dif i j (.own ts) ds a rfl m h1 u U x)⟩
 have sub:∀a o,H a=some o->Own C (ρ.set i (some (.val (.list ts)))) σ a->Own C ρ σ a:=fun a o _ z=>z.elim .inl fun z=>.inr (L a z).1;have rd:zpr K C (ρ.set i (some (.val (.list ts)))) σ H:=fun j Y y=>by rcases Jq y with⟨_,z⟩|⟨J,h'⟩;cases z;obtain⟨a,N,u,x,I,G⟩:=S.rdo j Y h';exact⟨a,N,u,x,I.mono sub fun _ _ _ z=>z,G⟩
 refine⟨.mk' (by simp[S.len]) (fun j d y=>?_) (fun j d m y=>?_) rd (fun j k c1 c2 a m1 m2 u x I G=>?_) S.hnd S.ext S.hx,fun a o h _ no=>⟨h,fun z=>no (L a z).1⟩⟩;rcases Jq y with⟨J,z⟩|⟨J,h'⟩;cases z;subst J;exact⟨.ref p,U,.lst Z (fun z=>z.elim R fun z=>(L p z).2 rfl) (hr.mono sub fun _ _ _ z=>z)⟩;obtain⟨w,u,x⟩:=S.val j d h';exact⟨w,u,x.mono sub fun _ _ _ z=>z⟩;rcases Jq y with⟨_,z⟩|⟨J,h'⟩;subst z;cases m;obtain⟨a,u,I,G⟩:=S.cell m h';exact⟨a,u,I.mono sub (fun _ _ _ z=>z) fun _ z=>z,G⟩;rcases Jq u with⟨_,z⟩|⟨_,g1⟩;subst z;cases m1;rcases Jq x with⟨_,z⟩|⟨_,g2⟩;subst z;cases m2;exact S.dif j k _ _ a m1 m2 g1 g2 I G
end
section
variable{X:Cx}{a b c e:bg}{es rest:List bg}{d da db dc:DTE}{ds:DTA}{dt:DTT}{t u:DTS}{st:eK}{sts sa sb:List eK}{pos p:Pos}{k:Nat}{x:Str}
def znT:DTS:=fun D l n=>D.nx l n
def sSeq(t u:DTS):DTS:=fun D l n=>t { D with nx:=u D } l n
theorem JZ:DSs X [] znT:=⟨_,zgy,fun C l σ H n D o S h g=>g.nx l σ H n h S Keep.refl⟩
theorem Je(h1:DS X st t)(l:DSs X sts u):DSs X (st::sts) (sSeq t u):=by obtain⟨N,pa,h1⟩:=h1;obtain⟨R,y,l⟩:=l;refine⟨_,Qj pa y,fun C L σ H n D v S h g=>?_⟩;exact h1 C L σ H n _ _ S h ⟨fun o σ' H' I J G k=>l C o σ' H' I D v G J (g.on k),g.rt,g.bk,g.ct,g.xr⟩
theorem Jd(h1:DS X st t):DSs X [st] t:=by obtain⟨l,pa,h1⟩:=h1;exact⟨_,U4 pa,h1⟩
def U6(i:Nat)(t:DTS):DTS:=fun D y n=>match y[i]? with|some (some (.own ts))=>t D (y.set i (some (.val (.list ts)))) n|_=>False
theorem Yi(i:Nat)(h1:DSs X sts t):DSs X sts (U6 i t):=by obtain⟨y,pa,h1⟩:=h1;refine⟨_,pa,fun C G σ H n D l S h g=>?_⟩;unfold U6 at h;split at h;rename_i ts o;obtain⟨v,kp⟩:=S.freeze o;exact h1 C _ σ H n D l v h (g.on kp);exact h.elim
def sRet(d:DTE):DTS:=fun D o n=>d o n fun t l=>D.rt t l
theorem Jn(h:DE X e d):DS X (.Return (some e) pos) (sRet d):=by obtain⟨U,pa,h⟩:=h;refine⟨_,YM pa,fun C L σ H n D N S hd g=>?_⟩;refine h C L σ H n _ _ S hd fun t I v H' r J h1 q=>?_;exact g.rt t I v H' r h1 (fun a o G y _=>J a o G y) (q.mono (fun _ _ _ z=>.inl z) fun _ _ _ z=>z)
def sIf(c:DTT)(t u:DTS):DTS:=fun D l n=>c l n fun b o=>if b=true then t D l o else u D l o
theorem JQ(hc:DT X c dt)(h1:DSs X sa t)(o:DSs X sb u):DS X (.If c sa sb pos) (sIf dt t u):=by
 obtain⟨R,pc,hc⟩:=hc;obtain⟨U,pa,h1⟩:=h1;obtain⟨Y,N,o⟩:=o;refine⟨_,zn5 pc pa N,fun C v σ H n D y S hd g=>?_⟩;refine hc C v σ H n _ _ S hd fun b J G r l L=>?_;cases b with
 | true=>exact iteT (h1 C v σ G J D y (S.on l L) (by simpa using r) (g.on l.keep))
 | false=>exact iteF (o C v σ G J D y (S.on l L) (by simpa using r) (g.on l.keep))
def sSet(i:Nat)(d:DTE):DTS:=fun D o n=>d o n fun t y=>D.nx (o.set i (some (.val t))) y
theorem zrN(I:X.N.Nodup)(hi:X.N[i]?=some x)(hx:Loc X.env.scope x)(h:DE X e d)(G:swapsWith e (some (.Name x pos')) pos.line X.env=pure false:=by rfl)(hf:X.fn x=true\/X.env.scope.names.lookup x=some .local:=by walk_at "F") :
  DS X (.Assign [.Name x pos'] e pos) (sSet i d):=by
 obtain⟨U,pa,h⟩:=h;refine⟨_,Qs I hi hx pa G hf,fun C L σ H n D R S hd g=>?_⟩;refine h C L σ H n _ _ S hd fun t J v H' r y h1 q=>?_;exact g.nx _ _ H' J r ((S.on y h1).put q) (y.keep.trans UA)
def sOwn(i:Nat)(d:DTA):DTS:=fun D l n=>d l n fun ts v=>D.nx (l.set i (some (.own ts))) v
theorem Y9(J:X.N.Nodup)(hi:X.N[i]?=some x)(hx:Loc X.env.scope x)(h:DN X e ds)(I:swapsWith e (some (.Name x pos')) pos.line X.env=pure false:=by rfl)(hf:X.fn x=true\/X.env.scope.names.lookup x=some .local:=by walk_at "F") :
  DS X (.Assign [.Name x pos'] e pos) (sOwn i ds):=by
 obtain⟨Y,pa,h⟩:=h;refine⟨_,Qs J hi hx pa I hf,fun C R σ H n D U S hd g=>?_⟩;refine h C R σ H n _ _ S hd fun ts L p vs H' r G h1 y v q=>?_;exact g.nx _ _ H' L r (S.putOwn G h1 y v q) (zcb G y)
abbrev DTG:=ah->En->(En->Prop)->Prop
abbrev DTGs:=List ah->En->(En->Prop)->Prop
def DG(X:Cx)(y:bg)(is:List Nat)(d:DTG):Prop:=(∀t o R,d t o R->∃l,R l)/\∃g,PG X y g/\∀(C:Ctx) (o:En) (σ:St) (H:Hp) (n:Nat) (v:V) (t:ah) (Q:St->Hp->Prop) (R:En->Prop),Stt X.K C o σ H n->Rep X.K C.hd (Own C o σ) H v t->d t o R ->
 (∀l σ',R l->Stt X.K C l σ' H n->Keep C o σ H l σ' H->(∀j,j∉is->σ'[j]?=σ[j]?)->σ'.length=σ.length->Q σ' H)->g v σ H Q
def DGs(X:Cx)(v:List bg)(is:List Nat)(d:DTGs):Prop:=(∀ts o R,d ts o R->ts.length=v.length)/\(∀t o R,d t o R->∃l,R l)/\∃g,PGs X v g/\∀(C:Ctx) (o:En) (σ:St) (H:Hp) (n:Nat) (vs:List V) (ts:qD) (Q:St->Hp->Prop) (R:En->Prop),Stt X.K C o σ H n->Reps X.K C.hd (Own C o σ) H vs ts->d ts o R ->
 (∀l σ',R l->Stt X.K C l σ' H n->Keep C o σ H l σ' H->(∀j,j∉is->σ'[j]?=σ[j]?)->σ'.length=σ.length->Q σ' H)->g vs σ H Q
def Qf(i:Nat):DTG:=fun t o R=>R (o.set i (some (.val t)))
def Ue:DTGs:=fun ts l R=>match ts with|[]=>R l|_=>False
def QC(d:DTG)(ds:DTGs):DTGs:=fun ts o R=>match ts with|t::ts=>d t o fun l=>ds ts l R|[]=>False
def Uf(ds:DTGs):DTG:=fun t o R=>match t with|.tuple ts=>ds ts o R|_=>False
theorem zo7(G:X.N.Nodup)(hi:X.N[i]?=some x)(hx:Loc X.env.scope x)(hf:X.fn x=true\/X.env.scope.names.lookup x=some .local:=by walk_at "F"):DG X (.Name x pos) [i] (Qf i):=by refine⟨fun t J R h=>⟨_,h⟩,_,zoc G hi hx hf,fun C J σ H n v t Q R S r hd I=>?_⟩;exact I _ _ hd (S.put r) UA (fun j y=>by rw[dP (fun z=>y (by simp[z]))]) (by simp)
theorem JY:DGs X [] [] Ue:=by
 refine⟨fun ts l R h=>?_,fun ts l R h=>?_,_,zob,fun C l σ H n vs ts Q R S r hd o=>?_⟩;cases ts with
 | nil=>rfl
 | cons _ _=>exact h.elim
 cases ts with
 | nil=>exact⟨_,h⟩
 | cons _ _=>exact h.elim
 cases r with
 | nil=>exact⟨rfl,o _ _ hd S Keep.refl (fun _ _=>rfl) rfl⟩
 | cons _ _=>exact hd.elim
theorem Jt(h1:DG X e is g)(I:DGs X es js gs)(hs:(assignEach (e::es) X.env).map (·.2)=assign e X.env::(assignEach es X.env).map (·.2):=by rfl):DGs X (e::es) (is++js) (QC g gs):=by
 obtain⟨Y,ga,pa,h1⟩:=h1;obtain⟨l2,w2,gb,pb,I⟩:=I;refine⟨fun ts v R h=>?_,fun ts v R h=>?_,_,zma pa pb hs,fun C v σ H n vs ts Q R S r hd hq=>?_⟩;cases ts with
 | nil=>exact h.elim
 | cons t ts =>obtain⟨l,h'⟩:=Y t v _ h;simp[l2 ts l R h']
 cases ts with
 | nil=>exact h.elim
 | cons t ts =>obtain⟨l,h'⟩:=Y t v _ h;exact w2 ts l R h'
 cases r with
 | nil=>exact hd.elim
 | cons r rs =>refine⟨_,_,rfl,h1 C v σ H n _ _ _ _ S r hd fun l σ' hr S' kp Z hl=>?_⟩;refine I C l σ' H n _ _ _ _ S' (kp.reps S.hx rs) hr fun N G y S2 U L J=>?_;exact hq N G y S2 (kp.trans U) (fun j o=>by rw[L j (fun z=>o (by simp[z])),Z j (fun z=>o (by simp[z]))]) (J.trans hl)
theorem J5(hc:X.calm=true)(h:DGs X es is gs)(L:(assignEach es X.env).length=es.length:=by rfl)(y:(assignEach es X.env).findIdx? (·.1)=none:=by rfl):DG X (.Tuple es k pos) is (Uf gs):=by
 obtain⟨l,w,g,pg,h⟩:=h;refine⟨fun t o R h=>?_,_,znd hc pg L y,fun C o σ H n v t Q R S r hd J=>?_⟩;cases t with
 | tuple ts=>exact w ts o R h
 | _=>exact h.elim
 cases t with
 | tuple ts =>obtain⟨p,vs,rfl,h1,G⟩:=r.tupI;exact⟨p,vs,rfl,h1,by rw[G.length];exact l ts o R hd,h C o σ H n vs ts Q R S G hd J⟩
 | _=>exact hd.elim
def sAsg(d:DTE)(g:DTG):DTS:=fun D o n=>d o n fun t v=>g t o fun l=>D.nx l v
theorem znw(h:DE X e d)(l:DG X tg is g)(J:swapsWithSole [tg] e pos.line X.env=pure false:=by rfl)(hw:swappedStores [tg] e X.env=pure none:=by rfl)
  (h1:(assignEach [tg] X.env).map (·.2)=[assign tg X.env]:=by rfl):DS X (.Assign [tg] e pos) (sAsg d g):=by
 obtain⟨ta,pa,h⟩:=h;obtain⟨w,Z,L,l⟩:=l;refine⟨_,UT pa L J hw h1,fun C I σ H n D Y S hd gd=>?_⟩;refine h C I σ H n _ _ S hd fun t y v H' r G U q=>?_;exact l C I σ H' y v t _ _ (S.on G U) q r fun o σ' R N kp _ _=>gd.nx o σ' H' y R N (G.keep.trans kp)
def sPar(i j:Nat)(ds:DTA):DTS:=fun D o n=>ds o n fun ts y=>match ts with|[t,u]=>D.nx ((o.set i (some (.val t))).set j (some (.val u))) y|_=>False
theorem zrP{kt k2 pt2}(hc:X.calm=true)(U:X.N.Nodup)(hi:X.N[i]?=some x)(J:X.N[j]?=some y)(G:i≠j)
  (hx:X.env.scope.names.lookup x=some .local) (R:X.env.scope.names.lookup y=some .local) (h:DB X [a,b] ds)
  (hw:swappedStores [.Tuple [.Name x px,.Name y py] kt pt] (.Tuple [a,b] k2 pt2) X.env=pure (some [x,y]):=by rfl)
  (L:swapsWithSole [.Tuple [.Name x px,.Name y py] kt pt] (.Tuple [a,b] k2 pt2) pos.line X.env=pure false:=by rfl) :
  DS X (.Assign [.Tuple [.Name x px,.Name y py] kt pt] (.Tuple [a,b] k2 pt2) pos) (sPar i j ds):=by
 obtain⟨ta,pa,h⟩:=h;refine⟨_,znc hc U hi J G hx R pa.pa hw L,fun C ρ σ H n D D' S hd g=>?_⟩;refine h C ρ σ H n _ _ S hd fun ts n1 vs H1 r I h1 v _=>?_;cases v with
 | nil=>exact r.elim
 | cons r1 v =>
  cases v with
  | nil=>exact r.elim
  | cons Z v =>
   cases v with
   | cons _ _=>exact r.elim
   | nil =>have Y:=(S.on I h1).put (i:=i) r1;exact⟨_,_,rfl,g.nx _ _ H1 n1 r (Y.put (Keep.rep UA S.hx Z)) ((I.keep.trans UA).trans UA)⟩
def U5(i:Nat)(d:DTE):DTS:=fun D l n=>match l[i]? with
 | some (some (.own ts))=>d l n fun t v=>ts.length<16777216/\D.nx (l.set i (some (.own (ts++[t])))) v
 | _=>False
theorem Qx(i:Nat){J p2 L:Pos}(h:DE X e d)(hN:X.N[i]?=some x:=by rfl)(hv:Vis X.env.scope x:=by walk_at "V")(hd:(x == ("__debug__":Str))=false:=by rfl)
  (U:(x == ("__classdict__":Str))=false:=by rfl) (hs:swapsWith (.Call (.Attribute (.Name x J) "append" p2) [e] [] L) none pos.line X.env=pure false:=by rfl)
  (La:attributeBase (.Name x J) "append" X.env (eval (.Name x J) X.env)=eval (.Name x J) X.env:=by rfl)
  (LQ:((backTo L (starEach [e] X.env)).all (fun x=>!x.1)&&(backToKw L (keywordEach [] X.env)).all (fun x=>x.1.isSome)
   && decide ([e].length+([]:List we).length+(if ([]:List we).isEmpty then 0 else 1)<30))=true:=by rfl)
  (Lb:(p2.endLine == L.line)=true:=by rfl) (I:starEach [e] X.env=[(false,eval e X.env)]:=by rfl):DS X (.Expr (.Call (.Attribute (.Name x J) "append" p2) [e] [] L) pos) (U5 i d):=by
 obtain⟨ta,pa,h⟩:=h;refine⟨_,zn6 (ztk ni PySem.F.slot_list_append PySem.F.type_list_append zdH (Qr hN hv hd U) (Qv pa Q3 I) La LQ Lb I rfl) hs,fun C ρ σ H n D D' S hd g=>?_⟩;unfold U5 at hd;split at hd;rename_i ts Z;obtain⟨p,vs,h1,h2,h3,h4⟩:=S.own i ts Z;refine⟨.ref p,h1,.inl ⟨rfl,_,SqL.of h2⟩,?_⟩;refine h C ρ σ H n _ _ S hd fun t n' v H' r e1 hn q=>?_;have S1:=S.on e1 hn;obtain⟨p',Y,G,h2',R,h4'⟩:=S1.own i ts Z;rw[h1]at G;cases G;refine⟨p,Y,v,rfl,rfl,h2',by rw[R.length];exact r.1,?_⟩;obtain⟨S2,k2⟩:=S1.chg Z h1 (R.append (.cons q .nil));exact g.nx _ _ _ n' r.2 S2 (e1.keep.trans k2);exact hd.elim
def sPut(i:Nat)(v d:DTE):DTS:=fun D l n=>d l n fun t C=>match l[i]? with
 | some (some (.own ts))=>v l C fun j y=>match j with|.int j=>(match ixN ts.length j with|some k=>D.nx (l.set i (some (.own (ts.set k t)))) y|none=>False)|_=>False
 | _=>False
theorem zrO(i:Nat){dj:DTE}{l p2:Pos}(J:DE X b dj)(h:DE X e d)(hN:X.N[i]?=some x:=by rfl)(hv:Vis X.env.scope x:=by walk_at "V")(hd:(x == ("__debug__":Str))=false:=by rfl)
  (L:(x == ("__classdict__":Str))=false:=by rfl) (hs:swapsWithSole [.Subscript (.Name x l) b p2] e pos.line X.env=pure false:=by rfl) (hw:swappedStores [.Subscript (.Name x l) b p2] e X.env=pure none:=by rfl)
  (h1:(assignEach [.Subscript (.Name x l) b p2] X.env).map (·.2)=[assign (.Subscript (.Name x l) b p2) X.env]:=by rfl)
  (hsub:PG X (.Subscript (.Name x l) b p2)=PG X (.Subscript (.Name x l) b p2):=rfl) (pg:∀{to ti:TE} {t:TSet},PE X (.Name x l) to->PE X b ti->PSet X t->PG X (.Subscript (.Name x l) b p2) (L2.gSub to ti t):=by intro _ _ _ h1 h2 h3;exact pg_sub h1 h2 h3) :
  DS X (.Assign [.Subscript (.Name x l) b p2] e pos) (sPut i dj d):=by
 obtain⟨ta,pa,h⟩:=h;obtain⟨tj,pj,J⟩:=J;refine⟨_,UT pa (pg (Qr hN hv hd L) pj set_list) hs hw h1,fun C ρ σ H n D D' S hd g=>?_⟩;refine h C ρ σ H n _ _ S hd fun t n1 v H1 r e1 hn q=>?_;have U:=S.on e1 hn;split at r;rename_i ts et;obtain⟨p,vs,h1,h2,h3,h4⟩:=U.own i ts et;refine⟨.ref p,h1,J C ρ σ H1 n1 _ _ U r fun j n2 w H2 y R Z q2=>?_⟩;have S2:=U.on R Z;cases j with
 | int j =>
  have y:(match ixN ts.length j with|some k=>D'.nx (ρ.set i (some (.own (ts.set k t)))) n2|none=>False):=y;cases ek:ixN ts.length j with
  | none=>rw[ek]at y;exact y.elim
  | some m =>rw[ek]at y;obtain⟨p',Y,G,h2',I,h4'⟩:=S2.own i ts et;rw[h1]at G;cases G;refine⟨p,Y,j,m,rfl,q2.intI,h2',by rw[I.length];exact ek,?_⟩;obtain⟨S3,k3⟩:=S2.chg et h1 (I.set (R.rep S.hx q) m);exact g.nx _ _ _ n2 y S3 ((e1.trans R).keep.trans k3)
 | _=>exact y.elim
 exact r.elim
def zjM(c:DTT)(G:DTS):DTS:=fun D o n=>∃W:Nat->En->Nat->Prop,(∃m,W m o n)/\∀m o n,W m o n ->
 c o n fun b C=>if b=true then G { D with nx:=fun l y=>∃v,v<m/\W v l y,ct:=fun l y=>∃v,v<m/\W v l y,bk:=D.nx } o C else D.nx o C
theorem zh3(hp:sv (model X.prog X.w) X.A X.env X.xe)(hc:DT X c dt)(hb:DSs X sa t):DS X (.While c sa [] pos) (zjM dt t):=by
 obtain⟨tc,pc,hc⟩:=hc;obtain⟨tb,pb,hb⟩:=hb;refine⟨_,zl9 hp pc pb,fun C ρ σ H n D D' S hd g=>?_⟩;obtain⟨W,⟨m0,w0⟩,turn⟩:=hd;refine⟨fun m L H1=>∃G Z,W m G Z/\Stt X.K C G L H1 Z/\Keep C ρ σ H G L H1,⟨m0,ρ,n,w0,S,Keep.refl⟩,?_⟩;rintro m L H1 ⟨G,Z,w1,S1,k1⟩;refine hc C G L H1 Z _ _ S1 (turn m G Z w1) fun b n2 H2 r e2 hn2=>?_;have S2:=S1.on e2 hn2;have R:=k1.trans e2.keep;cases b with
 | true =>refine iteT ⟨fun σ' H'=>∃J,J<m/\∃y I,W J y I/\Stt X.K C y σ' H' I/\Keep C ρ σ H y σ' H',fun σ' H' ⟨J,hm,z⟩=>⟨J,hm,z⟩,?_⟩;refine hb C G L H2 n2 _ { D' with nx:=fun y I=>∃J,J<m/\W J y I,ct:=fun y I=>∃J,J<m/\W J y I,bk:=D'.nx } S2 (by simpa using r) ⟨?_,fun t I v H' h hn N r=>g.rt t I v H' h hn (fun a o ha U no=>?_) r,?_,?_,fun c I H' h hn N=>g.xr c I H' h hn fun a o ha U no=>N a o (R a o ha U no).1 U (R a o ha U no).2⟩;rintro y σ' H' I ⟨J,hm,w'⟩ Y N;exact⟨J,hm,y,I,w',Y,R.trans N⟩;obtain⟨q1,q2⟩:=R a o ha U no;exact N a o q1 U q2;intro y σ' H' I h' Y N;exact g.nx y σ' H' I h' Y (R.trans N);rintro y σ' H' I ⟨J,hm,w'⟩ Y N;exact⟨J,hm,y,I,w',Y,R.trans N⟩
 | false=>exact iteF (g.nx G L H2 n2 (by simpa using r) S2 R)
end
def ItOk(K:qF)(hd:Option aj)(P O:aj->Prop)(H:Hp)(J:It)(ts:qD):Prop:=∀(v:aj->Prop) (l:Hp),(∀a o,H a=some o->P a->l a=some o)->(∀a o,H a=some o->¬O a->¬v a)->(∀a,v a->l a≠none) ->
 (∀i t,ts[i]?=some t->J.go i l/\∀x u,J.yld i l x u->Same l u/\Rep K hd v u x t)/\J.stop ts.length l
def DI(X:Cx)(v iter:bg)(d:DTA):Prop:=∃o,PI X v iter o/\∀(C:Ctx) (l:En) (σ:St) (H:Hp) (n:Nat) (Q:It->Hp->Prop) (R:List ah->Nat->Prop),Stt X.K C l σ H n->d l n R ->
 (∀ts u J H',R ts u->ExtE C.hd H H'->Hn X.K C.hd H' u->ItOk X.K C.hd (fun a=>¬Own C l σ a) (Own C l σ) H' J ts->Q J H')->o σ H Q
def DIL(X:Cx)(v iter:bg)(d:DTA):Prop:=∃o,PI X v iter o/\∀(C:Ctx) (l:En) (σ:St) (H:Hp) (n:Nat) (Q:It->Hp->Prop) (R:List ah->Nat->Prop),Stt X.K C l σ H n->d l n R ->
 (∀ts u J H',R ts u->ExtE C.hd H H'->Hn X.K C.hd H' u->ItOk X.K C.hd (fun a=>C.hd≠some a) (Own C l σ) H' J ts->Q J H')->o σ H Q
section
variable{X:Cx}{a b c e tg iter:bg}{es rest:List bg}{d da db dc:DTE}{ds di:DTA}{dt:DTT}{t u:DTS}{st:eK}{sts sa sb:List eK}{pos p:Pos}{k:Nat}{x:Str}
theorem dil(h:DI X tg iter di):DIL X tg iter di:=by obtain⟨I,pi,h⟩:=h;refine⟨I,pi,fun C ρ σ H n Q R S hd N=>h C ρ σ H n Q R S hd fun ts U J H' r Z hn it=>N ts U J H' r Z hn ?_⟩;exact fun Y v h1 L G=>it Y v (fun a o y no=>h1 a o y fun z=>no (.inl (S.hx a z))) L G
theorem Reps.getP{K:qF}{hd:Option aj}{O:aj->Prop}{H:Hp}{vs ts}{i:Nat}{t}{x:V}(r:Reps K hd O H vs ts)(h:ts[i]?=some t)(hx:vs[i]?=some x):Rep K hd O H x t:=by obtain⟨v,h1,l⟩:=r.get h;rw[hx]at h1;cases h1;exact l
theorem zkF{K:qF}{hd:Option aj}{P O:aj->Prop}{H:Hp}{q:aj}{vs ts}(S:H q=some (.lst vs))(U:P q)(N:∀a,¬O a->P a)(r:Reps K hd O H vs ts):ItOk K hd P O H (Itl K q) ts:=by intro Y L h1 R _;have y:=h1 q _ S U;have I:Reps K hd Y L vs ts:=r.mono (fun a o C z=>g8 fun no=>R a o C no z) fun a o no C=>h1 a o C (N a no);refine⟨fun i t J=>?_,⟨vs,.of y,by rw[r.length];exact aD _⟩⟩;obtain⟨v,ev,rv⟩:=I.get J;refine⟨⟨vs,v,.of y,ev⟩,fun x Z G=>?_⟩;obtain⟨rfl,G⟩:=G;exact⟨Same.refl _,I.getP J (G vs (.of y))⟩
theorem znm{K:qF}{hd:Option aj}{P O:aj->Prop}{H:Hp}{v:V}{ts}(L:∀a,¬O a->P a)(r:Rep K hd O H v (.tuple ts)):∃q vs,v=.ref q/\SqT K H q vs/\ItOk K hd P O H (Itt K q) ts:=by
 have key:∀q vs,Reps K hd O H vs ts->(∀(G:aj->Prop) (y:Hp),(∀a o,H a=some o->P a->y a=some o)->(∀a o,H a=some o->¬O a->¬G a)->SqT K y q vs)->ItOk K hd P O H (Itt K q) ts:=by intro q vs r U G y h1 N _;have C:=U G y h1 N;have R:Reps K hd G y vs ts:=r.mono (fun a o I z=>g8 fun no=>N a o I no z) fun a o no I=>h1 a o I (L a no);refine⟨fun i t S=>?_,⟨vs,C,by rw[r.length];exact aD _⟩⟩;obtain⟨v,ev,Z⟩:=R.get S;refine⟨⟨vs,v,C,ev⟩,fun x Y J=>?_⟩;obtain⟨rfl,J⟩:=J;exact⟨Same.refl _,R.getP S (J vs C)⟩
 cases r with
 | @tup q vs ds h o r=>exact⟨q,vs,rfl,.inl (.inl h),key q vs r fun G y h1 _=>.inl (.inl (h1 q _ h (L q o)))⟩
 | @tupS q vs ds h r=>exact⟨q,vs,rfl,h.sq,key q vs r fun G y _ _=>h.sq⟩
def dItL(d:DTE):DTA:=fun v n R=>d v n fun t o=>match t with|.list ts=>R ts o|_=>False
def dItT(d:DTE):DTA:=fun v n R=>d v n fun t o=>match t with|.tuple ts=>R ts o|_=>False
theorem Uq(h:DE X iter d):DI X tg iter (dItL d):=by
 obtain⟨N,pa,h⟩:=h;refine⟨_,zoa pa,fun C L σ H n Q R S hd y=>?_⟩;refine h C L σ H n _ _ S hd fun t G v H' r I J q=>?_;cases t with
 | list ts =>obtain⟨p,vs,rfl,h1,no,l⟩:=q.lstI;exact⟨p,rfl,⟨vs,.of h1⟩,y ts G _ H' r I J (zkF h1 no (fun _ z=>z) l)⟩
 | _=>exact r.elim
theorem U3(h:DE X iter d):DI X tg iter (dItT d):=by
 obtain⟨J,pa,h⟩:=h;refine⟨_,zqk pa,fun C l σ H n Q R S hd o=>?_⟩;refine h C l σ H n _ _ S hd fun t y v H' r G I q=>?_;cases t with
 | tuple ts =>obtain⟨p,vs,rfl,h1,it⟩:=znm (P:=fun a=>¬Own C l σ a) (fun _ z=>z) q;exact⟨p,rfl,⟨vs,h1⟩,o ts y _ H' r G I it⟩
 | _=>exact r.elim
def J8(lo:Int)(n:Nat):List ah:=(eJ n).map fun(i:Nat)=>cg (lo+(i:Int))
theorem zmA{K:qF}{hd:Option aj}{P O:aj->Prop}{H:Hp}{lo:Int}{m:Nat}:ItOk K hd P O H (Itr lo m) (J8 lo m):=by intro C G _ _ _;refine⟨fun i t o=>?_,by show m<=(J8 lo m).length;simp[J8]⟩;unfold J8 at o;rw[aN]at o;by_cases hi:i<m;rw[kQ hi]at o;cases o;refine⟨hi,fun x y v=>?_⟩;obtain⟨rfl,rfl⟩:=v;exact⟨Same.refl _,.int _⟩;rw[ck (by simp;omega)]at o;cases o
def UF(d:DTE):DTA:=fun o n R=>d o n fun t l=>match t with|.int j=>(-(2 ^ 62)<=j/\j<2 ^ 62)/\R (J8 0 j.toNat) l|_=>False
theorem Ym(U:X.mg "range" = none) (h:DE X a d) (J:Gl X "range":=by rfl) (o:starEach [a] X.env=[(false,eval a X.env)]:=by rfl):DI X tg (.Call (.Name "range" p) [a] [] pos) (UF d):=by
 obtain⟨Z,pa,h⟩:=h;refine⟨_,zjZ J U (Qv pa Q3 o) o,fun C Y σ H n Q R S hd y=>?_⟩;refine h C Y σ H n _ _ S hd fun t G v H' r I L q=>?_;cases t with
 | int j =>rw[q.intI];exact⟨j,rfl,r.1.1,r.1.2,y _ G _ H' r.2 I L zmA⟩
 | _=>exact r.elim
def forP(g:DTG)(o:DTS)(D:JL):List ah->En->Nat->Prop
 | [],ρ,n=>D.nx ρ n
 | t::ts,ρ,n=>g t ρ fun l=>o { D with nx:=forP g o D ts,ct:=forP g o D ts,bk:=D.nx } l n
def sFor(di:DTA)(g:DTG)(o:DTS):DTS:=fun D l n=>di l n fun ts v=>forP g o D ts l v
theorem QK(hp:sv (model X.prog X.w) X.A X.env X.xe)(hc:X.calm=true)(hi:DI X tg iter di)(hg:DG X tg is g)(hb:DSs X sa t)
  (hs:∀x,foldedSetIterable iter X.env x=pure x:=by intro _;rfl):DS X (.For tg iter sa [] pos) (sFor di g t):=by
 obtain⟨wi,pi,hi⟩:=hi;obtain⟨_,gg,pg,hg⟩:=hg;obtain⟨tb,pb,hb⟩:=hb;refine⟨_,zqh hp hc pi pg pb hs,fun C ρ σ H n D D' S hd gd=>?_⟩;refine hi C ρ σ H n _ _ S hd fun ts n1 J H1 r e1 hn it=>?_;have S1:=S.on e1 hn;refine⟨fun i m L H2=>m=ts.length - i/\i<=ts.length/\∃I Z,forP g t D' (ts.drop i) I Z/\Stt X.K C I L H2 Z/\Keep C ρ σ H1 I L H2,⟨ts.length,by simp,cw _,ρ,n1,by simpa using r,S1,Keep.refl⟩,?_⟩;rintro i m L H2 ⟨rfl,hi',I,Z,f2,S2,k2⟩;have itq:=it (Own C I L) H2 (fun a o U no=>(k2 a o U (fun z=>no (.inl (S.hx a z))) fun z=>no (.inr z)).1) (fun a o U no z=>z.elim (fun z=>no (.inl z)) fun z=>(k2 a o U (fun y=>no (.inl (S.hx a y))) fun y=>no (.inr y)).2 z) (fun a=>S2.dom);by_cases hlt:i<ts.length;have et:ts[i]?=some ts[i]:=av hlt;obtain⟨go,yl⟩:=itq.1 i _ et;rw[br hlt]at f2;refine .inr ⟨go,fun σ' H'=>∃G N,forP g t D' (ts.drop (i+1)) G N/\Stt X.K C G σ' H' N/\Keep C ρ σ H1 G σ' H',fun σ' H' z=>⟨ts.length - (i+1),by omega,rfl,hlt,z⟩,fun x H3 hy=>?_⟩;obtain⟨sm,rx⟩:=yl x H3 hy;have S3:=S2.on sm.ext (S2.hnd.same sm);have k3:Keep C ρ σ H1 I L H3:=k2.trans (Same.ext sm:ExtE C.hd H2 H3).keep;refine hg C I L H3 Z x _ _ _ S3 rx f2 fun ρ4 σ4 r4 S4 k4 _ _=>?_;have k5:=k3.trans k4;refine hb C ρ4 σ4 H3 Z _ { D' with nx:=forP g t D' (ts.drop (i+1)),ct:=forP g t D' (ts.drop (i+1)),bk:=D'.nx } S4 r4 ⟨fun G σ' H' N h' S' R=>⟨G,N,h',S',k5.trans R⟩,fun t N v H' h Y R rp=>gd.rt t N v H' h Y (fun a o U nh no=>?_) rp,fun G σ' H' N h' S' R=>gd.nx G σ' H' N h' S' (e1.keep.trans (k5.trans R)),fun G σ' H' N h' S' R=>⟨G,N,h',S',k5.trans R⟩,fun c N H' h Y R=>gd.xr c N H' h Y fun a o U nh no=>R a o ((e1.keep.trans k5) a o U nh no).1 nh ((e1.keep.trans k5) a o U nh no).2⟩;obtain⟨q1,q2⟩:=(e1.keep.trans k5) a o U nh no;exact R a o q1 nh q2;have e:i=ts.length:=by omega
 subst e;rw[gh]at f2;exact .inl ⟨itq.2,gd.nx I L H2 Z f2 S2 (e1.keep.trans k2)⟩
def JS(N:List Str)(ts:qD):En:=ts.map (fun t=>some (.val t))++gf (N.length - ts.length) none
theorem zdm{K:qF}{hd:Option aj}{O:aj->Prop}{H:Hp}{n:Nat}{N:List Str}{vs:List V}{ts:qD}(r:Reps K hd O H vs ts)(G:Hn K hd H n)(dom:∀a,O a->MutO (H a))(hx:∀a,hd=some a->O a) :
  Stt K ⟨hd,O⟩ (JS N ts) (start N vs) H n/\∀a,¬OwnS (JS N ts) (start N vs) a:=by
 have get:∀(i:Nat) c,(JS N ts)[i]?=some (some c)->∃t,c=.val t/\ts[i]?=some t:=fun i c h=>by
  unfold JS at h;by_cases hi:i<ts.length;rw[bE (by simpa using hi),aN]at h;cases e:ts[i]? with
  | none=>rw[e]at h;cases h
  | some t=>rw[e]at h;cases h;exact⟨t,rfl,rfl⟩
  rw[bw (by simpa using hi),eZ]at h;split at h <;> cases h
 have no:∀a,¬OwnS (JS N ts) (start N vs) a:=fun a ⟨i,ds,m,h1,_⟩=>by obtain⟨t,e,_⟩:=get i _ h1;subst e;cases m
 refine⟨.mk' (by unfold JS start;simp[r.length]) (fun i d h=>?_) (fun i ds m h=>?_) (fun i I h=>by obtain⟨t,e,_⟩:=get i _ h;cases e) (fun i j ds es a m _ h=>?_) G dom hx,no⟩;obtain⟨t,e,C⟩:=get i _ h;cases e;obtain⟨v,ev,y⟩:=r.get C;refine⟨v,?_,y.mono (fun a o _ z=>z.elim id fun z=>absurd z (no a)) fun _ _ _ z=>z⟩;unfold start;have hi:i<vs.length:=by rcases cx i vs.length with z|z;exact z;rw[ck z]at ev;cases ev
 rw[bE (by simpa using hi),aN,ev];rfl;obtain⟨t,e,_⟩:=get i _ h;subst e;cases m;obtain⟨t,e,_⟩:=get i _ h;subst e;cases m
end
end L2
namespace Bd
open PySem L2 PyProof.Rows
theorem Def.okD{P:aJ}{w:a7}{K:qF}{mg:qM}{base:aW}{x:Str}{st:eK}{ps N:List Str}{f:aj}{fd:dz}{k m:Nat}{g:GD}(D:Def K mg x st ps f fd)(S:Qk N ps (Jw st))(hm:m=ps.length)
  (hb:∀(l:af) (A:aX) (outer:List Env) (s:aq) (H:Hp) (E:XK),Room k (A.deeper (envOfC x (Jw st) s.heap.objs.size f l))->∃d,DSs (cxOf CX0 P w K mg base N x (Jw st) f l A outer s H E).nox (JV st) d /\
   ∀ts n R,ts.length=m->g ts n R->d { nx:=fun _ u=>R .none u,rt:=R } (JS N ts) n):FnOk P w K mg base CX0 (k+1) f fd ps (spD K m g):=by
 refine D.F.ok S (fun vs H Q E h=>?_) (fun l A outer s H vs Q E hr h=>?_);obtain⟨hd,O,ts,n,R,r,_,_,_,G,_⟩:=h;rw[r.length,G,hm];obtain⟨hd,O,ts,n,R,r,hn,dom,hx,G,hg,U⟩:=h;obtain⟨d,⟨t,pt,Y⟩,I⟩:=hb l A outer s H E hr;obtain⟨Z,no⟩:=zdm (N:=N) r hn dom hx;refine⟨t,pt,Y ⟨hd,O⟩ _ _ H n _ _ Z (I ts n R G hg) ⟨fun ρ' σ' H' u h S' J=>?_,fun t u v H' h L J rp=>?_,fun _ _ _ _ h=>h.elim,fun _ _ _ _ h=>h.elim,fun _ _ _ h=>h.elim⟩⟩;exact U .none u .non H' h (fun a o C y=>(J a o C y (no a)).1) S'.hnd .non;exact U t u v H' h (fun a o C y=>J a o C y (no a)) L rp
end Bd
namespace L2
open PySem PySem.Spec PyProof.Rows
def DTs(Y:Cx)(ifs:List bg)(d:DTT):Prop:=∃l,PTs Y ifs l/\∀(C:Ctx) (u:En) (σ:St) (H:Hp) (n:Nat) (Q:Bool->Hp->Prop) (R:Bool->Nat->Prop),Stt Y.K C u σ H n->d u n R ->
 (∀b o H',R b o->ExtE C.hd H H'->Hn Y.K C.hd H' o->Q b H')->l σ H Q
def dYes:DTT:=fun _ n R=>R true n
section
variable{Y:Cx}{c:bg}{d:DTT}
theorem Q4:DTs Y [] dYes:=⟨_,zn3,fun C o σ H n Q R S h l=>l true n H h ExtE.refl S.hnd⟩
theorem zoZ(h:DT Y c d):DTs Y [c] d:=by obtain⟨l,p,h⟩:=h;exact⟨_,zn2 p,h⟩
end
theorem DE.uni{y:Type}{Xf:y->Cx}{K:qF}(u:∀i,(Xf i).K=K){e:bg}{d:DTE}(h:∀i,DE (Xf i) e d):∃x:TE,(∀i,PE (Xf i) e x)/\∀(C:Ctx) (l:En) (σ:St) (H:Hp) (n:Nat) (Q:VK) (R:qN),Stt K C l σ H n->d l n R ->
  (∀t o v H',R t o->ExtE C.hd H H'->Hn K C.hd H' o->Rep K C.hd (Own C l σ) H' v t->Q v H')->x σ H Q:=by
 refine⟨fun σ H Q=>∀i,(i4 (h i)) σ H Q,fun i pins s σ H Q I hw=>(cV (h i)).1 pins s σ H Q I (hw i),fun C l σ H n Q R S hd G i=>?_⟩;have:=(cV (h i)).2 C l σ H n Q R;exact this (by rw[u i];exact S) hd fun t o v H' r e h q=>G t o v H' r e (by rw[<- u i];exact h) (by rw[<- u i];exact q)
theorem DTs.uni{x:Type}{Xf:x->Cx}{K:qF}(u:∀i,(Xf i).K=K){e:List bg}{d:DTT}(h:∀i,DTs (Xf i) e d):∃v:TT,(∀i,PTs (Xf i) e v)/\∀(C:Ctx) (o:En) (σ:St) (H:Hp) (n:Nat) (Q:Bool->Hp->Prop) (R:Bool->Nat->Prop),Stt K C o σ H n->d o n R ->
  (∀b l H',R b l->ExtE C.hd H H'->Hn K C.hd H' l->Q b H')->v σ H Q:=by
 refine⟨fun σ H Q=>∀i,(i4 (h i)) σ H Q,fun i pins s σ H Q I hw=>(cV (h i)).1 pins s σ H Q I (hw i),fun C o σ H n Q R S hd y i=>?_⟩;have:=(cV (h i)).2 C o σ H n Q R;exact this (by rw[u i];exact S) hd fun b l H' r e h=>y b l H' r e (by rw[<- u i];exact h)
theorem DG.uni{y:Type}[Nonempty y]{Xf:y->Cx}{K:qF}(x:∀i,(Xf i).K=K){e:bg}{is:List Nat}{d:DTG}(h:∀i,DG (Xf i) e is d):∃G:TG,(∀i,PG (Xf i) e G)/\∀(C:Ctx) (o:En) (σ:St) (H:Hp) (n:Nat) (v:V) (t:ah) (Q:St->Hp->Prop) (R:En->Prop),Stt K C o σ H n->Rep K C.hd (Own C o σ) H v t->d t o R ->
  (∀l σ',R l->Stt K C l σ' H n->Keep C o σ H l σ' H->(∀j,j∉is->σ'[j]?=σ[j]?)->σ'.length=σ.length->Q σ' H)->G v σ H Q:=by
 refine⟨fun v σ H Q=>∀i,(i4 (h i).2) v σ H Q,fun i pins s σ H v u Q I r hw=>(cV (h i).2).1 pins s σ H v u Q I r (hw i),fun C o σ H n v t Q R S r hd L i=>?_⟩;have:=(cV (h i).2).2 C o σ H n v t Q R;exact this (by rw[x i];exact S) (by rw[x i];exact r) hd fun l σ' N J=>L l σ' N (by rw[<- x i];exact J)
theorem Wk.of:∀{σ σ':St},σ.length=σ'.length->(∀(i:Nat) v,σ[i]?=some (some v)->σ'[i]?=some (some v))->Wk σ σ'
 | [],[],_,_=>trivial
 | [],_::_,h,_=>by simp at h
 | _::_,[],h,_=>by simp at h
 | none::r,o::r',h,k=>Wk.of (σ:=r) (σ':=r') (by simpa using h) fun i v e=>by simpa using k (i+1) v (by simpa using e)
 | some w::r,o::r',h,k=>⟨by simpa using k 0 w rfl,Wk.of (by simpa using h) fun i v e=>by simpa using k (i+1) v (by simpa using e)⟩
def capV:Option Cell->Option Cell
 | some (.val d)=>some (.val d)
 | some (.dct ks)=>some (.rdo ks)
 | some (.rdo ks)=>some (.rdo ks)
 | _=>none
def Jl(m:Nat)(capt:List Nat)(l:En):En:=gf m none++capt.map fun i=>capV (l.getD i none)
def JD(g:DTG)(tt:DTT)(u:DTE)(l:En):List ah->List ah->Nat->(List ah->Nat->Prop)->Prop
 | [],acc,n,R=>R acc n
 | x::xs,acc,n,R=>g x l fun o=>tt o n fun b v=>if b=true then u o v fun t y=>acc.length<16777216/\JD g tt u l xs (acc++[t]) y R else JD g tt u l xs acc v R
def dComp(m:Nat)(capt:List Nat)(u:DTA)(g:DTG)(tt:DTT)(o:DTE):DTA:=fun l n R=>u l n fun ts v=>JD g tt o (Jl m capt l) ts [] v R
theorem zji{own:List Str}{capt is:List Nat}{σ o:St}(u:∀i∈is,i<own.length)(x:∀j,j∉is->o[j]?=(Ji own++capS capt σ)[j]?){j:Nat}{v:V}(l:(Ji own++capS capt σ)[j]?=some (some v)):o[j]?=some (some v):=by
 by_cases hjo:j<own.length;rw[bE (by simpa using hjo),aN]at l;cases z:own[j]? with
 | none=>rw[z]at l;cases l
 | some q=>rw[z]at l;cases l
 rw[x j (fun z=>hjo (u j z))];exact l
theorem ExtE.updR{hd:Option aj}{l v:Hp}{D:aj}{o:HO}(y:l D=none)(e:ExtE hd l v):ExtE hd l (upd v D o):=fun a u x C=>by rw[Jc (Qg x y)];exact e a u x C
theorem Hn.updR{K:qF}{hd:Option aj}{u:Hp}{D:aj}{o:HO}{n:Nat}(v:hd≠some D)(y:MutO (u D))(h:Hn K hd u n):Hn K hd (upd u D o) n:=fun a x=>by have ne:a≠D:=fun z=>v (by rw[<- z];exact x);rcases h a x with⟨⟨d,m,t,q,rest⟩,l⟩|⟨l,p⟩;exact .inl ⟨⟨d,m,t,by rw[Jc ne];exact q,rest⟩,l⟩;exact .inr ⟨l,p.upd ne y⟩
section
variable{X:Cx}{scope:e8}{own:List Str}{capt:List Nat}{elt tg iter:bg}{ifs:List bg}{pos:Pos}{di:DTA}{is:List Nat}{g:DTG}{tt:DTT}{te:DTE}
theorem zeX{x:En}{i:Nat}{c:Cell}(h:capV (x.getD i none)=some c):(∃d,c=.val d/\x[i]?=some (some (.val d)))\/∃u,c=.rdo u/\(x[i]?=some (some (.dct u))\/x[i]?=some (some (.rdo u))):=by
 rw[bH]at h;cases e:x[i]? with
 | none=>rw[e]at h;cases h
 | some o =>
  rw[e]at h;cases o with
  | none=>cases h
  | some c' =>
   cases c' with
   | val d'=>simp[capV]at h;exact .inl ⟨d',h.symm,rfl⟩
   | own _=>simp[capV]at h
   | dct u=>simp[capV]at h;exact .inr ⟨u,h.symm,.inl rfl⟩
   | dtt u=>simp[capV]at h
   | rdo u=>simp[capV]at h;exact .inr ⟨u,h.symm,.inr rfl⟩
theorem zf5{K:qF}{C:Ctx}{u:En}{σ:St}{H N:Hp}{n n2:Nat}{D:aj}(S:Stt K C u σ H n)(e:ExtE C.hd H N)(hn:Hn K C.hd N n2)(hD:H D=none)(hy:MutO (N D)) :
  Stt K ⟨C.hd,fun a=>Own C u σ a\/a=D⟩ (Jl own.length capt u) (Ji own++capS capt σ) N n2/\∀a,¬OwnS (Jl own.length capt u) (Ji own++capS capt σ) a:=by
 have get:∀(i:Nat) c,(Jl own.length capt u)[i]?=some (some c)->∃j,capV (u.getD j none)=some c/\own.length<=i/\capt[i - own.length]?=some j:=fun i c h=>by
  unfold Jl at h;by_cases hi:i<own.length;rw[bE (by simpa using hi),eZ]at h;split at h <;> cases h;rw[bw (by simpa using hi),oo,aN]at h;cases ej:capt[i - own.length]? with
  | none=>rw[ej]at h;cases h
  | some j =>rw[ej]at h;exact⟨j,by simpa using h,by omega,rfl⟩
 have slot:∀(i j:Nat) (v:V),own.length<=i->capt[i - own.length]?=some j->σ[j]?=some (some v)->(Ji own++capS capt σ)[i]?=some (some v):=fun i j v hi I h1=>by rw[bw (by simpa using hi)];simp only[aR,aN,I,gE];rw[bH,h1];rfl
 have nm:∀(i:Nat) (c:Cell),c.mine=true->(Jl own.length capt u)[i]?=some (some c)->False:=fun i c m h=>by obtain⟨j,U,_⟩:=get i c h;rcases zeX U with⟨d,rfl,_⟩|⟨L,rfl,_⟩ <;> cases m
 have no:∀a,¬OwnS (Jl own.length capt u) (Ji own++capS capt σ) a:=fun a ⟨i,c,m,h1,_⟩=>nm i c m h1;have S2:=S.on e hn;have sub:∀a o,H a=some o->Own ⟨C.hd,fun a=>Own C u σ a\/a=D⟩ (Jl own.length capt u) (Ji own++capS capt σ) a->Own C u σ a:=fun a o x z=>by rcases z with z|z;rcases z with z|z;exact z;subst z;rw[hD]at x;cases x;exact absurd z (no a)
 have kp:∀a o,¬Own C u σ a->H a=some o->N a=some o:=fun a o nO x=>e a o x fun z=>nO (.inl (S.hx a z));refine⟨.mk' (by unfold Jl;simp) (fun i d h=>?_) (fun i ds m h=>(nm i _ m h).elim) (fun i L h=>?_) (fun i j ds es a m _ h=>(nm i _ m h).elim) hn (fun a x=>?_) (fun a x=>.inl (.inl (S.hx a x))),no⟩;obtain⟨j,U,hi,I⟩:=get i _ h;rcases zeX U with⟨d',z,y⟩|⟨L,z,_⟩;cases z;obtain⟨v,h1,R⟩:=S.val j d y;exact⟨v,slot i j v hi I h1,R.mono sub kp⟩;cases z;obtain⟨j,U,hi,I⟩:=get i _ h;rcases zeX U with⟨d',z,y⟩|⟨ks',z,y⟩;cases z;cases z;rcases y with y|y;obtain⟨a,G,h1,R,Y,Z⟩:=S.dct j L y;have J:C.hd≠some a:=fun z=>Z (S.hx a z);exact⟨a,G,slot i j _ hi I h1,e a _ R J,Y.mono sub kp,.inl (.inr ⟨j,.dct L,rfl,y,h1⟩),J⟩;obtain⟨a,G,h1,R,Y,Z,J⟩:=S.rdo j L y;exact⟨a,G,slot i j _ hi I h1,e a _ R J,Y.mono sub kp,.inl (.inl Z),J⟩;rcases x with x|rfl;exact S2.lst x;exact hy
theorem zib{K:qF}{C:Ctx}{u:En}{σ:St}{H o:Hp}{n v:Nat}{D:aj}{ys:List V}(S:Stt K C u σ H n)(e:ExtE C.hd H o)(G:Hn K C.hd o v)(y:H D=none)(x:o D=some (.lst ys)) :
  Stt K ⟨C.hd,fun a=>Own C u σ a\/a=D⟩ (Jl own.length capt u) (Ji own++capS capt σ) o v/\∀a,¬OwnS (Jl own.length capt u) (Ji own++capS capt σ) a:=zf5 S e G y (.inl ⟨_,x⟩)
def zr6(K:qF)(te:TE)(d:DTA):Prop:=∀(C:Ctx) (o:En) (σ:St) (H:Hp) (n:Nat) (Q:VK) (R:List ah->Nat->Prop),Stt K C o σ H n->d o n R ->
 (∀ts u p vs H',R ts u->ExtE C.hd H H'->Hn K C.hd H' u->H p=none->H' p=some (.lst vs)->Reps K C.hd (fun a=>Own C o σ a\/a=p) H' vs ts->Q (.ref p) H')->te σ H Q
theorem zf7(hi:DIL X tg iter di)
  (hg:∀C s₀ H₀ u,DG (Ja X scope own capt C s₀ H₀ u) tg is g) (hin:∀i∈is,i<own.length) (ht:∀C s₀ H₀ u,DTs (Ja X scope own capt C s₀ H₀ u) ifs tt) (he:∀C s₀ H₀ u,DE (Ja X scope own capt C s₀ H₀ u) elt te) :
  ∃(wi:TI) (gg:TG) (gt:TT) (ge:TE),PI X tg iter wi/\(∀C s₀ H₀ u,PG (Ja X scope own capt C s₀ H₀ u) tg gg)/\(∀C s₀ H₀ u,PTs (Ja X scope own capt C s₀ H₀ u) ifs gt)/\(∀C s₀ H₀ u,PE (Ja X scope own capt C s₀ H₀ u) elt ge)/\zr6 X.K (tComp own capt wi gg gt ge) (dComp own.length capt di g tt te):=by
 obtain⟨wi,pi,hi⟩:=hi;let Xf:(aj×aq×Hp×List aj)->Cx:=fun q=>Ja X scope own capt q.1 q.2.1 q.2.2.1 q.2.2.2;have hK:∀q,(Xf q).K=X.K:=fun _=>rfl;have hne:Nonempty (aj×aq×Hp×List aj):=⟨(0,X.s₀,X.H₀,[])⟩;obtain⟨gg,pg,hgg⟩:=DG.uni (Xf:=Xf) hK fun q=>hg q.1 q.2.1 q.2.2.1 q.2.2.2;obtain⟨gt,pt,hgt⟩:=DTs.uni (Xf:=Xf) hK fun q=>ht q.1 q.2.1 q.2.2.1 q.2.2.2;obtain⟨ge,pe,hge⟩:=DE.uni (Xf:=Xf) hK fun q=>he q.1 q.2.1 q.2.2.1 q.2.2.2;refine⟨wi,gg,gt,ge,pi,(fun C s₀ H₀ u=>pg (C,s₀,H₀,u)),(fun C s₀ H₀ u=>pt (C,s₀,H₀,u)),(fun C s₀ H₀ u=>pe (C,s₀,H₀,u)),fun C L σ H n Q R St hd hq=>?_⟩;refine hi C L σ H n _ _ St hd fun ts n1 J H1 r e1 hn it=>fun D y=>?_;have St1:=St.on e1 hn;have hD:H D=none:=Q5 e1 hn y;have Y:C.hd≠some D:=fun z=>St.dom (.inl (St.hx D z)) hD;refine zll (n:=ts.length) (fun i ys N=>∃acc S,JD g tt te (Jl own.length capt L) (ts.drop i) acc S R/\Reps X.K C.hd (fun a=>Own C L σ a\/a=D) N ys acc/\ExtE C.hd H1 N/\Hn X.K C.hd N S)
  ⟨[],n1,by simpa using r,.nil,ExtE.new y,hn.same (JB y)⟩ ?_ ?_
 rintro i ys N hlt hy ⟨acc,S,c2,r2,U,I⟩;have et:ts[i]?=some ts[i]:=av hlt;rw[br hlt]at c2;have itq:=it (fun a=>Own C L σ a\/a=D) N (fun a o G nh=>U a o G nh) (fun a o G no z=>z.elim no fun z=>by subst z;rw[y]at G;cases G) (fun a z=>z.elim (fun z=>(St1.on U I).dom z) fun z=>by subst z;rw[hy];exact fun z=>by cases z);obtain⟨go,yl⟩:=itq.1 i _ et;refine⟨go,fun x H3 hyd=>?_⟩;obtain⟨sm,rx⟩:=yl x H3 hyd;have hn3:=I.same sm;have e3:ExtE C.hd H1 H3:=U.trans sm.ext;obtain⟨I3,no3⟩:=zib (own:=own) (capt:=capt) (D:=D) (ys:=ys) St (e1.trans e3) hn3 hD (sm _ _ hy);have rx':Rep X.K C.hd (Own ⟨C.hd,fun a=>Own C L σ a\/a=D⟩ (Jl own.length capt L) (Ji own++capS capt σ)) H3 x ts[i]:=rx.mono (fun a o _ z=>z.elim id fun z=>absurd z (no3 a)) fun _ _ _ z=>z;refine hgg ⟨C.hd,fun a=>Own C L σ a\/a=D⟩ (Jl own.length capt L) (Ji own++capS capt σ) H3 S x ts[i] _ _ I3 rx' c2 fun ρ4 σ4 r4 S4 k4 hj hl=>⟨Wk.of hl.symm fun j v ej=>zji hin hj ej,?_⟩;refine hgt _ ρ4 σ4 H3 S _ _ S4 r4 fun b n5 H5 r5 e5 hn5=>?_;have S5:=S4.on e5 hn5;have hy5:H5 D=some (.lst ys):=e5 D _ (sm _ _ hy) Y;have Z:∀{H6},ExtE C.hd N H6->Reps X.K C.hd (fun a=>Own C L σ a\/a=D) H6 ys acc:=fun e=>r2.mono (fun _ _ _ z=>z) fun a o no G=>e a o G fun z=>no (.inl (.inl (St.hx a z)));cases b with
 | false =>refine iteF ⟨ys,hy5,acc,n5,by simpa using r5,Z ((Same.ext sm).trans e5),e3.trans e5,hn5⟩
 | true =>
  refine iteT (hge _ ρ4 σ4 H5 n5 _ _ S5 (by simpa using r5) fun t n6 v H6 r6 e6 hn6 q6=>?_);have hy6:H6 D=some (.lst ys):=e6 D _ hy5 Y;have rl:=(Z ((Same.ext sm).trans (e5.trans e6))).length;refine⟨ys,hy6,by rw[rl];exact r6.1,acc++[t],n6,r6.2,?_,?_,?_⟩;have q6':Rep X.K C.hd (fun a=>Own C L σ a\/a=D) H6 v t:=q6.mono (fun _ _ _ z=>.inl z) fun _ _ _ z=>z;have all:=(Z ((Same.ext sm).trans (e5.trans e6))).append (Reps.cons q6' .nil);exact all.mono (fun _ _ _ z=>z) fun a o no G=>by rw[Jc (show a≠D from fun z=>no (.inr z))];exact G
  exact ExtE.updR y (e3.trans (e5.trans e6));exact Hn.updR Y (.inl ⟨_,hy6⟩) hn6
 rintro ys N hy ⟨acc,S,c2,r2,U,I⟩;rw[gh]at c2;have itq:=it (fun a=>Own C L σ a\/a=D) N (fun a o G nh=>U a o G nh) (fun a o G no z=>z.elim no fun z=>by subst z;rw[y]at G;cases G) (fun a z=>z.elim (fun z=>(St1.on U I).dom z) fun z=>by subst z;rw[hy];exact fun z=>by cases z);exact⟨itq.2,hq acc S D ys N c2 (e1.trans U) I hD hy r2⟩
theorem zo5(hc:X.calm=true)(S:JC scope own capt X)(hi:DIL X tg iter di)
  (G:∀C s₀ H₀ l,DG (Ja X scope own capt C s₀ H₀ l) tg is g) (u:∀i∈is,i<own.length) (v:∀C s₀ H₀ l,DTs (Ja X scope own capt C s₀ H₀ l) ifs tt) (he:∀C s₀ H₀ l,DE (Ja X scope own capt C s₀ H₀ l) elt te)
  (y:∀x,foldedSetIterable iter X.env x=pure x:=by intro _;rfl):DN X (.ListComp elt [⟨tg,iter,ifs,0⟩] scope pos) (dComp own.length capt di g tt te):=by
 obtain⟨J,N,gt,ge,a,b,c,d,I⟩:=zf7 hi G u v he;exact⟨_,zmb hc S a b c d y,I⟩
def DNA(X:Cx)(x:Str)(l:Pos)(e:bg)(pos:Pos)(i:Nat)(d:DTA):Prop:=∃te,PS X (.Assign [.Name x l] e pos) (tAsg te (YE i))/\zr6 X.K te d
theorem zmQ{x:Str}{u J:Pos}{i:Nat}(Y:X.N.Nodup)(I:X.N[i]?=some x)(hx:Loc X.env.scope x)(hc:X.calm=true)(S:JC scope own capt X)(hi:DIL X tg iter di)
  (Z:∀C s₀ H₀ v,DG (Ja X scope own capt C s₀ H₀ v) tg is g) (G:∀i∈is,i<own.length) (R:∀C s₀ H₀ v,DTs (Ja X scope own capt C s₀ H₀ v) ifs tt) (he:∀C s₀ H₀ v,DE (Ja X scope own capt C s₀ H₀ v) elt te)
  (U:∀x,foldedSetIterable iter X.env x=pure x:=by intro _;rfl) (y:swapsWith (.ListComp elt [⟨tg,iter,ifs,0⟩] scope pos) (some (.Name x u)) J.line X.env=pure true:=by rfl)
  (hf:X.fn x=true\/X.env.scope.names.lookup x=some .local:=by walk_at "F") :
  DNA X x u (.ListComp elt [⟨tg,iter,ifs,0⟩] scope pos) J i (dComp own.length capt di g tt te):=by
 obtain⟨wi,gg,gt,ge,a,b,c,d,sp⟩:=zf7 hi Z G R he;exact⟨_,zjW hc S a b c d Y I hx U y hf,sp⟩
theorem zo2{x:Str}{o v:Pos}{e:bg}{i:Nat}{d:DTA}(h:DNA X x o e v i d):DS X (.Assign [.Name x o] e v) (sSet i (dNew d)):=by obtain⟨Y,pa,h⟩:=h;refine⟨_,pa,fun C R σ H n D U S hd g=>?_⟩;refine h C R σ H n _ _ S hd fun ts J p vs H' r y h1 I G L=>?_;exact g.nx _ _ H' J r ((S.on y h1).put (.lst G (S.free I|> fun z=>z) (L.mono (fun _ _ _ z=>.inl z) fun _ _ _ z=>z))) (y.keep.trans UA)
end
def YO(K:qF):Sp:=fun vs H Q _=>∃(a:aj) (ns:List Int) (k:Int),vs=[.ref a,.int k]/\SqL K H a (ns.map V.int)/\ns.length<=63/\0<=k/\k<=100 /\
 ∀hd H',H hd=none->UP H' hd 0->Same H H'->Q (.ref hd) H'
def zr5(hd:aj)(H H':Hp):Prop:=∀b o,H b=some o->b≠hd->H' b=some o
def zm8:Sp:=fun vs H Q _=>∃(hd:aj) (many n:Int),vs=[.ref hd,.int many]/\UP H hd n/\n<=1000000000000/\0<many/\many<2 ^ 128 /\
 ∀(r:Int) H',0<=r->r<many->UP H' hd (n+1)->zr5 hd H H'->Q (.int r) H'
def QX:GD:=fun ts n R=>match ts with
 | [h,.int many]=>h=HAND/\0<many/\many<2 ^ 128/\n<=1000000000000/\∀r:Int,0<=r->r<many->R (.int r) (n+1)
 | _=>False
theorem zlL{K:qF}(vs:List V)(H:Hp)(Q:VK)(E:XK)(h:spD K 2 QX vs H Q E):zm8 vs H Q E:=by
 obtain⟨hd,O,ts,n,R,r,Y,dom,hx,Z,g,J⟩:=h;unfold QX at g;split at g;rename_i x many;obtain⟨rfl,m0,m1,S,g⟩:=g;cases r with
 | cons N r =>
  cases r with
  | cons L r =>
   cases r;obtain⟨a,rfl,u⟩:=N.handI;rw[L.intI];have U:UP H a n:=(Y a u).elim (·.1) fun z=>by have:=z.1;omega
   refine⟨a,many,n,rfl,U,by omega,m0,m1,fun q H' I y x C=>?_⟩;refine J _ (n+1) _ H' (g q I y) (fun b o G nb=>C b o G fun z=>nb (by rw[u,z])) (fun b v=>?_) (.int _);rw[u]at v;cases v;exact .inl ⟨x,by omega⟩
 exact g.elim
def zpT:Option (Option Cell)->(List ah->Prop)->Prop
 | some (some (.val (.dict [(.none,.list ts)]))),R=>R ts
 | _,_=>False
def JH(u:En):En:=match (u[(0:Nat)]?:Option (Option Cell)) with
 | some (some (.val (.dict [(.none,.list ts)])))=>some (.val (.dict [(.none,.list ts)]))::gf (u.length - 1) none
 | _=>gf u.length none
def intOf:Option (Option Cell)->(Int->Prop)->Prop
 | some (some (.val (.int k))),R=>R k
 | _,_=>False
def Ud(i j:Nat)(u:DTS):DTS:=fun D y n=>zpT y[0]? fun ts=>intOf y[j]? fun k=>(∃ns:List Int,ts=ns.map cg/\ns.length<=63)/\0<=k/\k<=100 /\
 u { nx:=fun x _=>D.nx (JH x) n,rt:=fun t _=>∃b,t=.bool b/\D.rt t n,bk:=fun x _=>D.bk (JH x) n,ct:=fun x _=>D.ct (JH x) n } (((JH y).set j (some (.val (.int k)))).set i (some (.val HAND))) 0
theorem Q9(h:(JH ρ)[i]?=some (some c)):i=0/\ρ[0]?=some (some c)/\∃ts,c=.val (.dict [(.none,.list ts)]):=by
 unfold JH at h;split at h;rename_i ts e;cases i with
 | zero=>simp at h;subst h;exact⟨rfl,e,ts,rfl⟩
 | succ i =>rw[gj,eZ]at h;split at h <;> cases h
 rw[eZ]at h;split at h <;> cases h
theorem zmP:(JH ρ).length=ρ.length:=by
 unfold JH;split;rename_i ts e;cases ρ with
 | nil=>simp at e
 | cons a r=>simp
 simp
theorem zeZ:¬OwnS (JH ρ) σ a:=fun⟨i,ds,m,h,_⟩=>by obtain⟨_,_,ts,e⟩:=Q9 h;subst e;cases m
theorem Rep.scrHd{K:qF}{hd C:Option aj}{O G:aj->Prop}{H H':Hp}{v:V}{ts:qD}(h:Rep K hd O H v (.dict [(.none,.list ts)]))(y:∀a o,H a=some o->¬O a->H' a=some o/\¬G a):Rep K C G H' v (.dict [(.none,.list ts)])/\∃ns:List Int,ts=ns.map cg:=by
 generalize e:(sQ [(oH,xE ts)])=t at h;cases h with
 | @scr a ns h1 o =>
  have x:ts=ns.map cg:=by simpa[SCR] using e
  subst x;refine⟨?_,ns,rfl⟩;rcases h1 with h1|⟨u,h1⟩;exact .scr (.inl (y a _ h1 o).1) (y a _ h1 o).2;exact .scr (.inr ⟨u,(y a _ h1 o).1⟩) (y a _ h1 o).2
 | @scrS a ns h1 =>
  have x:ts=ns.map cg:=by simpa[SCR] using e
  subst x;exact⟨.scrS h1,ns,rfl⟩
 | hand _=>simp[HAND]at e
 | dct _ _=>cases e
 | dcK _ _ _ x=>cases e;exact(dict_noK x).elim
 | dcT _ _ _ x=>cases e;exact(dict_noT x).elim
 | _=>cases e
theorem Stt.drop{K:qF}{C G:Ctx}{l:En}{σ:St}{H H':Hp}{n y:Nat}(S:Stt K G l σ H n)(R:Hn K C.hd H' y)(I:∀a,C.ext a->MutO (H' a))(hx:∀a,C.hd=some a->C.ext a)
  (u:∀a o,H a=some o->¬Own G l σ a->H' a=some o/\¬C.ext a):Stt K C (JH l) σ H' y where
 len:=by rw[zmP];exact S.len
 val:=fun i d h=>by obtain⟨rfl,L,ts,N⟩:=Q9 h;cases N;obtain⟨v,h1,J⟩:=S.val 0 _ L;exact⟨v,h1,(J.scrHd fun a o x no=>⟨(u a o x no).1,fun z=>z.elim (u a o x no).2 zeZ⟩).1⟩
 own:=fun i ds h=>by obtain⟨_,_,ts,e⟩:=Q9 h;cases e
 dct:=fun i ds h=>by obtain⟨_,_,ts,e⟩:=Q9 h;cases e
 rdo:=fun i ds h=>by obtain⟨_,_,ts,e⟩:=Q9 h;cases e
 dtt:=fun i ds h=>by obtain⟨_,_,ts,e⟩:=Q9 h;cases e
 dif:=fun i j ds es a m _ h=>by obtain⟨_,_,ts,e⟩:=Q9 h;subst e;cases m
 hnd:=R
 ext:=I
 hx:=hx
section
variable{X:Cx}{st:eK}{sts:List eK}{ps:List Str}{f:aj}{fd:dz}{u:DTS}{x s kx hx:Str}{pos pos' p p1 p2 p3:Pos}{k:Nat}
theorem zmO{i j:Nat}(D:Bd.Def X.K X.mg hx st ps f fd)(G:FnOk X.prog X.w X.K X.mg X.base CX0 k f fd ps (YO X.K))(hr:Room k X.A)(hN:X.N.Nodup)(hi:X.N[i]?=some x)(hlx:Loc X.env.scope x)(hu:DSs X sts u)(hij:i≠0:=by decide)(hj0:j≠0:=by decide)(hji:j≠i:=by decide)
  (h0:X.N[0]?=some s:=by rfl) (hj:X.N[j]?=some kx:=by rfl) (hv0:Vis X.env.scope s:=by walk_at "V") (hvj:Vis X.env.scope kx:=by walk_at "V")
  (hd0:(s == ("__debug__":Str))=false:=by rfl) (LS:(s == ("__classdict__":Str))=false:=by rfl) (hdj:(kx == ("__debug__":Str))=false:=by rfl) (LU:(kx == ("__classdict__":Str))=false:=by rfl) (hg:Gl X hx:=by rfl) (hdb:(hx == ("__debug__":Str))=false:=by rfl)
  (hs:swapsWith (.Call (.Name hx p) [.Name s p1,.Name kx p2] [] p3) (some (.Name x pos')) pos.line X.env=pure false:=by rfl) (hf:X.fn x=true\/X.env.scope.names.lookup x=some .local:=by walk_at "F") :
  DSs X (.Assign [.Name x pos'] (.Call (.Name hx p) [.Name s p1,.Name kx p2] [] p3) pos::sts) (Ud i j u):=by
 obtain⟨tu,pu,hu⟩:=hu;refine⟨_,Qj (Qs hN hi hlx (Bd.zog D G hr (JW (Qr h0 hv0 hd0 LS) (JW (Qr hj hvj hdj LU) Qi rfl) rfl) hg hdb) hs hf) pu,fun C ρ σ H n Dn D' S hd g=>?_⟩;unfold Ud zpT at hd;split at hd;rename_i ts e0;unfold intOf at hd;split at hd;rename_i U ej;obtain⟨⟨ns,rfl,hl⟩,k0,k1,hd⟩:=hd;obtain⟨v0,s0,r0⟩:=S.val 0 _ e0;obtain⟨vj,sj,rj⟩:=S.val j _ ej;obtain⟨a0,rfl,sq0⟩:=r0.scrI;rw[rj.intI]at sj;refine⟨_,s0,_,sj,?_⟩;refine⟨a0,ns,U,rfl,sq0,hl,k0,k1,fun h H1 R hok J=>?_⟩;have S1:=S.on (Same.ext J:ExtE C.hd H H1) (S.hnd.same J);have nx:¬Own C ρ σ h:=fun z=>S.dom z R;have Sd:Stt X.K ⟨some h,fun a=>C.ext a\/a=h⟩ (JH ρ) σ H1 0:=S.drop (fun a ea=>by cases ea;exact .inl ⟨hok,by decide⟩) (fun a z=>z.elim (fun z=>S1.ext a z) fun z=>by subst z;obtain⟨_,_,_,q,_⟩:=hok;exact .inl ⟨_,q⟩) (fun a ea=>.inr (by cases ea;rfl))
  (fun a o I no=>⟨J a o I,fun z=>z.elim (fun z=>no (.inl z)) fun z=>by subst z;rw[R]at I;cases I⟩)
 have Sd2:=(Sd.put (i:=j) (t:=.int U) (v:=.int U) (.int U)).put (i:=i) (t:=HAND) (v:=.ref h) (.hand rfl);have LV:∀a,¬OwnS (((JH ρ).set j (some (.val (.int U)))).set i (some (.val HAND))) ((σ.set j (some (.int U))).set i (some (.ref h))) a:=fun a z=>zeZ (ZG (ZG z));have es:(σ.set j (some (V.int U)))=σ:=by
  apply mK;intro q;by_cases z:j=q;subst z;have:j<σ.length:=by rcases cx j σ.length with w|w;exact w;rw[ck w]at sj;cases sj
  rw[zjH this,sj];rw[dP z]
 rw[es]at Sd2 LV;refine hu _ _ _ H1 0 _ _ Sd2 hd ?_;have back:∀{y σ' H' n'},Stt X.K ⟨some h,fun a=>C.ext a\/a=h⟩ y σ' H' n'->(∀a o,H1 a=some o->some h≠some a->H' a=some o)->Stt X.K C (JH y) σ' H' n:=fun {y σ' H' n'} Z kp =>
  Z.drop (fun a ea=>by
    rcases S.hnd a ea with⟨⟨d,m,t,q,rest⟩,l⟩|⟨l,q⟩;exact .inl ⟨⟨d,m,t,kp a _ (J _ _ q) (fun z=>by cases z;rw[R]at q;cases q),rest⟩,l⟩;exact .inr ⟨l,q.same fun b o e=>kp b _ (J _ _ e) (fun z=>by cases z;rw[R]at e;cases e)⟩)
   (fun a z=>by rcases S.ext a z with⟨xs,q⟩|⟨xs,q⟩|⟨b,q⟩;exact .inl ⟨xs,kp a _ (J _ _ q) (fun z=>by cases z;rw[R]at q;cases q)⟩;exact .inr (.inl ⟨xs,kp a _ (J _ _ q) (fun z=>by cases z;rw[R]at q;cases q)⟩);exact .inr (.inr ⟨b,kp a _ (J _ _ q) (fun z=>by cases z;rw[R]at q;cases q)⟩)) S.hx (fun a o I no=>⟨I,fun z=>no (.inl (.inl z))⟩)
 have Y:∀{y σ' H'},Keep ⟨some h,fun a=>C.ext a\/a=h⟩ (((JH ρ).set j (some (.val (.int U)))).set i (some (.val HAND))) (σ.set i (some (.ref h))) H1 y σ' H'->∀a o,H1 a=some o->some h≠some a->H' a=some o:=fun k a o I na=>(k a o I na (LV a)).1;have kp2:∀{y σ' H'},Keep ⟨some h,fun a=>C.ext a\/a=h⟩ (((JH ρ).set j (some (.val (.int U)))).set i (some (.val HAND))) (σ.set i (some (.ref h))) H1 y σ' H'->Keep C ρ σ H (JH y) σ' H':=fun k a o I _ _=>⟨Y k a o (J a o I) (fun z=>by cases z;rw[R]at I;cases I),zeZ⟩;refine⟨fun y σ' H' n' h' Z L=>g.nx _ _ H' n h' (back Z (Y L)) (kp2 L),fun t n' v H' h' hn' L rp=>?_,fun y σ' H' n' h' Z L=>g.bk _ _ H' n h' (back Z (Y L)) (kp2 L),fun y σ' H' n' h' Z L=>g.ct _ _ H' n h' (back Z (Y L)) (kp2 L),fun _ _ _ h=>h.elim⟩;obtain⟨b,rfl,h'⟩:=h';rw[rp.blI];have kq:∀a o,H a=some o->H' a=some o:=fun a o I=>L a o (J a o I) (fun z=>by cases z;rw[R]at I;cases I) (LV a);refine g.rt _ n _ H' h' (fun a ea=>?_) (fun a o I _ _=>kq a o I) (.bl b);rcases S.hnd a ea with⟨⟨d,m,t,q,rest⟩,l⟩|⟨l,q⟩;exact .inl ⟨⟨d,m,t,kq a _ q,rest⟩,l⟩;exact .inr ⟨l,q.same kq⟩;exact hd.elim;exact hd.elim
end
def znL(K:qF):Sp:=fun vs H Q _=>∃(a:aj) (ns:List Int),vs=[.ref a]/\SqL K H a (ns.map V.int)/\ns.length<=63/\∀H',Q (.bl true) H'
def zrC:GD:=fun ts n R=>∃ns:List Int,ts=[SCR ns]/\ns.length<=63/\∀u,R (.bool true) u
theorem zoA{K:qF}(vs:List V)(H:Hp)(Q:VK)(E:XK)(h:znL K vs H Q E):spD K 1 zrC vs H Q E:=by obtain⟨a,ns,rfl,sq,x,q⟩:=h;refine⟨none,fun _=>False,[SCR ns],0,fun t _=>t=.bool true,.cons ?_ .nil,(fun a e=>by cases e),(fun a z=>z.elim),(fun a e=>by cases e),rfl,⟨ns,rfl,x,fun _=>rfl⟩,fun t C v H' u _ _ y=>?_⟩;rcases sq with sq|sq;exact .scr sq (fun z=>z);exact .scrS fun _=>.inr sq;subst u;rw[y.blI];exact q H'
section
variable{env:Env}{es:List bg}{a b:bg}{l1 l2:List bg}{p:Pos}{x:Str}
theorem Js:starEach (.Name x p::es) env=(false,eval (.Name x p) env)::starEach es env:=rfl
theorem UU{j}:starEach (.Constant (.int i) j p::es) env=(false,eval (.Constant (.int i) j p) env)::starEach es env:=rfl
theorem Ut{c d}:starEach (.Call a l1 c d::es) env=(false,eval (.Call a l1 c d) env)::starEach es env:=rfl
theorem YQ{o}:starEach (.BinOp a o b p::es) env=(false,eval (.BinOp a o b p) env)::starEach es env:=rfl
theorem U8{g s}:starEach (.ListComp a g s p::es) env=(false,eval (.ListComp a g s p) env)::starEach es env:=rfl
end
section
variable{C:Int->Int->Prop}{f:Int->Int->Int}{fb:Int->Int->Bool}{i j k:Int}{R:ah->Prop}{Rb:Bool->Prop}{xs ys:qD}{s t:Str}{a b:Bool}{u v:ah}
theorem l_gI:gI C f (.int i) (.int j) R=(C i j/\R (.int (f i j))):=propext bL
theorem zoC:gI0 f (.int i) (.int j) R=R (.int (f i j)):=propext bL
theorem YZ:oAdd (.int i) (.int j) R=R (.int (i+j)):=propext bL
theorem Yu:oEq (.int i) (.int j) R=R (.bool (decide (i=j))):=propext bL
theorem Yt:oEq (.bool a) (.bool b) R=R (.bool (decide (a=b))):=propext bL
theorem Yz:oNe (.list xs) (.list ys) R=(Okd (.list xs)/\Okd (.list ys)/\R (.bool (!PyData.eqv (.list xs) (.list ys)))):=propext bL
theorem Yw:oLtA (.int i) (.int j) R=R (.bool (decide (i<j))):=propext bL
theorem Yv:oLeA (.int i) (.int j) R=R (.bool (decide (i<=j))):=propext bL
theorem zqM(h:atI xs i=some x):oIx (.list xs) (.int i) R=R x:=by show(match atI xs i with|some t=>R t|none=>False)=_;rw[h]
theorem zoB(h:atI xs i=some x):oIx (.tuple xs) (.int i) R=R x:=by show(match atI xs i with|some t=>R t|none=>False)=_;rw[h]
theorem Y0:oIx (.tuple (u::xs)) (.int 0) R=R u:=zoB (by unfold atI ixN;simp)
theorem Y1:oIx (.tuple (u::v::xs)) (.int 1) R=R v:=zoB (by unfold atI ixN;simp;rw[if_pos (by omega)];rfl)
theorem Y2:truD (.bool a) Rb=Rb a:=propext bL
theorem Y3:truD (.list xs) Rb=Rb (!xs.isEmpty):=propext bL
theorem Ys:bolD (.bool a) Rb=Rb a:=propext bL
theorem Yy:bMin [.int i,.int j] R=R (.int (if j<i then j else i)):=propext bL
theorem Yx:bMax [.int i,.int j] R=R (.int (if j > i then j else i)):=propext bL
theorem Zv:UR [.list xs] R=R (.tuple xs):=propext bL
theorem Zf:JG (.list xs) Rl=Rl xs:=propext bL
theorem Zu:JG (.tuple xs) Rl=Rl xs:=propext bL
theorem zqR(y:String)(h:y∈["NoneType","bool","int","str","list","tuple","dict"]):kitB y "int" = some (decide (y = "int")||decide (y = "bool")):=by simp only[au,bq,or_false]at h;rcases h with rfl|rfl|rfl|rfl|rfl|rfl|rfl <;> decide +kernel
theorem zoE(y:String)(h:y∈["NoneType","bool","int","str","list","tuple","dict"]):kitB y "bool" = some (decide (y = "bool")):=by simp only[au,bq,or_false]at h;rcases h with rfl|rfl|rfl|rfl|rfl|rfl|rfl <;> decide +kernel
theorem zmw(y:String)(h:y∈["NoneType","bool","int","str","list","tuple","dict"]):kitB y "tuple" = some (decide (y = "tuple")):=by simp only[au,bq,or_false]at h;rcases h with rfl|rfl|rfl|rfl|rfl|rfl|rfl <;> decide +kernel
def Pln(t:ah):Prop:=tyN t≠none
def isInt:ah->Bool|.int _=>true|.bool _=>true|_=>false
def isBool:ah->Bool|.bool _=>true|_=>false
def isTup:ah->Bool|.tuple _=>true|_=>false
variable{d:DTE}{ρ:En}{n:Nat}{Rn:qN}
theorem Zk(h:tyN u=some y):y∈["NoneType","bool","int","str","list","tuple","dict"]:=by unfold tyN at h;split at h <;> cases h <;> simp
def isiD(f:ah->Bool)(d:DTE):DTE:=fun ρ n R=>d ρ n fun t x=>Pln t/\R (.bool (f t)) x
end
section
variable{X:Cx}{e:bg}{d:DTE}{p p2 pos:Pos}
theorem QQ(Z:∀t y,tyN t=some y->kitB y T=some (f t))(hm:X.mg "isinstance" = none) (u:X.mg y=none) (L:bootBuiltins y=some (.type T)) (h:DL X e d) (J:starEach (e::[.Name y p2]) X.env=(false,eval e X.env)::starEach [.Name y p2] X.env) (hg:Gl X "isinstance":=by rfl) (o:Gl X y:=by rfl) (hn:y ≠ "__name__":=by decide) (hd:(y == ("__debug__":Str))=false:=by rfl) :
  DE X (.Call (.Name "isinstance" p) [e,.Name y p2] [] pos) (isiD f d):=by
 obtain⟨ta,pa,h⟩:=h;refine⟨_,QT zlq hm zig (JW pa (zok (Bd.zoe u L o hn hd) Qi) J) hg,fun C G σ H n Q R S hd U=>?_⟩;refine h C G σ H n _ _ S hd fun t n1 v H1 x Y h1 I=>?_;cases et:tyN t with
 | none=>exact absurd et x.1
 | some z=>exact⟨v,C.hd,Own C G σ,t,T,z,f t,rfl,I,et,Z t z et,U _ n1 _ H1 x.2 Y h1 (.bl _)⟩
theorem znr:∀t y,tyN t=some y->kitB y "int" = some (isInt t):=fun t y e=>by rw[zqR y (Zk e)];unfold tyN at e;split at e <;> cases e <;> rfl
theorem zgP:∀t y,tyN t=some y->kitB y "bool" = some (isBool t):=fun t y e=>by rw[zoE y (Zk e)];unfold tyN at e;split at e <;> cases e <;> rfl
theorem zeW:∀t y,tyN t=some y->kitB y "tuple" = some (isTup t):=fun t y e=>by rw[zmw y (Zk e)];unfold tyN at e;split at e <;> cases e <;> rfl
theorem Q6:Pln (.int i):=by simp[Pln,tyN]
theorem ZC:Pln (.tuple i):=by simp[Pln,tyN]
end
abbrev blk(i h:Int):ah:=.tuple [.int i,.int h]
def IsBk(bits i h:Int):Prop:=0<=h/\h<=bits/\∃k:Int,0<=k/\i=k*2 ^ h.toNat/\k<2 ^ (bits - h).toNat
theorem ZI(k:Nat):(0:Int)<2 ^ k:=Bd.Qt k
theorem zhv:(2:Int) ^ (a+b)=2 ^ a*2 ^ b:=kh 2 a b
theorem IsBk.bounds(v:0<=bits)(H:IsBk bits i h):0<=i/\i+2 ^ h.toNat<=2 ^ bits.toNat:=by
 obtain⟨h0,h1,k,l,rfl,u⟩:=H;have p:=ZI h.toNat;refine⟨Int.mul_nonneg l (cP p),?_⟩;have e:bits.toNat=(bits - h).toNat+h.toNat:=by lia
 rw[e,zhv];have:(k+1)*2 ^ h.toNat<=2 ^ (bits - h).toNat*2 ^ h.toNat:=cG (by lia) (cP p);rw[eG,cU]at this;exact this
theorem cpow(h0:0<=j)(h1:j<=1000000):CPow 1 j:=⟨h0,h1,by decide⟩
section
variable{t u tb:DTS}{D:JL}{ρ ρ0:En}{n i j m:Nat}{d da db dc d1 d2:DTE}{ds di:DTA}{c c' tt:DTT}{g:G2}{g':G2}{gc:GC}{gd:GD}{tg:DTG}{tgs:DTGs}{R:qN}{Rb:Bool->Nat->Prop}{Rl:List ah->Nat->Prop}{Re:En->Prop}{x y:ah}{xs ys acc:qD}{f:Int->Int->Int}{fb:ah->Bool}{k:Bool}{capt:List Nat}{h:Option Cell}
theorem zjp:(sSeq t u D ρ n)=(t { D with nx:=u D } ρ n):=propext bL
theorem zjq:(sRet d D ρ n)=(d ρ n fun t l=>D.rt t l):=propext bL
theorem zjo:(sSet i d D ρ n)=(d ρ n fun t o=>D.nx (ρ.set i (some (.val t))) o):=propext bL
theorem u_dC:(dC x ρ n R)=(R x n):=propext bL
theorem znF:(dOp g da db ρ n R)=(da ρ n fun x o=>db ρ o fun y l=>g x y fun z=>R z l):=propext bL
theorem zju:(dNew ds ρ n R)=(ds ρ n fun ts o=>R (.list ts) o):=propext bL
theorem zjs:(dTup ds ρ n R)=(ds ρ n fun ts o=>R (.tuple ts) o):=propext bL
theorem zjt:(dNil ρ n Rl)=(Rl [] n):=propext bL
theorem zgr:(Qa d ds ρ n Rl)=(d ρ n fun t o=>ds ρ o fun ts l=>Rl (t::ts) l):=propext bL
theorem znG:(dFn gd ds ρ n R)=(ds ρ n fun ts l=>gd ts l R):=propext bL
theorem zeB:(U0 gc ds ρ n R)=(ds ρ n fun ts l=>gc ts fun z=>R z l):=propext bL
def cVal:Option Cell->(ah->Prop)->Prop
 | some (.val d),R=>R d
 | _,_=>False
def cOwn:Option Cell->(List ah->Prop)->Prop
 | some (.own d),R=>R d
 | _,_=>False
theorem zkw:cVal (some (.val x)) Q=Q x:=propext bL
theorem zjr:dVar i ρ n R=cVal (ρ.getD i none) fun d=>R d n:=by
 unfold dVar;rw[bH];cases e:ρ[i]? with
 | none=>exact propext bL
 | some o=>cases o with
  | none=>exact propext bL
  | some c=>cases c <;> exact propext bL
theorem Ze:UG d ρ n Rb=(d ρ n fun t l=>bolD t fun b=>Rb b l):=by unfold UG;congr 1;funext t l;cases t <;> exact propext bL
def lCat:ah->ah->(List ah->Prop)->Prop
 | .list xs,.list ys,R=>xs.length+ys.length<=16777216/\R (xs++ys)
 | _,_,_=>False
theorem YR:dCat da db ρ n Rl=(da ρ n fun x o=>db ρ o fun y l=>lCat x y fun zs=>Rl zs l):=by unfold dCat;congr 1;funext x o;congr 1;funext y l;cases x <;> cases y <;> exact propext bL
def lLst:ah->(List ah->Prop)->Prop
 | .list xs,R=>R xs
 | _,_=>False
def lTup:ah->(List ah->Prop)->Prop
 | .tuple xs,R=>R xs
 | _,_=>False
theorem YS:dItL d ρ n Rl=(d ρ n fun t l=>lLst t fun ts=>Rl ts l):=by unfold dItL;congr 1;funext t l;cases t <;> exact propext bL
theorem YT:dItT d ρ n Rl=(d ρ n fun t l=>lTup t fun ts=>Rl ts l):=by unfold dItT;congr 1;funext t l;cases t <;> exact propext bL
def lInt:ah->(Int->Prop)->Prop
 | .int i,R=>R i
 | _,_=>False
theorem Zl:UF d ρ n Rl=(d ρ n fun t l=>lInt t fun j=>(-(2 ^ 62)<=j/\j<2 ^ 62)/\Rl (J8 0 j.toNat) l):=by unfold UF;congr 1;funext t l;cases t <;> exact propext bL
theorem YU:dNeg d ρ n R=(d ρ n fun t l=>lInt t fun i=>R (.int (-i)) l):=by unfold dNeg;congr 1;funext t l;cases t <;> exact propext bL
def UJ:List ah->(ah->ah->Prop)->Prop
 | [x,y],R=>R x y
 | _,_=>False
theorem YV:sPar i j ds D ρ n=(ds ρ n fun ts o=>UJ ts fun t u=>D.nx ((ρ.set i (some (.val t))).set j (some (.val u))) o):=by unfold sPar;congr 1;funext ts o;rcases ts with _|⟨a,_|⟨b,_|⟨c,r⟩⟩⟩ <;> exact propext bL
theorem ZN:U1 g g' da db dc ρ n R=(da ρ n fun x C=>db ρ C fun y v=>g x y fun z=>bolD z fun b=>if b=true then dc ρ v fun w G=>g' y w fun z=>R z G else R (.bool false) v):=by
 unfold U1;congr 1;funext x C;congr 1;funext y v;congr 1;funext z;cases z with
 | bool b=>cases b <;> simp[bolD]
 | _=>exact propext bL
def QU(ρ:En)(i:Nat)(D:JL)(l:DTE)(t:ah)(C:Nat)(ts:qD):Prop:=l ρ C fun j v=>lInt j fun j=>(match ixN ts.length j with|some k=>D.nx (ρ.set i (some (.own (ts.set k t)))) v|none=>False)
theorem YJ:sPut i dj d D ρ n=(d ρ n fun t l=>cOwn (ρ.getD i none) fun xs=>QU ρ i D dj t l xs):=by
 unfold sPut;congr 1;funext t l;rw[bH];cases e:ρ[i]? with
 | none=>exact propext bL
 | some o=>cases o with
  | none=>exact propext bL
  | some c=>cases c with
   | val _=>exact propext bL
   | dct _=>exact propext bL
   | dtt _=>exact propext bL
   | rdo _=>exact propext bL
   | own xs =>show(dj ρ l fun j v=>_)=QU ρ i D dj t l xs;unfold QU;congr 1;funext j v;cases j <;> exact propext bL
end
section
variable{t u tb:DTS}{D:JL}{ρ ρ0:En}{n i j m:Nat}{d da db dc d1 d2:DTE}{ds di:DTA}{c c' tt:DTT}{g:G2}{g':G2}{gc:GC}{gd:GD}{tg:DTG}{tgs:DTGs}{R:qN}{Rb:Bool->Nat->Prop}{Rl:List ah->Nat->Prop}{Re:En->Prop}{x y:ah}{xs ys acc:qD}{f:Int->Int->Int}{fb:ah->Bool}{k:Bool}{capt:List Nat}
theorem zq_(h:t { D with nx:=u D } ρ n):sSeq t u D ρ n:=h
theorem zoJ(h:D.nx ρ n):znT D ρ n:=h
theorem zra(h:d ρ n fun t l=>D.rt t l):sRet d D ρ n:=h
theorem ztO(h:c ρ n fun b l=>if b=true then t D ρ l else u D ρ l):sIf c t u D ρ n:=h
theorem zrd(h:d ρ n fun t o=>tg t ρ fun l=>D.nx l o):sAsg d tg D ρ n:=h
theorem zrc(h:di ρ n fun ts l=>forP tg tb D ts ρ l):sFor di tg tb D ρ n:=h
theorem i_dC(h:R x n):dC x ρ n R:=h
theorem ztT(h:da ρ n fun x o=>db ρ o fun y l=>g x y fun z=>R z l):dOp g da db ρ n R:=h
theorem zrq(h:ds ρ n fun ts o=>R (.list ts) o):dNew ds ρ n R:=h
theorem zrl(h:ds ρ n fun ts o=>R (.tuple ts) o):dTup ds ρ n R:=h
theorem zrp(h:Rl [] n):dNil ρ n Rl:=h
theorem zoP(h:d ρ n fun t o=>ds ρ o fun ts l=>Rl (t::ts) l):Qa d ds ρ n Rl:=h
theorem ztU(h:ds ρ n fun ts l=>gd ts l R):dFn gd ds ρ n R:=h
theorem zru(h:ds ρ n fun ts o=>gd ts o fun t l=>JO t=true/\R t l):dFnL gd ds ρ n R:=h
theorem zmF(h:ds ρ n fun ts l=>gc ts fun z=>R z l):U0 gc ds ρ n R:=h
theorem zrw(h:c ρ n fun b l=>if b=true then c' ρ l Rb else Rb false l):dAnd c c' ρ n Rb:=h
theorem ztS(h:c ρ n fun b l=>if b=true then Rb true l else c' ρ l Rb):dOr c c' ρ n Rb:=h
theorem zro(h:c ρ n fun b l=>Rb (!b) l):dNot c ρ n Rb:=h
theorem zoR(h:da ρ n fun t v=>bolD t fun b=>if b=true then db ρ v R else R (.bool false) v):zpb da db ρ n R:=h
theorem zrm(h:d ρ n fun t l=>truD t fun b=>Rb b l):dTru d ρ n Rb:=h
theorem zkK(h:d ρ n fun t l=>JG t fun ts=>Rl ts l):zgU d ρ n Rl:=h
theorem zoQ(h:di ρ n fun ts l=>JD tg tt d (Jl m capt ρ) ts [] l Rl):dComp m capt di tg tt d ρ n Rl:=h
theorem zrk(h:Rb true n):dYes ρ n Rb:=h
theorem zoH(h:tgs xs ρ Re):Uf tgs (.tuple xs) ρ Re:=h
theorem zoI(h:Re ρ):Ue [] ρ Re:=h
theorem zmC(h:tg x ρ fun l=>tgs xs l Re):QC tg tgs (x::xs) ρ Re:=h
theorem zoL(h:d ρ n fun t l=>bolD t fun b=>Rb b l):UG d ρ n Rb:=Ze.symm▸h
theorem zrv(h:da ρ n fun x o=>db ρ o fun y l=>lCat x y fun zs=>Rl zs l):dCat da db ρ n Rl:=YR.symm▸h
theorem zrt(h:d ρ n fun t l=>lLst t fun ts=>Rl ts l):dItL d ρ n Rl:=YS.symm▸h
theorem zrs(h:d ρ n fun t l=>lTup t fun ts=>Rl ts l):dItT d ρ n Rl:=YT.symm▸h
theorem zoN(h:d ρ n fun t l=>lInt t fun j=>(-(2 ^ 62)<=j/\j<2 ^ 62)/\Rl (J8 0 j.toNat) l):UF d ρ n Rl:=Zl.symm▸h
theorem zrr(h:d ρ n fun t l=>lInt t fun i=>R (.int (-i)) l):dNeg d ρ n R:=YU.symm▸h
theorem zmE(h:da ρ n fun x G=>db ρ G fun y v=>g x y fun z=>bolD z fun b=>if b=true then dc ρ v fun w C=>g' y w fun z=>R z C else R (.bool false) v):U1 g g' da db dc ρ n R:=ZN.symm▸h
theorem zrb(h:ds ρ n fun ts o=>UJ ts fun t u=>D.nx ((ρ.set i (some (.val t))).set j (some (.val u))) o):sPar i j ds D ρ n:=YV.symm▸h
def lIsi(fb:ah->Bool)(t:ah)(R:ah->Prop):Prop:=Pln t/\R (.bool (fb t))
theorem zrh(h:d ρ n fun t l=>lIsi fb t fun z=>R z l):isiD fb d ρ n R:=h
theorem zno(e:ρ[i]?=some (some (.val x)))(h:R x n):dVar i ρ n R:=by unfold dVar;rw[e];exact h
theorem znp(e:ρ[i]?=some (some (.own xs)))(h:R (.list xs) n):dOwn i ρ n R:=by unfold dOwn;rw[e];exact h
theorem zhT(e:ρ[i]?=some (some (.own xs)))(h:d ρ n fun t l=>xs.length<16777216/\D.nx (ρ.set i (some (.own (xs++[t])))) l):U5 i d D ρ n:=by unfold U5;rw[e];exact h
theorem zhS(e:ρ[i]?=some (some (.own xs)))(h:t D (ρ.set i (some (.val (.list xs)))) n):U6 i t D ρ n:=by unfold U6;rw[e];exact h
theorem ztP(e:ρ[i]?=some (some (.own xs)))(h:d ρ n fun t l=>QU ρ i D dj t l xs):sPut i dj d D ρ n:=by rw[YJ,bH,e];exact h
theorem zre(h:dj ρ n fun j l=>lInt j fun j=>(match ixN xs.length j with|some k=>D.nx (ρ.set i (some (.own (xs.set k x)))) l|none=>False)):QU ρ i D dj x n xs:=h
theorem ztR{A B:Prop}(h1:b=true->A)(l:b=false->B):if b=true then A else B:=by cases b with|true=>exact iteT (h1 rfl)|false=>exact iteF (l rfl)
theorem zrg{p:Prop}[Decidable p]{A B:Prop}(h1:p->A)(l:¬p->B):if decide p=true then A else B:=by by_cases h:p;rw[decide_eq_true h];exact iteT (h1 h);rw[decide_eq_false h];exact iteF (l h)
theorem zrf{A B:Prop}(h:if b=true then B else A):if (!b)=true then A else B:=by cases b with|true=>exact iteF h|false=>exact iteT h
end
section
variable{C:Int->Int->Prop}{f:Int->Int->Int}{fb:Int->Int->Bool}{i j k:Int}{R:ah->Prop}{Rb:Bool->Prop}{xs ys:qD}{s t:Str}{a b:Bool}{u v x y:ah}{Rn:qN}{n:Nat}
theorem zq3(h:R (.int (i+j))):oAdd (.int i) (.int j) R:=YZ.symm▸h
theorem ztJ(h:R (.bool (decide (i=j)))):oEq (.int i) (.int j) R:=Yu.symm▸h
theorem ztK(h:R (.bool (decide (a=b)))):oEq (.bool a) (.bool b) R:=Yt.symm▸h
theorem ztA(h:(Okd (.list xs)/\Okd (.list ys)/\R (.bool (!PyData.eqv (.list xs) (.list ys))))):oNe (.list xs) (.list ys) R:=Yz.symm▸h
theorem ztF(h:R (.bool (decide (i<j)))):oLtA (.int i) (.int j) R:=Yw.symm▸h
theorem ztH(h:R (.bool (decide (i<=j)))):oLeA (.int i) (.int j) R:=Yv.symm▸h
theorem zq1(h:R u):oIx (.tuple (u::xs)) (.int 0) R:=Y0.symm▸h
theorem zq0(h:R v):oIx (.tuple (u::v::xs)) (.int 1) R:=Y1.symm▸h
theorem zqU(h:Rb a):truD (.bool a) Rb:=Y2.symm▸h
theorem zqT(h:Rb (!xs.isEmpty)):truD (.list xs) Rb:=Y3.symm▸h
theorem ztM(h:Rb a):bolD (.bool a) Rb:=Ys.symm▸h
theorem zqZ(h:R (.int xs.length)):bLen [.list xs] R:=.inl ⟨xs,rfl,h⟩
theorem zqY(h:R (.int xs.length)):bLen [.tuple xs] R:=.inr (.inl ⟨xs,rfl,h⟩)
theorem zmy(h:R (.int ns.length)):bLen [SCR ns] R:=.inr (.inr (.inr ⟨_,rfl,by rw[aR];exact h⟩))
theorem ztD(h:R (.int (if j<i then j else i))):bMin [.int i,.int j] R:=Yy.symm▸h
theorem ztE(h:R (.int (if j > i then j else i))):bMax [.int i,.int j] R:=Yx.symm▸h
theorem zmx(h:R (.tuple xs)):UR [.list xs] R:=Zv.symm▸h
theorem zkD(h:Rl xs):JG (.list xs) Rl:=Zf.symm▸h
theorem zhN(h:Rl xs):JG (.tuple xs) Rl:=Zu.symm▸h
theorem ztL(h:(xs.length+ys.length<=16777216/\Q (xs++ys))):lCat (.list xs) (.list ys) Q:=h
theorem ztG(h:Q xs):lLst (.list xs) Q:=h
theorem ztv(h:Q xs):lTup (.tuple xs) Q:=h
theorem ztI(h:Q i):lInt (.int i) Q:=h
theorem zqX(h:Q x y):UJ [x,y] Q:=h
theorem ztB(c:CMul i j)(h:R (.int (i*j))):oMul (.int i) (.int j) R:=⟨c,h⟩
theorem ztC(c:0<j)(h:R (.int (i % j))):oMod (.int i) (.int j) R:=⟨c,h⟩
theorem zq2(c:UI i j)(h:R (.int (i / j))):Uh (.int i) (.int j) R:=⟨c,h⟩
theorem ztz(c:CPow i j)(h:R (.int (i*2 ^ j.toNat))):oShl (.int i) (.int j) R:=⟨c,h⟩
theorem zty(c:0<=j)(h:R (.int (i / 2 ^ j.toNat))):oShr (.int i) (.int j) R:=⟨c,h⟩
theorem ztw(h:R (.int (i - j))):oSub (.int i) (.int j) R:=h
theorem ztu(h:R (.int (cY i j))):oXor (.int i) (.int j) R:=h
theorem ztN(h:R (.int (gP i j))):oAnd (.int i) (.int j) R:=h
theorem j_gB(h:R (.bool (fb i j))):gB fb (.int i) (.int j) R:=h
theorem zgN(h:R (.bool true)):lIsi isInt (.int i) R:=⟨Q6,h⟩
theorem zfN(h:R (.bool false)):lIsi isBool (.int i) R:=⟨Q6,h⟩
theorem zgM(h:R (.bool false)):lIsi isTup (.int i) R:=⟨Q6,h⟩
theorem zeV(h:R (.bool true)):lIsi isTup (.tuple xs) R:=⟨ZC,h⟩
end
theorem zn7{h:Int}(h0:0<h):(2:Int) ^ h.toNat=2*2 ^ (h - 1).toNat:=by
 have e:h.toNat=(h - 1).toNat+1:=by lia
 rw[e,bM,cQ]
theorem zqi{h:Int}(h0:0<=h):(2:Int) ^ (h+1).toNat=2*2 ^ h.toNat:=by have:=zn7 (h:=h+1) (by lia);rw[this];simp
theorem IsBk.low{bits i h:Int}(B:IsBk bits i h)(l:0<h):IsBk bits i (h - 1):=by
 obtain⟨h0,h1,k,u,rfl,v⟩:=B;refine⟨by lia,by lia,2*k,by lia,?_,?_⟩;rw[zn7 l,<- fe,cQ k 2];have e:(bits - (h - 1)).toNat=(bits - h).toNat+1:=by lia
 rw[e,bM];lia
theorem IsBk.up{bits i h:Int}(B:IsBk bits i h)(l:0<h):IsBk bits (i+2 ^ h.toNat / 2) (h - 1):=by
 obtain⟨h0,h1,k,u,rfl,v⟩:=B;refine⟨by lia,by lia,2*k+1,by lia,?_,?_⟩;rw[zn7 l];have:2*(2:Int) ^ (h - 1).toNat / 2=2 ^ (h - 1).toNat:=by lia
 rw[this,eG,cU,<- fe,cQ k 2];have e:(bits - (h - 1)).toNat=(bits - h).toNat+1:=by lia
 rw[e,bM];lia
theorem zhC(P:Int)(l:0<P):k*P % (2*P)=(k % 2)*P:=by rw[cQ 2 P,cQ k P,Int.mul_emod_mul_of_pos _ _ l,cQ]
theorem IsBk.abt{bits i h:Int}(B:IsBk bits i h)(v:h<bits):IsBk bits (i - i % (2*2 ^ h.toNat)) (h+1):=by
 obtain⟨h0,h1,k,u,rfl,l⟩:=B;refine⟨by lia,by lia,k / 2,by lia,?_,?_⟩;rw[zhC _ (ZI _),zqi h0,<- xF];have:k - k % 2=k / 2*2:=by lia
 rw[this,fe];have e:(bits - h).toNat=(bits - (h+1)).toNat+1:=by lia
 rw[e,bM]at l;lia
theorem IsBk.oth(B:IsBk bits i h)(v:h<bits):IsBk bits (cY i (2 ^ h.toNat)) h:=by
 obtain⟨h0,h1,k,l,rfl,u⟩:=B;rw[zg9 _ l];have e:(bits - h).toNat=(bits - (h+1)).toNat+1:=by lia
 split;refine⟨h0,h1,k+1,by lia,by rw[eG,cU],?_⟩;rw[e,bM]at u ⊢;lia;refine⟨h0,h1,k - 1,by lia,by rw[xF,cU],by lia⟩
theorem IsBk.nxt(B:IsBk bits i h)(l:i+2*2 ^ h.toNat<=2 ^ bits.toNat):IsBk bits (i+2 ^ h.toNat) h:=by
 obtain⟨h0,h1,k,u,rfl,v⟩:=B;refine⟨h0,h1,k+1,by lia,by rw[eG,cU],?_⟩;have e:bits.toNat=(bits - h).toNat+h.toNat:=by lia
 rw[e,zhv]at l;have p:=ZI h.toNat;have:(k+2)*2 ^ h.toNat<=2 ^ (bits - h).toNat*2 ^ h.toNat:=by rw[eG];exact l
 have:=Int.le_of_mul_le_mul_right this p;lia
theorem zt1:CMul 2 j:=.inl ⟨by decide,by decide⟩
theorem zt2:UI j 2:=⟨by decide,by decide⟩
theorem Zw(h:Nat):(1:Int)*2 ^ h=2 ^ h:=cU _
def BlkN(bits i:Int)(h:Nat):Prop:=(h:Int)<=bits/\∃k:Int,0<=k/\i=k*2 ^ h/\k<2 ^ (bits.toNat - h)
theorem IsBk.n(B:IsBk bits i h):BlkN bits i h.toNat:=by
 obtain⟨h0,h1,k,l,e,u⟩:=B;refine⟨by lia,k,l,e,?_⟩;have:(bits - h).toNat=bits.toNat - h.toNat:=by lia
 rw[<- this];exact u
theorem zlx(b:BlkN bits j g)(l:g<=h):j / 2 ^ h*2 ^ h<=j/\j+2 ^ g<=(j / 2 ^ h+1)*2 ^ h:=by
 obtain⟨_,m,m0,rfl,_⟩:=b;have y:=Bd.Qt h;have x:=Bd.Qt g;have u:=Bd.Qt (h - g);have o:(2:Int) ^ h=2 ^ (h - g)*2 ^ g:=by rw[<- kh];congr 1;lia
 refine⟨Int.ediv_mul_le _ (by lia),?_⟩;have eq:(m*2 ^ g) / 2 ^ h=m / 2 ^ (h - g):=by rw[o];exact Int.mul_ediv_mul_of_pos_left m _ x
 rw[eq,o,<- fe];have v:m*2 ^ g+2 ^ g=(m+1)*2 ^ g:=by rw[eG,cU]
 rw[v];refine cG ?_ (by lia);have:=Int.lt_ediv_add_one_mul_self m u;lia
theorem zhB{a b A:Int}(p:0<A)(l:a<b):(a+1)*A<=b*A:=cG (by lia) (by lia)
theorem zkM(u:BlkN bits i h)(v:BlkN bits j g):(g<=h/\j / 2 ^ h*2 ^ h=i)↔(i<=j/\j+2 ^ g<=i+2 ^ h):=by
 have o:=Bd.Qt h;have C:=Bd.Qt g;constructor;rintro⟨l,e⟩;have t:=zlx v l;rw[e,eG,cU,e]at t;exact t;rintro⟨x,l2⟩;have l:g<=h:=by
  by_cases z:g<=h;exact z;exfalso;have:(2:Int) ^ h<2 ^ g:=by
   have e:(2:Int) ^ g=2 ^ (g - h)*2 ^ h:=by rw[<- kh];congr 1;lia
   have p2:(2:Int)<=2 ^ (g - h):=by obtain⟨d,hd⟩:∃d,g - h=d+1:=⟨g - h - 1,by lia⟩;rw[hd,bM];have:=Bd.Qt d;lia
   rw[e];have:=cG p2 (show(0:Int)<=2 ^ h by lia);lia
  lia
 refine⟨l,?_⟩;obtain⟨_,k,y,rfl,_⟩:=u;have e:j / 2 ^ h=k:=by have a1:k<=j / 2 ^ h:=(nK o).mpr x;have a2:j / 2 ^ h<k+1:=(nL o).mpr (by rw[eG,cU];lia);lia
 rw[e]
theorem zgh{bits i j:Int}{h g:Nat}(u:BlkN bits i h)(v:BlkN bits j g)(l:g<=h):(g<=h/\j / 2 ^ h*2 ^ h=i)\/j+2 ^ g<=i\/i+2 ^ h<=j:=by have o:=Bd.Qt h;have t:=zlx v l;obtain⟨_,k,x,rfl,_⟩:=u;rcases mL (j / 2 ^ h) k with z|z|z;have:=zhB o z;exact .inr (.inl (by lia));exact .inl ⟨l,by rw[z]⟩;have:=zhB o z;rw[eG,cU]at this;exact .inr (.inr (by lia))
theorem zkT(Inv:Nat->En->Nat->Prop):∀(ts:qD) (i:Nat) {o:En}{n:Nat},Inv i o n ->
  (∀(k:Nat) (t:ah) (o:En) (n:Nat) (K:En->Nat->Prop),ts[k]?=some t->Inv (i+k) o n->(∀v x,Inv (i+k+1) v x->K v x)->g t o fun v=>tb { D with nx:=K,ct:=K,bk:=D.nx } v n) ->
  (∀o n,Inv (i+ts.length) o n->D.nx o n)->forP g tb D ts o n
 | [],i,o,n,h0,_,fin=>fin o n (by simpa using h0)
 | t::ts,i,o,n,h0,turn,fin=>by
  refine turn 0 t o n _ rfl (by simpa using h0) fun v x h'=>?_;refine zkT Inv ts (i+1) (by simpa using h') (fun k u o n K e y C=>?_) (fun o n h=>fin o n ?_);refine turn (k+1) u o n K (by simpa using e) ?_ fun v x h'=>C v x ?_;have:i+(k+1)=i+1+k:=by lia
  rw[this];exact y;have:i+1+k+1=i+(k+1)+1:=by lia
  rw[this];exact h';have:i+(t::ts).length=i+1+ts.length:=by simp;lia
  rw[this]at *;exact h
theorem Yc(Inv:Nat->En->Nat->Prop)(h0:Inv 0 o n)
  (turn:∀(k:Nat) (t:ah) (o:En) (n:Nat) (K:En->Nat->Prop),ts[k]?=some t->Inv k o n->(∀l u,Inv (k+1) l u->K l u)->g t o fun l=>tb { D with nx:=K,ct:=K,bk:=D.nx } l n)
  (fin:∀o n,Inv ts.length o n->D.nx o n):forP g tb D ts o n:=by
 refine zkT Inv ts 0 h0 (fun k t o n K e v x=>turn k t o n K e (by simpa using v) fun l u h'=>x l u (by simpa using h')) fun o n h=>fin o n (by simpa using h)
theorem ZP{lo:Int}{m i:Nat}{t:ah}(h:(J8 lo m)[i]?=some t):i<m/\t=.int (lo+(i:Int)):=by unfold J8 at h;rw[aN]at h;by_cases hi:i<m;rw[kQ hi]at h;cases h;exact⟨hi,rfl⟩;rw[ck (by simp;lia)]at h;cases h
theorem zix{lo:Int}{m:Nat}:(J8 lo m).length=m:=by simp[J8]
theorem zjj(Inv:Nat->En->Nat->Prop)(h0:Inv m o n)
  (turn:∀m o n,Inv m o n->c o n fun b x=>if b=true then tb { D with nx:=fun l v=>∃u,u<m/\Inv u l v,ct:=fun l v=>∃u,u<m/\Inv u l v,bk:=D.nx } o x else D.nx o x):zjM c tb D o n :=
 ⟨Inv,⟨m,h0⟩,turn⟩
theorem IsBk.x4(B:IsBk bits i h):cY i (2 ^ h.toNat)=if i / 2 ^ h.toNat % 2=0 then i+2 ^ h.toNat else i - 2 ^ h.toNat:=by obtain⟨h0,h1,k,l,rfl,o⟩:=B;rw[zg9 _ l,kT _ (by have:=ZI h.toNat;lia)]
theorem zoK(I:ρ[0]?=some (some (.val (SCR ns))))(G:ρ[j]?=some (some (.val (.int k))))(L:ns.length<=63)(C:0<=k)(J:k<=100)(y:JH ρ=ρd)
  (h:u { nx:=fun x _=>D.nx (JH x) n,rt:=fun t _=>∃b,t=.bool b/\D.rt t n,bk:=fun x _=>D.bk (JH x) n,ct:=fun x _=>D.ct (JH x) n } ((ρd.set j (some (.val (.int k)))).set i (some (.val HAND))) 0):Ud i j u D ρ n:=by
 subst y;unfold Ud;rw[I,G];exact⟨⟨ns,rfl,L⟩,C,J,h⟩
def rkAt(rk:af->Int)(xs:Array bW)(i:Nat):Int:=((xs[i]?).map fun p=>rk p.1).getD 0
theorem Us(h:xs[i]?=ys[j]?):rkAt rk xs i=rkAt rk ys j:=by unfold rkAt;rw[h]
theorem zp_(l:u<xs.size)(hd:d<=u)(k:Nat) :
  (k=u - d->rkAt rk (bubble xs u d) k=rkAt rk xs u)/\(u - d<k->k<=u->rkAt rk (bubble xs u d) k=rkAt rk xs (k - 1))/\(k<u - d\/u<k->rkAt rk (bubble xs u d) k=rkAt rk xs k):=by
 have e:=getElem?_bubble l d hd k;refine⟨fun h=>?_,fun h1 o=>?_,fun h=>?_⟩;rw[if_pos h]at e;exact Us e;rw[if_neg (by lia),if_pos ⟨h1,o⟩]at e;exact Us e;rw[if_neg (by lia),if_neg (by lia)]at e;exact Us e
theorem YN(l:j<=xs.size)(k:Nat) :
  (i<=k->k<j->rkAt rk (mirror xs i j ((j - i) / 2)) k=rkAt rk xs (i+j - 1 - k))/\(k<i\/j<=k->rkAt rk (mirror xs i j ((j - i) / 2)) k=rkAt rk xs k):=by
 have e:=getElem?_mirror_all (i:=i) l k;refine⟨fun h1 o=>?_,fun h=>?_⟩;rw[if_pos ⟨h1,o⟩]at e;exact Us e;rw[if_neg (by lia)]at e;exact Us e
structure Sb(kd:fq)(a0:Array bW)(z:bV):Prop where
 pm:(arrOf z).Perm a0
 kn:kindOf z=kd
 fl:failedOf z=none
 pe:pendingOf z=#[]
def Up(rk:af->Int)(xs:Array bW)(m:Nat):Prop:=∀i j,i<j->j<m->rkAt rk xs i<=rkAt rk xs j
section
variable{prog:aJ}{w:a7}{A:aX}{E:qV}{s:aq}{kd:fq}{rk:af->Int}{a0:Array bW}
def Cmp(prog:aJ)(w:a7)(A:aX)(s:aq)(kd:fq)(rk:af->Int)(a0:Array bW):Prop :=
 ∀(p q:bW) (E:qV) (Q:Bool->aq->Prop),p∈a0.toList->q∈a0.toList->Q (decide (rk p.1<rk q.1)) s->wpAny (model prog w) A (keyLt' kd p.1 q.1) Q E s
theorem Sb.sz(b:Sb kd a0 z):(arrOf z).size=a0.size:=b.pm.size_eq
end
section
variable{prog:aJ}{w:a7}{A:aX}{E:qV}{s:aq}{kd:fq}{rk:af->Int}{a0:Array bW}
theorem QO(l:j<=xs.size)(al:∀k,i<=k->k<j->rkAt rk xs k=rkAt rk xs (j - 1))(k:Nat):rkAt rk (mirror xs i j ((j - i) / 2)) k=rkAt rk xs k:=by obtain⟨p,q⟩:=YN (rk:=rk) (i:=i) l k;by_cases g:i<=k/\k<j;rw[p g.1 g.2,al _ (by omega) (by omega),al k g.1 g.2];exact q (by omega)
end
def zgQ:Bool->bW->Array bW->Nat->Nat->Nat->StateT bV Sem (Option Nat):=sortPriv% PySem.Builtin.gallop
section
variable{prog:aJ}{w:a7}{A:aX}{E:qV}{s:aq}{kd:fq}{rk:af->Int}{a0:Array bW}
theorem UL(c:Cmp prog w A s kd rk a0)(k:kindOf z=kd)(o:p∈a0.toList)(l:q∈a0.toList)
  (h:Q (some (decide (rk p.1<rk q.1))) z):wpS (model prog w) A E s (lt' p q) Q z:=by
 rw[lt'_eq];refine aE (kc (aE (nj (fT ?_))));rw[k];exact c p q _ _ o l ⟨rfl,aI h⟩
def bey(rk:af->Int)(left:Bool)(key:bW)(arr:Array bW)(base i:Nat):Bool:=if left then decide (rkAt rk arr (base+i)<rk key.1) else !decide (rk key.1<rkAt rk arr (base+i))
theorem Uw(c:Cmp prog w A s kd rk a0)(k:kindOf z=kd)(hk:key∈a0.toList)
  (ha:∀i,i<n->∃p,arr[base+i]?=some p/\p∈a0.toList) (hn:hint<n) (up:∀i j,i<j->j<n->rkAt rk arr (base+i)<=rkAt rk arr (base+j))
  (h:∀m,m<=n->(∀i,i<m->bey rk left key arr base i=true)->(∀i,m<=i->i<n->bey rk left key arr base i=false)->Q (some m) z):wpS (model prog w) A E s (zgQ left key arr base n hint) Q z:=by
 have e_:zgQ=zgQ:=rfl;conv at e_=>rhs;whnf
 rw[e_];dsimp only;clear e_;have S:∀(i:Nat) (Q:Option Bool->bV->Prop),i<n->Q (some (bey rk left key arr base i)) z->wpS (model prog w) A E s (do
   let x <- elem' arr (base+i)
   if left then lt' x key else return (<- lt' key x).map (!·)) Q z:=by
  intro i Q hi U;obtain⟨p,ep,mp⟩:=ha i hi;have r:rkAt rk arr (base+i)=rk p.1:=by unfold rkAt;rw[ep];rfl
  simp only[xG,ep,pure_bind];unfold bey at U;rw[r]at U;cases left with
  | true=>exact UL c k mp hk (by simpa using U)
  | false =>refine aE (UL c k hk mp ?_);exact aI (by simpa using U)
 have mono:∀i j,i<=j->j<n->bey rk left key arr base j=true->bey rk left key arr base i=true:=by intro i j hij hj L;rcases pU hij with rfl|hlt;exact L;have:=up i j hlt hj;unfold bey at *;cases left <;> simp at * <;> omega
 refine aE (S hint _ hn ?_);dsimp only;cases hr:bey rk left key arr base hint with
 | true =>
  rw[if_pos rfl];refine aE (eV (cy (I:=fun x c G=>G=z/\∃l r,c=(none,l,r)/\l<r/\x<r/\hint+l<n/\bey rk left key arr base (hint+l)=true)
   (Q:=fun c G=>G=z/\∃l r,c=(none,l,r)/\l<r/\hint+l<n/\bey rk left key arr base (hint+l)=true/\(n - hint<=r\/(hint+r<n/\bey rk left key arr base (hint+r)=false))) ?turn ?last ⟨rfl,0,1,rfl,by omega,by omega,by omega,hr⟩) ?post)
  case post =>
   rintro c G ⟨rfl,l,r,rfl,h1,J,C,y⟩;dsimp only;have b1:∀i,i<hint+l+1->bey rk left key arr base i=true:=fun i hi=>mono i (hint+l) (by omega) J C;have b2:∀i,hint+min r (n - hint)<=i->i<n->bey rk left key arr base i=false:=fun i hi N=>by
    rcases y with y|⟨y,R⟩;omega;cases hb':bey rk left key arr base i with
    | false=>rfl
    | true=>rw[mono (hint+r) i (by omega) N hb']at R;cases R
   refine aE (eV (cy (I:=fun x c v=>v=G/\∃l r,c=(none,l,r)/\l<=r/\r<=n/\r - l<=n - x/\(∀i,i<l->bey rk left key arr base i=true)/\(∀i,r<=i->i<n->bey rk left key arr base i=false))
    (Q:=fun c v=>v=G/\∃r,c=(none,r,r)/\r<=n/\(∀i,i<r->bey rk left key arr base i=true)/\(∀i,r<=i->i<n->bey rk left key arr base i=false)) ?turn2 ?last2 ⟨rfl,hint+l+1,hint+min r (n - hint),rfl,by omega,by omega,by omega,b1,b2⟩) ?post2)
   case post2 =>rintro c v ⟨rfl,r,rfl,Y,Z,q3⟩;exact aI (h r Y Z q3)
   case last2 =>
    rintro c v ⟨rfl,l,r,rfl,h1,J,C,y,R⟩;have:l=r:=by omega
    subst this;exact⟨rfl,l,rfl,J,y,R⟩
   case turn2 =>
    rintro x c v _ hx ⟨rfl,l,r,rfl,h1,J,C,y,R⟩;dsimp only;by_cases hge:l>=r;rw[if_pos hge];have:l=r:=by omega
    subst this;exact aI ⟨rfl,l,rfl,J,y,R⟩;rw[if_neg hge];refine aE (S _ _ (by omega) ?_);dsimp only;cases L:bey rk left key arr base (l+(r - l) / 2) with
    | true =>rw[if_pos rfl];exact aI ⟨rfl,_,_,rfl,by omega,J,by omega,fun i hi=>mono i _ (by omega) (by omega) L,R⟩
    | false =>
     rw[if_neg (by simp)];refine aI ⟨rfl,_,_,rfl,by omega,by omega,by omega,y,fun i hi N=>?_⟩;cases hb':bey rk left key arr base i with
     | false=>rfl
     | true=>rw[mono _ i hi N hb']at L;cases L
  case last =>rintro c G ⟨rfl,l,r,rfl,h1,J,C,y⟩;exact⟨rfl,l,r,rfl,h1,C,y,.inl (by omega)⟩
  case turn =>
   rintro x c G _ hx ⟨rfl,l,r,rfl,h1,J,C,y⟩;dsimp only;by_cases hge:r>=n - hint;rw[if_pos hge];exact aI ⟨rfl,l,r,rfl,h1,C,y,.inl hge⟩;rw[if_neg hge];refine aE (S _ _ (by omega) ?_);dsimp only;cases L:bey rk left key arr base (hint+r) with
   | true =>rw[if_neg (by simp)];exact aI ⟨rfl,r,_,rfl,by omega,by omega,by omega,L⟩
   | false =>rw[if_pos (by simp)];exact aI ⟨rfl,l,r,rfl,h1,C,y,.inr ⟨by omega,L⟩⟩
 | false =>
  rw[if_neg (by simp)];refine aE (eV (cy (I:=fun x c G=>G=z/\∃l r,c=(none,l,r)/\l<r/\x<r/\l<=hint/\bey rk left key arr base (hint - l)=false)
   (Q:=fun c G=>G=z/\∃l r,c=(none,l,r)/\l<r/\l<=hint/\bey rk left key arr base (hint - l)=false/\(hint+1<=r\/(r<=hint/\bey rk left key arr base (hint - r)=true))) ?turn ?last ⟨rfl,0,1,rfl,by omega,by omega,by omega,hr⟩) ?post)
  case post =>
   rintro c G ⟨rfl,l,r,rfl,h1,J,C,y⟩;dsimp only;have b1:∀i,i<hint+1 - min r (hint+1)->bey rk left key arr base i=true:=fun i hi=>by rcases y with y|⟨y,R⟩;omega;exact mono i (hint - r) (by omega) (by omega) R
   have b2:∀i,hint - l<=i->i<n->bey rk left key arr base i=false:=fun i hi N=>by
    cases hb':bey rk left key arr base i with
    | false=>rfl
    | true=>rw[mono (hint - l) i (by omega) N hb']at C;cases C
   refine aE (eV (cy (I:=fun x c v=>v=G/\∃l r,c=(none,l,r)/\l<=r/\r<=n/\r - l<=n - x/\(∀i,i<l->bey rk left key arr base i=true)/\(∀i,r<=i->i<n->bey rk left key arr base i=false))
    (Q:=fun c v=>v=G/\∃r,c=(none,r,r)/\r<=n/\(∀i,i<r->bey rk left key arr base i=true)/\(∀i,r<=i->i<n->bey rk left key arr base i=false)) ?turn2 ?last2 ⟨rfl,hint+1 - min r (hint+1),hint - l,rfl,by omega,by omega,by omega,b1,b2⟩) ?post2)
   case post2 =>rintro c v ⟨rfl,r,rfl,Y,Z,q3⟩;exact aI (h r Y Z q3)
   case last2 =>
    rintro c v ⟨rfl,l,r,rfl,h1,J,C,y,R⟩;have:l=r:=by omega
    subst this;exact⟨rfl,l,rfl,J,y,R⟩
   case turn2 =>
    rintro x c v _ hx ⟨rfl,l,r,rfl,h1,J,C,y,R⟩;dsimp only;by_cases hge:l>=r;rw[if_pos hge];have:l=r:=by omega
    subst this;exact aI ⟨rfl,l,rfl,J,y,R⟩;rw[if_neg hge];refine aE (S _ _ (by omega) ?_);dsimp only;cases L:bey rk left key arr base (l+(r - l) / 2) with
    | true =>rw[if_pos rfl];exact aI ⟨rfl,_,_,rfl,by omega,J,by omega,fun i hi=>mono i _ (by omega) (by omega) L,R⟩
    | false =>
     rw[if_neg (by simp)];refine aI ⟨rfl,_,_,rfl,by omega,by omega,by omega,y,fun i hi N=>?_⟩;cases hb':bey rk left key arr base i with
     | false=>rfl
     | true=>rw[mono _ i hi N hb']at L;cases L
  case last =>rintro c G ⟨rfl,l,r,rfl,h1,J,C,y⟩;exact⟨rfl,l,r,rfl,h1,C,y,.inl (by omega)⟩
  case turn =>
   rintro x c G _ hx ⟨rfl,l,r,rfl,h1,J,C,y⟩;dsimp only;by_cases hge:r>=hint+1;rw[if_pos hge];exact aI ⟨rfl,l,r,rfl,h1,C,y,.inl hge⟩;rw[if_neg hge];refine aE (S _ _ (by omega) ?_);dsimp only;cases L:bey rk left key arr base (hint - r) with
   | true =>rw[if_pos rfl];exact aI ⟨rfl,l,r,rfl,h1,C,y,.inr ⟨by omega,L⟩⟩
   | false =>rw[if_neg (by simp)];exact aI ⟨rfl,r,_,rfl,by omega,by omega,by omega,L⟩
end
end L2
namespace L2
section
variable{α:Type}{r:α->Int}{a b out:List α}{ia ib na nb k:Nat}
theorem m1{x:α}{l m:List α}(h:x∈l):x∈l++m:=aC.mpr (.inl h)
theorem m2{x:α}{l m:List α}(h:x∈m):x∈l++m:=aC.mpr (.inr h)
def Ris(r:α->Int)(l:List α):Prop:=l.Pairwise fun x y=>r x<=r y
structure MLo(r:α->Int)(a b out:List α)(ia ib:Nat):Prop where
 pm:(out++(a.drop ia++b.drop ib)).Perm (a++b)
 so:Ris r out
 le:∀x∈out,∀y∈a.drop ia++b.drop ib,r x<=r y
theorem JK{l m:List α}:Ris r (l++m)↔Ris r l/\Ris r m/\∀x∈l,∀y∈m,r x<=r y:=eW
theorem Ris.drop{l:List α}(h:Ris r l)(k:Nat):Ris r (l.drop k):=oq (mM k l) h
theorem Ris.take{l:List α}(h:Ris r l)(k:Nat):Ris r (l.take k):=oq (mF k l) h
theorem cut2(l:List α)(i k:Nat):l.drop i=(l.drop i).take k++l.drop (i+k):=by rw[<- List.drop_drop];exact(ft k _).symm
theorem MLo.takeB(h:MLo r a b out ia ib)(C:Ris r b)(c:∀y∈(b.drop ib).take k,∀x∈a.drop ia,r y<=r x):MLo r a b (out++(b.drop ib).take k) ia (ib+k):=by have e:=cut2 b ib k;obtain⟨h1,v,u⟩:=h;have l:=C.drop ib;rw[e]at h1 u l;have l:=JK.mp l;refine⟨?_,JK.mpr ⟨v,l.1,fun x hx y o=>u x hx y (m2 (m1 o))⟩,fun x hx y o=>?_⟩;refine kF ?_ h1;rw[aY];exact fv _ (k8 _ _ _);rcases aC.mp hx with z|z;refine u x z y ?_;rcases aC.mp o with w|w;exact m1 w;exact m2 (m2 w);rcases aC.mp o with w|w;exact c x z y w;exact l.2.2 x z y w
theorem MLo.takeA(h:MLo r a b out ia ib)(C:Ris r a)(c:∀x∈(a.drop ia).take k,∀y∈b.drop ib,r x<=r y):MLo r a b (out++(a.drop ia).take k) (ia+k) ib:=by have e:=cut2 a ia k;obtain⟨h1,v,u⟩:=h;have l:=C.drop ia;rw[e]at h1 u l;have l:=JK.mp l;refine⟨?_,JK.mpr ⟨v,l.1,fun x hx y o=>u x hx y (m1 (m1 o))⟩,fun x hx y o=>?_⟩;refine kF ?_ h1;simp only[aY];exact tX _;rcases aC.mp hx with z|z;refine u x z y ?_;rcases aC.mp o with w|w;exact m1 (m2 w);exact m2 w;rcases aC.mp o with w|w;exact l.2.2 x z y w;exact c x z y w
theorem take1{l:List α}{i:Nat}{y:α}(h:l[i]?=some y):(l.drop i).take 1=[y]:=by have hi:=(aH.mp h).1;rw[br hi];have:=(aH.mp h).2;simp[this]
theorem MLo.pushB{y:α}(h:MLo r a b out ia ib)(l:Ris r b)(e:b[ib]?=some y)(c:∀x∈a.drop ia,r y<=r x):MLo r a b (out++[y]) ia (ib+1):=by have:=h.takeB (k:=1) l (by rw[take1 e];intro z hz x hx;cases aF.mp hz;exact c x hx);rwa [take1 e]at this
theorem MLo.pushA{x:α}(h:MLo r a b out ia ib)(o:Ris r a)(e:a[ia]?=some x)(c:∀y∈b.drop ib,r x<=r y):MLo r a b (out++[x]) (ia+1) ib:=by have:=h.takeA (k:=1) o (by rw[take1 e];intro z hz y l;cases aF.mp hz;exact c y l);rwa [take1 e]at this
theorem MLo.done(h:MLo r a b out ia ib)(o:Ris r a)(l:Ris r b)(c:∀x∈a.drop ia,∀y∈b.drop ib,r x<=r y):(out++a.drop ia++b.drop ib).Perm (a++b)/\Ris r (out++a.drop ia++b.drop ib):=by refine⟨by rw[aY];exact h.pm,?_⟩;rw[aY];exact JK.mpr ⟨h.so,JK.mpr ⟨o.drop _,l.drop _,c⟩,h.le⟩
theorem MLo.last(h:MLo r a b out ia ib)(u:Ris r a)(o:Ris r b)(c:∀y∈b.drop ib,∀x∈a.drop ia,r y<=r x):(out++b.drop ib++a.drop ia).Perm (a++b)/\Ris r (out++b.drop ib++a.drop ia):=by refine⟨?_,?_⟩;rw[aY];exact(fv _ ot).trans h.pm;rw[aY];refine JK.mpr ⟨h.so,JK.mpr ⟨o.drop _,u.drop _,c⟩,fun x hx y l=>h.le x hx y ?_⟩;rcases aC.mp l with w|w;exact m2 w;exact m1 w
structure MHi(r:α->Int)(a b out:List α)(na nb:Nat):Prop where
 pm:((a.take na++b.take nb)++out).Perm (a++b)
 so:Ris r out
 le:∀x∈a.take na++b.take nb,∀y∈out,r x<=r y
theorem cut3(l:List α){n k:Nat}(h:k<=n):l.take n=l.take k++(l.take n).drop k:=by have:=ft k (l.take n);rw[List.take_take,kG h]at this;exact this.symm
theorem MHi.takeB(h:MHi r a b out na nb)(I:Ris r b)(C:k<=nb)(c:∀x∈a.take na,∀y∈(b.take nb).drop k,r x<=r y):MHi r a b ((b.take nb).drop k++out) na k:=by have e:=cut3 b C;obtain⟨h1,G,u⟩:=h;have l:=I.take nb;rw[e]at h1 u l;have l:=JK.mp l;refine⟨?_,JK.mpr ⟨l.2.1,G,fun x hx y v=>u x (m2 (m2 hx)) y v⟩,fun x hx y v=>?_⟩;refine kF ?_ h1;simp only[aY];exact tX _;rcases aC.mp v with z|z;rcases aC.mp hx with w|w;exact c x w y z;exact l.2.2 x w y z;refine u x ?_ y z;rcases aC.mp hx with w|w;exact m1 w;exact m2 (m1 w)
theorem MHi.takeA(h:MHi r a b out na nb)(I:Ris r a)(C:k<=na)(c:∀x∈b.take nb,∀y∈(a.take na).drop k,r x<=r y):MHi r a b ((a.take na).drop k++out) k nb:=by have e:=cut3 a C;obtain⟨h1,G,u⟩:=h;have l:=I.take na;rw[e]at h1 u l;have l:=JK.mp l;refine⟨?_,JK.mpr ⟨l.2.1,G,fun x hx y v=>u x (m1 (m2 hx)) y v⟩,fun x hx y v=>?_⟩;refine kF ?_ h1;simp only[aY];exact fv _ (k8 _ _ _);rcases aC.mp v with z|z;rcases aC.mp hx with w|w;exact l.2.2 x w y z;exact c x w y z;refine u x ?_ y z;rcases aC.mp hx with w|w;exact m1 (m1 w);exact m2 w
theorem QI{l:List α}{n:Nat}{y:α}(h:l[n]?=some y):(l.take (n+1)).drop n=[y]:=by
 have hi:=(aH.mp h).1;have e:(l.take (n+1))=l.take n++[y]:=by rw[gR,h];rfl
 rw[e,List.drop_append_of_le_length (by simp;omega),gy (by simp;omega)];rfl
theorem MHi.pushB{y:α}(h:MHi r a b out na (nb+1))(l:Ris r b)(e:b[nb]?=some y)(c:∀x∈a.take na,r x<=r y):MHi r a b (y::out) na nb:=by have:=h.takeB (k:=nb) l (by omega) (by rw[QI e];intro x hx z hz;cases aF.mp hz;exact c x hx);rwa [QI e]at this
theorem MHi.pushA{x:α}(h:MHi r a b out (na+1) nb)(o:Ris r a)(e:a[na]?=some x)(c:∀y∈b.take nb,r y<=r x):MHi r a b (x::out) na nb:=by have:=h.takeA (k:=na) o (by omega) (by rw[QI e];intro y l z hz;cases aF.mp hz;exact c y l);rwa [QI e]at this
theorem MHi.done(h:MHi r a b out na nb)(o:Ris r a)(l:Ris r b)(c:∀x∈a.take na,∀y∈b.take nb,r x<=r y):(a.take na++b.take nb++out).Perm (a++b)/\Ris r (a.take na++b.take nb++out) :=
 ⟨h.pm,JK.mpr ⟨JK.mpr ⟨o.take _,l.take _,c⟩,h.so,h.le⟩⟩
theorem MHi.first(h:MHi r a b out na nb)(u:Ris r a)(o:Ris r b)(c:∀y∈b.take nb,∀x∈a.take na,r y<=r x):(b.take nb++a.take na++out).Perm (a++b)/\Ris r (b.take nb++a.take na++out):=by refine⟨(nM _ ot).trans h.pm,JK.mpr ⟨JK.mpr ⟨o.take _,u.take _,c⟩,h.so,fun x hx y l=>h.le x ?_ y l⟩⟩;rcases aC.mp hx with w|w;exact m2 w;exact m1 w
end
section
open PySem PySem.Spec PyProof.Rows
theorem ex4{y:Type}{G:Type}{C:Type}{v:Type}{A R:Prop}{X:y->G->C->v->Prop}(h:A/\∃x0 u l o,X x0 u l o)(k:A->∀x0 u l o,X x0 u l o->R):R:=by obtain⟨a,x0,u,l,o,x⟩:=h;exact k a x0 u l o x
theorem ex5{C:Type}{I:Type}{G:Type}{y:Type}{v:Type}{A R:Prop}{X:C->I->G->y->v->Prop}(h:A/\∃x0 u l o x4,X x0 u l o x4)(k:A->∀x0 u l o x4,X x0 u l o x4->R):R:=by obtain⟨a,x0,u,l,o,x4,x⟩:=h;exact k a x0 u l o x4 x
theorem eo5{G:Type}{C:Type}{J:Type}{I:Type}{v:Type}{N S:Type}{A R:Prop}{X:G->C->J->I->v->Prop}{Y:N->S->Prop}(h:A/\((∃x0 o u l x4,X x0 o u l x4)\/∃m r,Y m r))(k:A->∀x0 o u l x4,X x0 o u l x4->R)(L:A->∀m r,Y m r->R):R:=by obtain⟨a,⟨x0,o,u,l,x4,x⟩|⟨m,r,y⟩⟩:=h;exact k a x0 o u l x4 x;exact L a m r y
theorem ex6{I:Type}{C:Type}{L:Type}{J:Type}{y:Type}{G:Type}{A R:Prop}{X:I->C->L->J->y->G->Prop}(h:A/\∃x0 u v o x4 l,X x0 u v o x4 l)(k:A->∀x0 u v o x4 l,X x0 u v o x4 l->R):R:=by obtain⟨a,x0,u,v,o,x4,l,x⟩:=h;exact k a x0 u v o x4 l x
theorem eo6{J:Type}{G:Type}{N:Type}{L:Type}{C:Type}{I:Type}{U Z:Type}{A R:Prop}{X:J->G->N->L->C->I->Prop}{Y:U->Z->Prop}(h:A/\((∃x0 u v o x4 l,X x0 u v o x4 l)\/∃m r,Y m r))(k:A->∀x0 u v o x4 l,X x0 u v o x4 l->R)(S:A->∀m r,Y m r->R):R:=by obtain⟨a,⟨x0,u,v,o,x4,l,x⟩|⟨m,r,y⟩⟩:=h;exact k a x0 u v o x4 l x;exact S a m r y
theorem Jv{M:sO}{A:aX}{E:qV}{s:aq}{σ α:Type}{c:Prop}{_:Decidable c}{t e:StateT σ Sem α}{Q:α->σ->Prop}{z:σ}(h1:c->wpS M A E s t Q z)(l:¬c->wpS M A E s e Q z):wpS M A E s (if c then t else e) Q z:=by by_cases h:c;rw[if_pos h];exact h1 h;rw[if_neg h];exact l h
theorem zm4{M:sO}{A:aX}{E:qV}{s:aq}{σ α u:Type}{c:u->Prop}{_:∀o,Decidable (c o)}{t F:u->StateT σ Sem α}{Q:α->σ->Prop}{z:σ}(l:u)(P:u->Prop)
  (v:∀o,P o->wpS M A E s (F o) Q z) (h1:c l->(∀o,P o->wpS M A E s (F o) Q z)->wpS M A E s (t l) Q z) (x:¬c l->P l):∀o,l=o->wpS M A E s (if c o then t o else F o) Q z:=by
 rintro o rfl;exact Jv (fun h=>h1 h v) (fun h=>v _ (x h))
theorem Zd{M:sO}{A:aX}{E:qV}{s:aq}{σ α v x:Type}{c:v->x->Prop}{_:∀o i,Decidable (c o i)}{t F:v->x->StateT σ Sem α}{Q:α->σ->Prop}{z:σ}(u:v)(l:x)(P:v->x->Prop)
  (y:∀o i,P o i->wpS M A E s (F o i) Q z) (h1:c u l->(∀o i,P o i->wpS M A E s (F o i) Q z)->wpS M A E s (t u l) Q z) (C:¬c u l->P u l):∀o,u=o->∀i,l=i->wpS M A E s (if c o i then t o i else F o i) Q z:=by
 rintro o rfl i rfl;exact Jv (fun h=>h1 h y) (fun h=>y _ _ (C h))
end
end L2
namespace L2
open PySem PySem.Spec PyProof.Rows
def zeO:Array bW->Array bW->StateT bV Sem (Array bW):=sortPriv% PySem.Builtin.mergeLo
def zbx:Nat->StateT bV Sem Unit:=sortPriv% PySem.Builtin.setMinGallop
section
variable{prog:aJ}{w:a7}{A:aX}{E:qV}{s:aq}{kd:fq}{rk:af->Int}{a0:Array bW}
structure SmS(z z':bV):Prop where
 kn:kindOf z'=kindOf z
 ar:arrOf z'=arrOf z
 pe:pendingOf z'=pendingOf z
 fl:failedOf z'=failedOf z
theorem SmS.refl(z:bV):SmS z z:=⟨rfl,rfl,rfl,rfl⟩
theorem SmS.trans{x y z:bV}(h:SmS x y)(k:SmS y z):SmS x z:=⟨k.kn.trans h.kn,k.ar.trans h.ar,k.pe.trans h.pe,k.fl.trans h.fl⟩
theorem ZD{g:Nat}{z:bV}{Q:Unit->bV->Prop}(h:∀o,SmS z o->Q () o):wpS (model prog w) A E s (zbx g) Q z:=by
 have l:zbx=zbx:=rfl;conv at l=>rhs;whnf
 rw[l];dsimp only;clear l;exact i5 (h _ ⟨rfl,rfl,rfl,rfl⟩)
theorem JN{x:Array bW}{i:Nat}{p:bW}{z:bV}{Q:bW->bV->Prop}(e:x[i]?=some p)(h:Q p z):wpS (model prog w) A E s (elem' x i) Q z:=by rw[xG,e];exact aI h
abbrev rkP(rk:af->Int)(p:bW):Int:=rk p.1
theorem Zr{x:Array bW}{i:Nat}:(x.extract i x.size).toList=x.toList.drop i:=by rw[oJ];exact dZ (by simp)
theorem Zs{x:Array bW}{i k:Nat}:(x.extract i (i+k)).toList=(x.toList.drop i).take k:=by simp
theorem zki{l:List bW}{i k:Nat}{x:bW}(h:x∈(l.drop i).take k):∃j,j<k/\l[i+j]?=some x:=by obtain⟨j,o,e⟩:=ml.mp h;refine⟨j,by omega,?_⟩;have:=av (l:=l.drop i) (i:=j) (by omega);rw[eM,e]at this;exact this
theorem zgI{l:List bW}{i:Nat}{x:bW}(h:x∈l.drop i):∃j,i+j<l.length/\l[i+j]?=some x:=by obtain⟨j,o,e⟩:=bh h;have:=av o;rw[eM,e]at this;exact⟨j,by simp at o;omega,this⟩
theorem JU{x:Array bW}{i:Nat}{p:bW}(h:x.toList[i]?=some p):rkAt rk x i=rkP rk p:=by unfold rkAt;rw[bP]at h;rw[h];rfl
theorem YK{x:Array bW}(h:Ris (rkP rk) x.toList){i j:Nat}(o:i<j)(u:j<x.size):rkAt rk x i<=rkAt rk x j:=by
 have hi:i<x.toList.length:=by simp;omega
 have l:j<x.toList.length:=by simpa using u
 rw[JU (av hi),JU (av l)];exact aZ.mp h i j hi l o
theorem ziI{a b:Array bW}{z:bV}{Q:Array bW->bV->Prop}(c0:Cmp prog w A s kd rk a0)(k:kindOf z=kd)(ha:∀p∈a.toList,p∈a0.toList)(hb:∀p∈b.toList,p∈a0.toList)
  (sa:Ris (rkP rk) a.toList) (sb:Ris (rkP rk) b.toList) (na:0<a.size) (nb:0<b.size) (f1:∀y,b.toList[0]?=some y->∀x∈a.toList,rkP rk y<=rkP rk x)
  (f2:∀x,a.toList[a.size - 1]?=some x->∀y∈b.toList,rkP rk y<=rkP rk x)
  (h:∀m R,m.toList.Perm (a.toList++b.toList)->Ris (rkP rk) m.toList->SmS z R->Q m R):wpS (model prog w) A E s (zeO a b) Q z:=by
 have e_:zeO=zeO:=rfl;conv at e_=>rhs;whnf
 rw[e_];clear e_;have gb:∀i,i<b.size->∃p,b[i]?=some p/\b.toList[i]?=some p/\p∈a0.toList:=fun i hi=>⟨b[i],aT hi,by simp[hi],hb _ (by simp)⟩;have ga:∀i,i<a.size->∃p,a[i]?=some p/\a.toList[i]?=some p/\p∈a0.toList:=fun i hi=>⟨a[i],aT hi,by simp[hi],ha _ (by simp)⟩;have gaA:∀u i,i<a.size - u->∃p,a[u+i]?=some p/\p∈a0.toList:=fun u i hi=>by obtain⟨p,e,_,m⟩:=ga (u+i) (by omega);exact⟨p,e,m⟩
 have gbA:∀u i,i<b.size - u->∃p,b[u+i]?=some p/\p∈a0.toList:=fun u i hi=>by obtain⟨p,e,_,m⟩:=gb (u+i) (by omega);exact⟨p,e,m⟩
 have upA:∀u i j,i<j->j<a.size - u->rkAt rk a (u+i)<=rkAt rk a (u+j):=fun u i j hij hj=>YK sa (by omega) (by omega);have upB:∀u i j,i<j->j<b.size - u->rkAt rk b (u+i)<=rkAt rk b (u+j):=fun u i j hij hj=>YK sb (by omega) (by omega);have L5:∀i p,b.toList[i]?=some p->∀y∈b.toList.drop i,rkP rk p<=rkP rk y:=fun i p lp y J=>by have e:=cut2 b.toList i 1;rw[take1 lp]at e;have:=sb.drop i;rw[e]at this J;rcases aC.mp J with z|z;cases aF.mp z;exact aV _;exact(JK.mp this).2.2 p (by simp) y z
 have L6:∀i p,a.toList[i]?=some p->∀y∈a.toList.drop i,rkP rk p<=rkP rk y:=fun i p lp y J=>by have e:=cut2 a.toList i 1;rw[take1 lp]at e;have:=sa.drop i;rw[e]at this J;rcases aC.mp J with z|z;cases aF.mp z;exact aV _;exact(JK.mp this).2.2 p (by simp) y z
 obtain⟨b0,eb0,lb0,mb0⟩:=gb 0 nb;have M0:MLo (rkP rk) a.toList b.toList [b0] 0 1:=by have:MLo (rkP rk) a.toList b.toList [] 0 0:=⟨by simp,mG,fun x hx=>nomatch hx⟩;have:=this.pushB sb lb0 (by simpa using f1 b0 lb0);simpa using this
 refine aE (nj (b7 ⟨rfl,?_⟩));refine aE (JN eb0 ?_);have Lp:∀(out:Array bW) (v C:Nat) (R:bV),SmS z R->MLo (rkP rk) a.toList b.toList out.toList v C->(v=a.size\/C=b.size)->(out++a.extract v a.size++b.extract C b.size).toList.Perm (a.toList++b.toList)/\Ris (rkP rk) (out++a.extract v a.size++b.extract C b.size).toList:=fun out v C R S M e=>by rw[bY,bY,Zr,Zr];refine M.done sa sb fun x hx y J=>?_;rcases e with rfl|rfl;rw[gy (by simp)]at hx;cases hx;rw[gy (by simp)]at J;cases J
 have Lw:∀(out:Array bW) (v C:Nat) (R:bV),SmS z R->MLo (rkP rk) a.toList b.toList out.toList v C->v+1=a.size->(out++b.extract C b.size++a.extract v a.size).toList.Perm (a.toList++b.toList)/\Ris (rkP rk) (out++b.extract C b.size++a.extract v a.size).toList:=fun out v C R S M e=>by
  rw[bY,bY,Zr,Zr];refine M.last sa sb fun y J x hx=>?_;obtain⟨p,ep,lp,mp⟩:=ga v (by omega);have:x=p:=by have N:=take1 lp;rw[dZ (by simp;omega)]at N;rw[N]at hx;exact aF.mp hx
  subst this;exact f2 x (by rw[show a.size - 1=v by omega];exact lp) y (gS J)
 refine Jv (fun h1=>?_) (fun h1=>?_);have:=Lp #[b0] 0 1 z (.refl z) (by simpa using M0) (.inr (by simpa using h1));exact aI (h _ z this.1 this.2 (.refl z));refine Jv (fun h2=>?_) (fun h2=>?_);have:=Lw #[b0] 0 1 z (.refl z) (by simpa using M0) (by simpa using h2);exact aI (h _ z this.1 this.2 (.refl z));have h1:b.size≠1:=fun e=>h1 (by simp[e]);have h2:a.size≠1:=fun e=>h2 (by simp[e]);refine aE (kc ?_);refine aE (eV (cy (I:=fun X c R=>SmS z R/\∃out v C mg,c=(none,out,v,C,mg)/\MLo (rkP rk) a.toList b.toList (a9 out) v C/\v+1<a.size/\C<b.size/\X+1<=v+C)
  (Q:=fun c R=>SmS z R/\∃m rest,c=(some m,rest)/\(a9 m).Perm (a.toList++b.toList)/\Ris (rkP rk) (a9 m)) ?turn ?last ⟨.refl z,#[b0],0,1,_,rfl,by simpa using M0,by omega,by omega,by omega⟩) ?post)
 case post =>rintro c R ⟨S,m,rest,rfl,q1,q2⟩;exact aI (h m R q1 q2 S)
 case last =>intro c R hI;refine ex4 hI fun S out v C mg q=>?_;obtain rfl:=q.1;have M:=q.2.1;have l1:=q.2.2.1;have l2:=q.2.2.2.1;have l3:=q.2.2.2.2;omega
 case turn =>
  intro X c R _ hX hI;refine ex4 hI fun S out v C mg q=>?_;obtain rfl:=q.1;have M:=q.2.1;have l1:=q.2.2.1;have l2:=q.2.2.2.1;have l3:=q.2.2.2.2;have kz:kindOf R=kd:=S.kn.trans k;refine aE (eV (cy (I:=fun x c G=>SmS z G/\∃out v C Z Y,c=(none,out,v,C,Z,Y)/\MLo (rkP rk) a.toList b.toList (a9 out) v C/\v+1<a.size/\C<b.size/\X+1+x<=v+C)
   (Q:=fun c G=>SmS z G/\((∃out v C Z Y,c=(none,out,v,C,Z,Y)/\MLo (rkP rk) a.toList b.toList (a9 out) v C/\v+1<a.size/\C<b.size/\X+2<=v+C)\/∃m rest,c=(some m,rest)/\(a9 m).Perm (a.toList++b.toList)/\Ris (rkP rk) (a9 m))) ?turn1 ?QI ⟨S,out,v,C,0,0,rfl,M,l1,l2,by omega⟩) ?post1)
  case QI =>intro c G hI;refine ex5 hI fun S out v C Z Y q=>?_;obtain rfl:=q.1;have M:=q.2.1;have l1:=q.2.2.1;have l2:=q.2.2.2.1;have l3:=q.2.2.2.2;exact⟨S,.inl ⟨out,v,C,Z,Y,rfl,M,l1,l2,by omega⟩⟩
  case turn1 =>
   intro x c G _ hx hI;refine ex5 hI fun S out v C Z Y q=>?_;obtain rfl:=q.1;have M:=q.2.1;have l1:=q.2.2.1;have l2:=q.2.2.2.1;have l3:=q.2.2.2.2;have kz:kindOf G=kd:=S.kn.trans k;dsimp only;obtain⟨p,ep,lp,mp⟩:=gb C l2;obtain⟨q,eq,lq,mq⟩:=ga v (by omega);have dB:∀y∈b.toList.drop C,rkP rk p<=rkP rk y:=fun y J=>by have e:=cut2 b.toList C 1;rw[take1 lp]at e;have:=sb.drop C;rw[e]at this J;rcases aC.mp J with z|z;cases aF.mp z;exact aV _;exact(JK.mp this).2.2 p (by simp) y z
   have dA:∀y∈a.toList.drop v,rkP rk q<=rkP rk y:=fun y J=>by have e:=cut2 a.toList v 1;rw[take1 lq]at e;have:=sa.drop v;rw[e]at this J;rcases aC.mp J with z|z;cases aF.mp z;exact aV _;exact(JK.mp this).2.2 q (by simp) y z
   refine aE (JN ep (aE (JN eq (aE (UL c0 kz mp mq ?_)))));dsimp only;refine Jv (fun U=>?_) fun U=>?_;have U:=of_decide_eq_true U;have M':=M.pushB sb lp fun x hx=>eR (cP U) (dA x hx);refine aE (JN ep ?_);refine Jv (fun N=>?_) (fun N=>?_);have:=Lp (out.push p) v (C+1) G S (by simpa using M') (.inr (by simpa using N));exact aI ⟨S,.inr ⟨_,_,rfl,this.1,this.2⟩⟩;have N:C+1≠b.size:=fun e=>N (by simp[e]);refine Jv (fun e2=>?_) (fun e2=>?_);exact aI ⟨S,.inl ⟨_,_,_,_,_,rfl,by simpa using M',l1,by omega,by omega⟩⟩;exact aI ⟨S,_,_,_,_,_,rfl,by simpa using M',l1,by omega,by omega⟩;have U:=of_decide_eq_false (rM.mpr U);have M':=M.pushA sa lq fun y J=>eR (lP.mp U) (dB y J);refine aE (JN eq ?_);refine Jv (fun N=>?_) (fun N=>?_);have:=Lw (out.push q) (v+1) C G S (by simpa using M') (by simpa using N);exact aI ⟨S,.inr ⟨_,_,rfl,this.1,this.2⟩⟩;have N:v+1+1≠a.size:=fun e=>N (by simp[e]);refine Jv (fun e2=>?_) (fun e2=>?_);exact aI ⟨S,.inl ⟨_,_,_,_,_,rfl,by simpa using M',by omega,l2,by omega⟩⟩;exact aI ⟨S,_,_,_,_,_,rfl,by simpa using M',by omega,l2,by omega⟩
  case post1 =>
   intro c G hI;refine eo5 hI (fun S out v C Z Y q=>?_) (fun S m rest q=>?_)
   ·obtain rfl:=q.1;have M:=q.2.1;have l1:=q.2.2.1;have l2:=q.2.2.2.1;have l3:=q.2.2.2.2;refine aE (nj (b7 ⟨rfl,?_⟩));refine aE (eV (cy (I:=fun x c G=>SmS z G/\∃out v C mg Z Y,c=(none,out,v,C,mg,Z,Y)/\MLo (rkP rk) a.toList b.toList (a9 out) v C/\v+1<a.size/\C<b.size/\X+2<=v+C)
     (Q:=fun c G=>SmS z G/\((∃out v C mg Z Y,c=(none,out,v,C,mg,Z,Y)/\MLo (rkP rk) a.toList b.toList (a9 out) v C/\v+1<a.size/\C<b.size/\X+2<=v+C)\/∃m rest,c=(some m,rest)/\(a9 m).Perm (a.toList++b.toList)/\Ris (rkP rk) (a9 m))) ?turn2 ?last2 ⟨S,out,v,C,_,Z,Y,rfl,M,l1,l2,by omega⟩) ?post2)
    case last2 =>rintro c G ⟨S,r⟩;exact⟨S,.inl r⟩
    case post2 =>intro c G hI;refine eo6 hI (fun S out v C mg Z Y q=>?_) (fun S m rest q=>?_);obtain rfl:=q.1;have M:=q.2.1;have l1:=q.2.2.1;have l2:=q.2.2.2.1;have l3:=q.2.2.2.2;dsimp only;refine aE (ZD fun z3 S3=>?_);exact aI ⟨S.trans S3,out,v,C,_,rfl,M,l1,l2,by omega⟩;obtain rfl:=q.1;have q1:=q.2.1;have q2:=q.2.2;exact aI ⟨S,m,_,rfl,q1,q2⟩
    case turn2 =>
     intro x c G _ hx hI;refine ex6 hI fun S out v C mg Z Y q=>?_;obtain rfl:=q.1;have M:=q.2.1;have l1:=q.2.2.1;have l2:=q.2.2.2.1;have l3:=q.2.2.2.2;obtain⟨p,ep,lp,mp⟩:=gb C l2;have dB:=L5 C p lp;dsimp only;generalize hg:mg=g0;revert g0;refine zm4 mg (fun _=>True) ?_ ?_ (fun _=>trivial)
     rotate_left
     exact fun _ hF=>hF _ trivial;intro mg _;refine aE (ZD fun z3 S3=>?_);have S':=S.trans S3;have kz:kindOf z3=kd:=S'.kn.trans k;refine aE (JN ep (aE (Uw c0 kz mp (gaA v) (by omega) (upA v) fun k1 k1n k1t k1f=>?_)));dsimp only;have gA1:∀x∈(a.toList.drop v).take k1,∀y∈b.toList.drop C,rkP rk x<=rkP rk y:=fun x hx y J=>by obtain⟨j,jk,ej⟩:=zki hx;have:=k1t j jk;unfold bey at this;rw[if_neg (by simp),JU ej,gM,decide_eq_false_iff_not]at this;exact eR (lP.mp this) (dB y J)
     have gA2:∀x∈a.toList.drop (v+k1),rkP rk p<=rkP rk x:=fun x hx=>by obtain⟨j,jl,ej⟩:=zgI hx;have:=k1f (k1+j) (by omega) (by simp at jl;omega);unfold bey at this;rw[if_neg (by simp),show v+(k1+j)=v+k1+j by omega,JU ej,pV,decide_eq_true_iff]at this;exact cP this
     generalize ho:out=o0;generalize hi:v=i0;revert i0;revert o0;refine Zd out v (fun o i=>MLo (rkP rk) a.toList b.toList (a9 o) i C/\i+1<a.size/\X+2<=i+C/\∀x∈a.toList.drop i,rkP rk p<=rkP rk x) ?_ ?_ ?_
     rotate_left
     intro hk1 hF;have M2:=M.takeA (k:=k1) sa gA1;rw[<- Zs,<- bY]at M2;refine Jv (fun e0=>?_) (fun e0=>Jv (fun N=>?_) (fun N=>?_));have:=Lw (out++a.extract v (v+k1)) (v+k1) C z3 S' M2 (by simpa using e0);exact aI ⟨S',.inr ⟨_,_,rfl,this.1,this.2⟩⟩;have:=Lp (out++a.extract v (v+k1)) (v+k1) C z3 S' M2 (.inl (by simpa using N));exact aI ⟨S',.inr ⟨_,_,rfl,this.1,this.2⟩⟩;have e0:v+k1+1≠a.size:=fun e=>e0 (by simp[e]);have N:v+k1≠a.size:=fun e=>N (by simp[e]);exact hF _ _ ⟨M2,by omega,by omega,gA2⟩;intro hk1;have hk0:k1=0:=by omega
     subst hk0;exact⟨M,l1,l3,gA2⟩;intro o i ⟨M2,i1,i2,g⟩;have M3:=M2.pushB sb lp g;rw[<- gN]at M3;refine aE (JN ep ?_);refine Jv (fun e2=>?_) (fun e2=>?_);have:=Lp (iw o p) i (C+1) z3 S' M3 (.inr (by simpa using e2));exact aI ⟨S',.inr ⟨_,_,rfl,this.1,this.2⟩⟩;have e2:C+1≠b.size:=fun e=>e2 (by simp[e]);obtain⟨q,eq,lq,mq⟩:=ga i (by omega);have dA:=L6 i q lq;refine aE (JN eq (aE (Uw c0 kz mq (gbA (C+1)) (by omega) (upB (C+1)) fun k2 k2n k2t k2f=>?_)));dsimp only;have gB1:∀y∈(b.toList.drop (C+1)).take k2,∀x∈a.toList.drop i,rkP rk y<=rkP rk x:=fun y J x hx=>by obtain⟨j,jk,ej⟩:=zki J;have:=k2t j jk;unfold bey at this;rw[if_pos rfl,JU ej,decide_eq_true_iff]at this;exact eR (cP this) (dA x hx)
     have gB2:∀y∈b.toList.drop (C+1+k2),rkP rk q<=rkP rk y:=fun y J=>by obtain⟨j,jl,ej⟩:=zgI J;have:=k2f (k2+j) (by omega) (by simp at jl;omega);unfold bey at this;rw[if_pos rfl,show C+1+(k2+j)=C+1+k2+j by omega,JU ej,decide_eq_false_iff_not]at this;exact lP.mp this
     have l4:C+1<b.size:=by omega
     have l5:X+2<=i+(C+1):=by omega
     clear k2t k2f k1t k1f gA1 gA2 l3 M dB e2 l2;generalize iw o p=o2 at M3 ⊢;generalize C+1=j2 at M3 gB1 gB2 l4 l5 k2n ⊢;generalize ho:o2=o0;generalize hi:j2=i0;revert i0;revert o0;refine Zd o2 j2 (fun o' j=>MLo (rkP rk) a.toList b.toList (a9 o') i j/\j<b.size/\X+2<=i+j/\∀y∈b.toList.drop j,rkP rk q<=rkP rk y) ?_ ?_ ?_
     rotate_left
     intro hk2 hF;have M4:=M3.takeB (k:=k2) sb gB1;rw[<- Zs,<- bY]at M4;refine Jv (fun e3=>?_) (fun e3=>?_);have:=Lp (o2++b.extract j2 (j2+k2)) i (j2+k2) z3 S' M4 (.inr (by simpa using e3));exact aI ⟨S',.inr ⟨_,_,rfl,this.1,this.2⟩⟩;have e3:j2+k2≠b.size:=fun e=>e3 (by simp[e]);exact hF _ _ ⟨M4,by omega,by omega,gB2⟩;intro hk2;have hk0:k2=0:=by omega
     subst hk0;exact⟨M3,l4,l5,gB2⟩;intro o3 j ⟨M4,j1,j3,g'⟩;have M5:=M4.pushA sa lq g';rw[<- gN]at M5;refine aE (JN eq ?_);refine Jv (fun e4=>?_) (fun e4=>?_);have:=Lw (iw o3 q) (i+1) j z3 S' M5 (by simpa using e4);exact aI ⟨S',.inr ⟨_,_,rfl,this.1,this.2⟩⟩;have e4:i+1+1≠a.size:=fun e=>e4 (by simp[e]);refine Jv (fun _=>?_) fun _=>?_;exact aI ⟨S',.inl ⟨_,_,_,_,_,_,rfl,M5,by omega,by omega,by omega⟩⟩;exact aI ⟨S',_,_,_,_,_,_,rfl,M5,by omega,by omega,by omega⟩
   obtain rfl:=q.1;have q1:=q.2.1;have q2:=q.2.2;exact aI ⟨S,m,_,rfl,q1,q2⟩
end
def zeP:Array bW->Array bW->StateT bV Sem (Array bW):=sortPriv% PySem.Builtin.mergeHi
section
variable{prog:aJ}{w:a7}{A:aX}{E:qV}{s:aq}{kd:fq}{rk:af->Int}{a0:Array bW}
theorem Zc{x:Array bW}{k:Nat}:(x.extract 0 k).toList=x.toList.take k:=by simp
theorem Zb{x:Array bW}{i k:Nat}:(x.extract i k).toList=(x.toList.take k).drop i:=by rw[oJ,List.drop_take]
theorem znk{l:List bW}{n:Nat}{x:bW}(h:x∈l.take n):∃j,j<n/\l[j]?=some x:=by obtain⟨j,o,e⟩:=ml.mp h;exact⟨j,by omega,by rw[av (by omega),e]⟩
theorem zkh{l:List bW}{n i:Nat}{x:bW}(h:x∈(l.take n).drop i):∃j,i<=j/\j<n/\l[j]?=some x:=by obtain⟨j,u,e⟩:=zgI h;rw[dQ]at u;rw[dG (by omega)]at e;exact⟨i+j,by omega,by omega,e⟩
theorem MHi.pushB'{r:bW->Int}{a b out:List bW}{na nb:Nat}{y:bW}(h:MHi r a b out na nb)(l:Ris r b)(p:1<=nb)(e:b[nb - 1]?=some y)(c:∀x∈a.take na,r x<=r y):MHi r a b (y::out) na (nb - 1):=by obtain⟨m,rfl⟩:∃m,nb=m+1:=⟨nb - 1,by omega⟩;exact h.pushB l e c
theorem MHi.pushA'{r:bW->Int}{a b out:List bW}{na nb:Nat}{x:bW}(h:MHi r a b out na nb)(l:Ris r a)(p:1<=na)(e:a[na - 1]?=some x)(c:∀y∈b.take nb,r y<=r x):MHi r a b (x::out) (na - 1) nb:=by obtain⟨m,rfl⟩:∃m,na=m+1:=⟨na - 1,by omega⟩;exact h.pushA l e c
theorem ziJ{a b:Array bW}{z:bV}{Q:Array bW->bV->Prop}(c0:Cmp prog w A s kd rk a0)(k:kindOf z=kd)(ha:∀p∈a.toList,p∈a0.toList)(hb:∀p∈b.toList,p∈a0.toList)
  (sa:Ris (rkP rk) a.toList) (sb:Ris (rkP rk) b.toList) (na:0<a.size) (nb:0<b.size) (f1:∀y,b.toList[0]?=some y->∀x∈a.toList,rkP rk y<=rkP rk x)
  (f2:∀x,a.toList[a.size - 1]?=some x->∀y∈b.toList,rkP rk y<=rkP rk x)
  (h:∀m z',m.toList.Perm (a.toList++b.toList)->Ris (rkP rk) m.toList->SmS z z'->Q m z'):wpS (model prog w) A E s (zeP a b) Q z:=by
 have e_:zeP=zeP:=rfl;conv at e_=>rhs;whnf
 rw[e_];clear e_;have gb:∀i,i<b.size->∃p,b[i]?=some p/\b.toList[i]?=some p/\p∈a0.toList:=fun i hi=>⟨b[i],aT hi,by simp[hi],hb _ (by simp)⟩;have ga:∀i,i<a.size->∃p,a[i]?=some p/\a.toList[i]?=some p/\p∈a0.toList:=fun i hi=>⟨a[i],aT hi,by simp[hi],ha _ (by simp)⟩;have gaA:∀u i,i<u->u<=a.size->∃p,a[0+i]?=some p/\p∈a0.toList:=fun u i hi hu=>by obtain⟨p,e,_,m⟩:=ga i (by omega);exact⟨p,by rw[eS];exact e,m⟩
 have gbA:∀u i,i<u->u<=b.size->∃p,b[0+i]?=some p/\p∈a0.toList:=fun u i hi hu=>by obtain⟨p,e,_,m⟩:=gb i (by omega);exact⟨p,by rw[eS];exact e,m⟩
 have upA:∀u i j,u<=a.size->i<j->j<u->rkAt rk a (0+i)<=rkAt rk a (0+j):=fun u i j hu hij hj=>YK sa (by omega) (by omega);have upB:∀u i j,u<=b.size->i<j->j<u->rkAt rk b (0+i)<=rkAt rk b (0+j):=fun u i j hu hij hj=>YK sb (by omega) (by omega);have Lx:∀(l:List bW),Ris (rkP rk) l->∀n p,l[n]?=some p->∀y∈l.take (n+1),rkP rk y<=rkP rk p:=fun l sl n p lp y J=>by
  have e:l.take (n+1)=l.take n++[p]:=by rw[gR,lp];rfl
  have:=sl.take (n+1);rw[e]at this J;rcases aC.mp J with z|z;exact(JK.mp this).2.2 y z p (by simp);cases aF.mp z;exact aV _
 obtain⟨x0,ex0,lx0,mx0⟩:=ga (a.size - 1) (by omega);have M0:MHi (rkP rk) a.toList b.toList [x0] (a.size - 1) b.size:=by have:MHi (rkP rk) a.toList b.toList [] (a.size - 1+1) b.size:=⟨by rw[dZ (by simp;omega),dZ (by simp)];simp,mG,fun x _ y J=>nomatch J⟩;exact this.pushA sa lx0 fun y J=>f2 x0 lx0 y (fM J)
 refine aE (nj (b7 ⟨rfl,?_⟩));refine aE (JN ex0 ?_);have Lp:∀(out:Array bW) (na nb:Nat),MHi (rkP rk) a.toList b.toList out.toList.reverse na nb->(na=0\/nb=0)->(a.extract 0 na++b.extract 0 nb++out.reverse).toList.Perm (a.toList++b.toList)/\Ris (rkP rk) (a.extract 0 na++b.extract 0 nb++out.reverse).toList:=fun out na nb M e=>by rw[bY,bY,Zc,Zc,oK];refine M.done sa sb fun x hx y J=>?_;rcases e with rfl|rfl;simp at hx;simp at J
 have Lw:∀(out:Array bW) (na nb:Nat),MHi (rkP rk) a.toList b.toList out.toList.reverse na nb->nb=1->(b.extract 0 nb++a.extract 0 na++out.reverse).toList.Perm (a.toList++b.toList)/\Ris (rkP rk) (b.extract 0 nb++a.extract 0 na++out.reverse).toList:=fun out na nb M e=>by
  rw[bY,bY,Zc,Zc,oK];refine M.first sa sb fun y J x hx=>?_
  subst e;obtain⟨p,ep,lp,mp⟩:=gb 0 (by omega);have N:=take1 lp;rw[oM]at N;rw[N]at J;cases aF.mp J;exact f1 _ lp x (fM hx)
 refine Jv (fun h1=>?_) (fun h1=>?_);have:=Lp #[x0] (a.size - 1) b.size (by simpa using M0) (.inl (by simpa using h1));exact aI (h _ z this.1 this.2 (.refl z));refine Jv (fun h2=>?_) (fun h2=>?_);have:=Lw #[x0] (a.size - 1) b.size (by simpa using M0) (by simpa using h2);exact aI (h _ z this.1 this.2 (.refl z));have h1:a.size - 1≠0:=fun e=>h1 (by simp[e]);have h2:b.size≠1:=fun e=>h2 (by simp[e]);refine aE (kc ?_);refine aE (eV (cy (I:=fun X c z'=>SmS z z'/\∃na nb out mg,c=(none,na,nb,out,mg)/\MHi (rkP rk) a.toList b.toList (a9 out).reverse na nb/\1<=na/\2<=nb/\na<=a.size/\nb<=b.size/\na+nb+X+1<=a.size+b.size)
  (Q:=fun c z'=>SmS z z'/\∃m rest,c=(some m,rest)/\(a9 m).Perm (a.toList++b.toList)/\Ris (rkP rk) (a9 m)) ?turn ?last ⟨.refl z,a.size - 1,b.size,#[x0],_,rfl,by simpa using M0,by omega,by omega,by omega,by omega,by omega⟩) ?post)
 case post =>rintro c z' ⟨S,m,rest,rfl,q1,q2⟩;exact aI (h m z' q1 q2 S)
 case last =>intro c z' Z;refine ex4 Z fun S na nb out mg q=>?_;obtain rfl:=q.1;have M:=q.2.1;have l1:=q.2.2.1;have l2:=q.2.2.2.1;have l4:=q.2.2.2.2.1;have l5:=q.2.2.2.2.2.1;have l3:=q.2.2.2.2.2.2;omega
 case turn =>
  intro X c z' _ hX Z;refine ex4 Z fun S na nb out mg q=>?_;obtain rfl:=q.1;have M:=q.2.1;have l1:=q.2.2.1;have l2:=q.2.2.2.1;have l4:=q.2.2.2.2.1;have l5:=q.2.2.2.2.2.1;have l3:=q.2.2.2.2.2.2;have kz:kindOf z'=kd:=S.kn.trans k;refine aE (eV (cy (I:=fun x c C=>SmS z C/\∃na nb out Y U,c=(none,na,nb,out,Y,U)/\MHi (rkP rk) a.toList b.toList (a9 out).reverse na nb/\1<=na/\2<=nb/\na<=a.size/\nb<=b.size/\na+nb+X+1+x<=a.size+b.size)
   (Q:=fun c C=>SmS z C/\((∃na nb out Y U,c=(none,na,nb,out,Y,U)/\MHi (rkP rk) a.toList b.toList (a9 out).reverse na nb/\1<=na/\2<=nb/\na<=a.size/\nb<=b.size/\na+nb+X+2<=a.size+b.size)\/∃m rest,c=(some m,rest)/\(a9 m).Perm (a.toList++b.toList)/\Ris (rkP rk) (a9 m))) ?turn1 ?QI ⟨S,na,nb,out,0,0,rfl,M,l1,l2,l4,l5,by omega⟩) ?post1)
  case QI =>intro c C Z;refine ex5 Z fun S na nb out Y U q=>?_;obtain rfl:=q.1;have M:=q.2.1;have l1:=q.2.2.1;have l2:=q.2.2.2.1;have l4:=q.2.2.2.2.1;have l5:=q.2.2.2.2.2.1;have l3:=q.2.2.2.2.2.2;exact⟨S,.inl ⟨na,nb,out,Y,U,rfl,M,l1,l2,l4,l5,by omega⟩⟩
  case turn1 =>intro x c C _ hx Z;refine ex5 Z fun S na nb out Y U q=>?_;obtain rfl:=q.1;have M:=q.2.1;have l1:=q.2.2.1;have l2:=q.2.2.2.1;have l4:=q.2.2.2.2.1;have l5:=q.2.2.2.2.2.1;have l3:=q.2.2.2.2.2.2;have kz:kindOf C=kd:=S.kn.trans k;dsimp only;obtain⟨p,ep,lp,mp⟩:=gb (nb - 1) (by omega);obtain⟨q,eq,lq,mq⟩:=ga (na - 1) (by omega);have dB:=Lx b.toList sb (nb - 1) p lp;rw[show nb - 1+1=nb by omega]at dB;have dA:=Lx a.toList sa (na - 1) q lq;rw[show na - 1+1=na by omega]at dA;refine aE (JN ep (aE (JN eq (aE (UL c0 kz mp mq ?_)))));dsimp only;refine Jv (fun R=>?_) fun R=>?_;have R:=of_decide_eq_true R;have M':=M.pushA' sa (by omega) lq fun y J=>eR (dB y J) (cP R);refine aE (JN eq ?_);refine Jv (fun N=>?_) (fun N=>?_);have:=Lp (out.push q) (na - 1) nb (by simpa using M') (.inl (by simpa using N));exact aI ⟨S,.inr ⟨_,_,rfl,this.1,this.2⟩⟩;have N:na - 1≠0:=fun e=>N (by simp[e]);refine Jv (fun e2=>?_) (fun e2=>?_);exact aI ⟨S,.inl ⟨_,_,_,_,_,rfl,by simpa using M',by omega,by omega,by omega,by omega,by omega⟩⟩;exact aI ⟨S,_,_,_,_,_,rfl,by simpa using M',by omega,by omega,by omega,by omega,by omega⟩;have R:=of_decide_eq_false (rM.mpr R);have M':=M.pushB' sb (by omega) lp fun x hx=>eR (dA x hx) (lP.mp R);refine aE (JN ep ?_);refine Jv (fun N=>?_) (fun N=>?_);have:=Lw (out.push p) na (nb - 1) (by simpa using M') (by simpa using N);exact aI ⟨S,.inr ⟨_,_,rfl,this.1,this.2⟩⟩;have N:nb - 1≠1:=fun e=>N (by simp[e]);refine Jv (fun e2=>?_) (fun e2=>?_);exact aI ⟨S,.inl ⟨_,_,_,_,_,rfl,by simpa using M',by omega,by omega,by omega,by omega,by omega⟩⟩;exact aI ⟨S,_,_,_,_,_,rfl,by simpa using M',by omega,by omega,by omega,by omega,by omega⟩
  case post1 =>
   intro c C Z;refine eo5 Z (fun S na nb out Y U q=>?_) (fun S m rest q=>?_)
   ·obtain rfl:=q.1;have M:=q.2.1;have l1:=q.2.2.1;have l2:=q.2.2.2.1;have l4:=q.2.2.2.2.1;have l5:=q.2.2.2.2.2.1;have l3:=q.2.2.2.2.2.2;refine aE (nj (b7 ⟨rfl,?_⟩));refine aE (eV (cy (I:=fun x c C=>SmS z C/\∃na nb out mg Y U,c=(none,na,nb,out,mg,Y,U)/\MHi (rkP rk) a.toList b.toList (a9 out).reverse na nb/\1<=na/\2<=nb/\na<=a.size/\nb<=b.size/\na+nb+X+2<=a.size+b.size)
     (Q:=fun c C=>SmS z C/\((∃na nb out mg Y U,c=(none,na,nb,out,mg,Y,U)/\MHi (rkP rk) a.toList b.toList (a9 out).reverse na nb/\1<=na/\2<=nb/\na<=a.size/\nb<=b.size/\na+nb+X+2<=a.size+b.size)\/∃m rest,c=(some m,rest)/\(a9 m).Perm (a.toList++b.toList)/\Ris (rkP rk) (a9 m))) ?turn2 ?last2 ⟨S,na,nb,out,_,Y,U,rfl,M,l1,l2,l4,l5,by omega⟩) ?post2)
    case last2 =>rintro c C ⟨S,r⟩;exact⟨S,.inl r⟩
    case post2 =>intro c C Z;refine eo6 Z (fun S na nb out mg Y U q=>?_) (fun S m rest q=>?_);obtain rfl:=q.1;have M:=q.2.1;have l1:=q.2.2.1;have l2:=q.2.2.2.1;have l4:=q.2.2.2.2.1;have l5:=q.2.2.2.2.2.1;have l3:=q.2.2.2.2.2.2;dsimp only;refine aE (ZD fun z3 S3=>?_);exact aI ⟨S.trans S3,na,nb,out,_,rfl,M,l1,l2,l4,l5,by omega⟩;obtain rfl:=q.1;have q1:=q.2.1;have q2:=q.2.2;exact aI ⟨S,m,_,rfl,q1,q2⟩
    case turn2 =>
     intro x c C _ hx Z;refine ex6 Z fun S na nb out mg Y U q=>?_;obtain rfl:=q.1;have M:=q.2.1;have l1:=q.2.2.1;have l2:=q.2.2.2.1;have l4:=q.2.2.2.2.1;have l5:=q.2.2.2.2.2.1;have l3:=q.2.2.2.2.2.2;obtain⟨p,ep,lp,mp⟩:=gb (nb - 1) (by omega);have dB:=Lx b.toList sb (nb - 1) p lp;rw[show nb - 1+1=nb by omega]at dB;dsimp only;generalize hg:mg=g0;revert g0;refine zm4 mg (fun _=>True) ?_ ?_ (fun _=>trivial)
     rotate_left
     exact fun _ hF=>hF _ trivial;intro mg _;refine aE (ZD fun z3 S3=>?_);have S':=S.trans S3;have kz:kindOf z3=kd:=S'.kn.trans k;refine aE (JN ep (aE (Uw c0 kz mp (fun i hi=>gaA na i hi (by omega)) (by omega) (fun i j=>upA na i j (by omega)) fun G k1n k1t k1f=>?_)));dsimp only;have gA1:∀x∈b.toList.take nb,∀y∈(a.toList.take na).drop G,rkP rk x<=rkP rk y:=fun x hx y J=>by obtain⟨j,j1,j2,ej⟩:=zkh J;have:=k1f j j1 j2;unfold bey at this;rw[if_neg (by simp),eS,JU ej,pV,decide_eq_true_iff]at this;exact eR (dB x hx) (cP this)
     have gA2:∀x∈a.toList.take G,rkP rk x<=rkP rk p:=fun x hx=>by obtain⟨j,j1,ej⟩:=znk hx;have:=k1t j j1;unfold bey at this;rw[if_neg (by simp),eS,JU ej,gM,decide_eq_false_iff_not]at this;exact lP.mp this
     generalize hk:na - G=k1;generalize ho:out=o0;generalize hi:na=i0;revert i0;revert o0;refine Zd out na (fun o i=>MHi (rkP rk) a.toList b.toList (a9 o).reverse i nb/\1<=i/\i<=na/\∀x∈a.toList.take i,rkP rk x<=rkP rk p) ?_ ?_ ?_
     rotate_left
     intro hk1 hF;have M2:=M.takeA (k:=G) sa k1n gA1;rw[<- Zb]at M2;have M2':MHi (rkP rk) a.toList b.toList (a9 (out++(a.extract G na).reverse)).reverse G nb:=by simpa using M2
     refine Jv (fun N=>?_) (fun N=>?_);have:=Lp (out++(a.extract G na).reverse) G nb M2' (.inl (by simpa using N));exact aI ⟨S',.inr ⟨_,_,rfl,this.1,this.2⟩⟩;have N:G≠0:=fun e=>N (by simp[e]);exact hF _ _ ⟨M2',by omega,k1n,gA2⟩;intro hk1;have hk0:G=na:=by omega
     rw[hk0]at gA2;exact⟨M,l1,aD _,gA2⟩;intro o i ⟨M2,i1,i2,g⟩;have M3:=M2.pushB' sb (by omega) lp g;have M3':MHi (rkP rk) a.toList b.toList (a9 (iw o p)).reverse i (nb - 1):=by simpa using M3
     refine aE (JN ep ?_);refine Jv (fun e2=>?_) (fun e2=>?_);have:=Lw (iw o p) i (nb - 1) M3' (by simpa using e2);exact aI ⟨S',.inr ⟨_,_,rfl,this.1,this.2⟩⟩;have e2:nb - 1≠1:=fun e=>e2 (by simp[e]);obtain⟨q,eq,lq,mq⟩:=ga (i - 1) (by omega);have dA:=Lx a.toList sa (i - 1) q lq;rw[show i - 1+1=i by omega]at dA;refine aE (JN eq (aE (Uw c0 kz mq (fun i hi=>gbA (nb - 1) i hi (by omega)) (by omega) (fun i j=>upB (nb - 1) i j (by omega)) fun at2 k2n k2t k2f=>?_)));dsimp only;have gB1:∀x∈a.toList.take i,∀y∈(b.toList.take (nb - 1)).drop at2,rkP rk x<=rkP rk y:=fun x hx y J=>by obtain⟨j,j1,j2,ej⟩:=zkh J;have:=k2f j j1 j2;unfold bey at this;rw[if_pos rfl,eS,JU ej,decide_eq_false_iff_not]at this;exact eR (dA x hx) (lP.mp this)
     have gB2:∀y∈b.toList.take at2,rkP rk y<=rkP rk q:=fun y J=>by obtain⟨j,j1,ej⟩:=znk J;have:=k2t j j1;unfold bey at this;rw[if_pos rfl,eS,JU ej,decide_eq_true_iff]at this;exact cP this
     have l6:2<=nb - 1:=by omega
     have l7:nb - 1<=b.size:=by omega
     have l8:i+(nb - 1)+X+2<=a.size+b.size:=by omega
     have l9:i<=a.size:=by omega
     clear k2t k2f k1t k1f gA1 gA2 dB e2 M M2 M3 hk k1n l1 l2 l3 l4 l5 i2;generalize iw o p=o2 at M3' ⊢;generalize nb - 1=j2 at M3' gB1 l6 l7 l8 k2n ⊢;generalize hk2:j2 - at2=k2;generalize ho:o2=o0;generalize hi:j2=i0;revert i0;revert o0;refine Zd o2 j2 (fun o' j=>MHi (rkP rk) a.toList b.toList (a9 o').reverse i j/\2<=j/\j<=j2/\∀y∈b.toList.take j,rkP rk y<=rkP rk q) ?_ ?_ ?_
     rotate_left
     intro hk2 hF;have M4:=M3'.takeB (k:=at2) sb k2n gB1;rw[<- Zb]at M4;have M4':MHi (rkP rk) a.toList b.toList (a9 (o2++(b.extract at2 j2).reverse)).reverse i at2:=by simpa using M4
     refine Jv (fun e3=>?_) (fun e3=>Jv (fun e5=>?_) (fun e5=>?_));have:=Lw (o2++(b.extract at2 j2).reverse) i at2 M4' (by simpa using e3);exact aI ⟨S',.inr ⟨_,_,rfl,this.1,this.2⟩⟩;have:=Lp (o2++(b.extract at2 j2).reverse) i at2 M4' (.inr (by simpa using e5));exact aI ⟨S',.inr ⟨_,_,rfl,this.1,this.2⟩⟩;have e3:at2≠1:=fun e=>e3 (by simp[e]);have e5:at2≠0:=fun e=>e5 (by simp[e]);exact hF _ _ ⟨M4',by omega,k2n,gB2⟩;intro hk2;have hk0:at2=j2:=by omega
     rw[hk0]at gB2;exact⟨M3',l6,aD _,gB2⟩;intro o3 j ⟨M4,j1,j3,g'⟩;have M5:=M4.pushA' sa (by omega) lq g';have M5':MHi (rkP rk) a.toList b.toList (a9 (iw o3 q)).reverse (i - 1) j:=by simpa using M5
     refine aE (JN eq ?_);refine Jv (fun e4=>?_) (fun e4=>?_);have:=Lp (iw o3 q) (i - 1) j M5' (.inl (by simpa using e4));exact aI ⟨S',.inr ⟨_,_,rfl,this.1,this.2⟩⟩;have e4:i - 1≠0:=fun e=>e4 (by simp[e]);refine Jv (fun _=>?_) fun _=>?_;exact aI ⟨S',.inl ⟨_,_,_,_,_,_,rfl,M5',by omega,by omega,by omega,by omega,by omega⟩⟩;exact aI ⟨S',_,_,_,_,_,_,rfl,M5',by omega,by omega,by omega,by omega,by omega⟩
   obtain rfl:=q.1;have q1:=q.2.1;have q2:=q.2.2;exact aI ⟨S,m,_,rfl,q1,q2⟩
end
theorem zjy{α:Type}{l:List α}{i:Nat}{p:α}(h:i<l.length):(l.set i p).take (i+1)=l.take i++[p]:=by rw[gR,gp h,List.take_set_of_le (aD _)];rfl
theorem zkX{α:Type}{l:List α}{i j:Nat}{p:α}(h:i<j):(l.set i p).drop j=l.drop j:=by rw[List.drop_set];rw[if_pos h]
theorem zjU{α:Type}(o:Nat):∀(m:List α) (n:Nat) (x:Array α),o+n+m.length<=x.size ->
  ((m.zipIdx n).foldl (fun a (q:α×Nat)=>a.setIfInBounds (o+q.2) q.1) x).toList=x.toList.take (o+n)++m++x.toList.drop (o+n+m.length)
 | [],n,x,h=>by simp
 | p::ms,n,x,h=>by
  rw[aL]at h;rw[nt,n9,zjU o ms (n+1) _ (by rw[Array.size_setIfInBounds];omega)];have e:(x.setIfInBounds (o+n) p).toList=x.toList.set (o+n) p:=by simp
  have u:o+n<x.toList.length:=by simp;omega
  dsimp only;rw[e,show o+(n+1)=o+n+1 by omega,zjy u,zkX (by omega),aL,show o+n+1+ms.length=o+n+(ms.length+1) by omega];simp
def UpL(rk:af->Int)(xs:Array bW)(lo m:Nat):Prop:=∀i j,i<j->j<m->rkAt rk xs (lo+i)<=rkAt rk xs (lo+j)
section
variable{prog:aJ}{w:a7}{A:aX}{E:qV}{s:aq}{kd:fq}{rk:af->Int}{a0:Array bW}
theorem znE{z l:bV}{Q:PUnit->bV->Prop}(h:Q ⟨⟩ l):wpS (model prog w) A E s (set l:StateT bV Sem PUnit) Q z:=by unfold wpS;rw[StateT.run_set];exact ae ⟨rfl,h⟩
theorem zjO{x:Array bW}{lo m:Nat}(h:UpL rk x lo m)(hx:lo+m<=x.size):Ris (rkP rk) (x.extract lo (lo+m)).toList:=by
 refine aZ.mpr fun i j hi v l=>?_;have y:i<m:=by simp at hi;lia
 have u:j<m:=by simp at v;lia
 have:=h i j l u;rw[JU (p:=(x.extract lo (lo+m)).toList[i]) (by simp),JU (p:=(x.extract lo (lo+m)).toList[j]) (by simp)]at this;exact this
theorem Zh{x:Array bW}{lo hi:Nat}{p:bW}(h:p∈(x.extract lo hi).toList):∃j,lo<=j/\j<hi/\j<x.size/\rkAt rk x j=rkP rk p:=by
 obtain⟨i,u,e⟩:=bh h;have l:i<hi - lo/\i+lo<x.size:=by simp at u;lia
 refine⟨lo+i,by lia,by lia,by lia,JU ?_⟩;rw[<- e];simp
theorem ix1{s n y:Nat}(h:n<=y):s+n+(y - n)=s+y:=by lia
theorem ziK{i sa na nb pw pw2:Nat}{z:bV}{Q:Bool->bV->Prop}(c:Cmp prog w A s kd rk a0)(k:kindOf z=kd)(fl:failedOf z=none)(pm:(arrOf z).Perm a0)
  (p1:(pendingOf z)[i]?=some (sa,na,pw)) (p2:(pendingOf z)[i+1]?=some (sa+na,nb,pw2)) (hna:0<na) (hnb:0<nb) (hs:sa+na+nb<=a0.size) (u1:UpL rk (arrOf z) sa na) (u2:UpL rk (arrOf z) (sa+na) nb)
  (h:∀y,kindOf y=kd->failedOf y=none->(arrOf y).Perm a0->pendingOf y=((pendingOf z).setIfInBounds i (sa,na+nb,pw)).eraseIdxIfInBounds (i+1)->UpL rk (arrOf y) sa (na+nb)->(∀j,j<sa\/sa+na+nb<=j->rkAt rk (arrOf y) j=rkAt rk (arrOf z) j)->Q true y) :
  wpS (model prog w) A E s (mergeAt' i) Q z:=by
 have sz:(arrOf z).size=a0.size:=pm.size_eq;have mem:∀j,j<a0.size->∃p,(arrOf z)[j]?=some p/\p∈a0.toList:=fun j C=>by
  have hj':j<(arrOf z).size:=by lia
  exact⟨(arrOf z)[j],aT hj',(c9.mp pm).mem_iff.mp (by simp)⟩
 have L7:∀p∈(arrOf z).toList,p∈a0.toList:=fun p hp=>(c9.mp pm).mem_iff.mp hp;have e_:mergeAt'=mergeAt':=rfl;conv at e_=>rhs;whnf
 rw[e_];dsimp only;clear e_;refine aE (kc ?_);change (arrOf z).size=_ at sz;have p1':=p1;have p2':=p2;unfold pendingOf at p1' p2';rw[p1',p2'];dsimp only;refine aE (znE ?_);obtain⟨v0,ev0,mv0⟩:=mem (sa+na) (by lia);refine aE (JN ev0 ?_);have rv0:rkAt rk (arrOf z) (sa+na)=rk v0.1:=by unfold rkAt;rw[ev0];rfl
 refine aE (Uw c k mv0 (fun j C=>mem _ (by lia)) hna u1 fun k hk t1 t2=>?_);have b1:∀j,j<k->rkAt rk (arrOf z) (sa+j)<=rkAt rk (arrOf z) (sa+na):=fun j C=>by have:=t1 j C;rw[rv0];unfold bey at this;simp at this;exact this
 have b2:∀j,k<=j->j<na->rkAt rk (arrOf z) (sa+na)<rkAt rk (arrOf z) (sa+j):=fun j C hj'=>by have:=t2 j C hj';rw[rv0];unfold bey at this;simp at this;exact this
 dsimp only;by_cases e1:(na - k == 0)=true;rw[if_pos e1];have ek:k=na:=by simp at e1;lia
 refine aI (h _ (by assumption) fl pm rfl ?_ (fun _ _=>rfl));intro x y v R;change rkAt rk (arrOf z) (sa+x)<=rkAt rk (arrOf z) (sa+y);by_cases hy2:y<na;exact u1 x y v hy2;by_cases hx2:x<na;have q1:=b1 x (by lia);by_cases hy3:y=na;rw[hy3];exact q1;have J:=u2 0 (y - na) (by lia) (by lia);rw[ix1 (show na<=y by lia)]at J;simp at J;lia;have J:=u2 (x - na) (y - na) (by lia) (by lia);rw[ix1 (show na<=y by lia),ix1 (show na<=x by lia)]at J;exact J;rw[if_neg e1];have hk2:k<na:=by simp at e1;lia
 obtain⟨ul,eul,mul⟩:=mem (sa+k+(na - k) - 1) (by lia);refine aE (JN eul ?_);have rul:rkAt rk (arrOf z) (sa+na - 1)=rk ul.1:=by unfold rkAt;rw[show sa+na - 1=sa+k+(na - k) - 1 by lia,eul];rfl
 refine aE (Uw c (by assumption) mul (fun j C=>mem _ (by lia)) (by lia) u2 fun m hm t3 t4=>?_);have b3:∀j,j<m->rkAt rk (arrOf z) (sa+na+j)<rkAt rk (arrOf z) (sa+na - 1):=fun j C=>by have:=t3 j C;rw[rul];unfold bey at this;simp at this;exact this
 have b4:∀j,m<=j->j<nb->rkAt rk (arrOf z) (sa+na - 1)<=rkAt rk (arrOf z) (sa+na+j):=fun j C hj'=>by have:=t4 j C hj';rw[rul];unfold bey at this;simp at this;exact this
 dsimp only;have le1:∀x y,x<=y->y<na->rkAt rk (arrOf z) (sa+x)<=rkAt rk (arrOf z) (sa+y):=fun x y v R=>by by_cases e:x=y;rw[e];exact aV _;exact u1 x y (by lia) R
 have le2:∀x y,x<=y->y<nb->rkAt rk (arrOf z) (sa+na+x)<=rkAt rk (arrOf z) (sa+na+y):=fun x y v R=>by by_cases e:x=y;rw[e];exact aV _;exact u2 x y (by lia) R
 by_cases e2:(m == 0)=true;rw[if_pos e2];have em:m=0:=by simpa using e2
 refine aI (h _ (by assumption) fl pm rfl ?_ (fun _ _=>rfl));intro x y v R;change rkAt rk (arrOf z) (sa+x)<=rkAt rk (arrOf z) (sa+y);by_cases hy2:y<na;exact u1 x y v hy2;by_cases hx2:x<na;have q1:=b4 (y - na) (by lia) (by lia);have J:=le1 x (na - 1) (by lia) (by lia);rw[show sa+(na - 1)=sa+na - 1 by lia]at J;rw[ix1 (show na<=y by lia)]at q1;lia;have J:=u2 (x - na) (y - na) (by lia) (by lia);rw[ix1 (show na<=y by lia),ix1 (show na<=x by lia)]at J;exact J;rw[if_neg e2];have hm2:0<m:=by simp at e2;lia
 have exA:(arrOf z).extract (sa+k) (sa+na)=(arrOf z).extract (sa+k) (sa+k+(na - k)):=by rw[ix1 (show k<=na by lia)]
 have rA:Ris (rkP rk) ((arrOf z).extract (sa+k) (sa+na)).toList:=by rw[exA];refine zjO (fun x y v R=>?_) (by lia);have:=u1 (k+x) (k+y) (by lia) (by lia);rw[<- pI,<- pI]at this;exact this
 have rB:Ris (rkP rk) ((arrOf z).extract (sa+na) (sa+na+m)).toList:=zjO (fun x y v R=>u2 x y v (by lia)) (by lia);have Z:((arrOf z).extract (sa+k) (sa+na)).size=na - k:=by simp;lia
 have szB:((arrOf z).extract (sa+na) (sa+na+m)).size=m:=by simp;lia
 have mA:∀p∈((arrOf z).extract (sa+k) (sa+na)).toList,p∈a0.toList:=fun p hp=>L7 p (by rw[Zb]at hp;exact fM (gS hp));have mB:∀p∈((arrOf z).extract (sa+na) (sa+na+m)).toList,p∈a0.toList:=fun p hp=>L7 p (by rw[Zb]at hp;exact fM (gS hp));have f1:∀y,((arrOf z).extract (sa+na) (sa+na+m)).toList[0]?=some y->∀x∈((arrOf z).extract (sa+k) (sa+na)).toList,rkP rk y<=rkP rk x:=fun y R x hx=>by obtain⟨j,j1,j2,j3,e⟩:=Zh (rk:=rk) hx;have:=b2 (j - sa) (by lia) (by lia);rw[fN (show sa<=j by lia),e]at this;have ey:rkAt rk (arrOf z) (sa+na)=rkP rk y:=JU (by rw[<- R];simp only[bP,nN];rw[if_pos (by lia)];rfl);lia
 have f2:∀x,((arrOf z).extract (sa+k) (sa+na)).toList[((arrOf z).extract (sa+k) (sa+na)).size - 1]?=some x->∀y∈((arrOf z).extract (sa+na) (sa+na+m)).toList,rkP rk y<=rkP rk x:=fun x hx y R=>by obtain⟨j,j1,j2,j3,e⟩:=Zh (rk:=rk) R;have:=b3 (j - (sa+na)) (by lia);rw[fN (show sa+na<=j by lia),e]at this;have ex:rkAt rk (arrOf z) (sa+na - 1)=rkP rk x:=JU (by rw[<- hx,Z];simp only[bP,nN];rw[if_pos (by lia),show sa+k+(na - k - 1)=sa+na - 1 by lia]);lia
 have fin:∀(M:Array bW) (Y y:bV),M.toList.Perm (((arrOf z).extract (sa+k) (sa+na)).toList++((arrOf z).extract (sa+na) (sa+na+m)).toList)->Ris (rkP rk) M.toList->arrOf Y=arrOf z->kindOf y=kd->failedOf y=none->pendingOf y=((pendingOf z).setIfInBounds i (sa,na+nb,pw)).eraseIdxIfInBounds (i+1) ->
   arrOf y=(M.toList.zipIdx.foldl (fun a (q:bW×Nat)=>a.setIfInBounds (sa+k+q.2) q.1) (arrOf Y))->Q true y:=by
  intro M Y y PM RM ez ky fy py ay;have lM:M.toList.length=na - k+m:=by have:=PM.length_eq;rw[aS,cC (xs:=(arrOf z).extract _ _),cC (xs:=(arrOf z).extract _ _),Z,szB]at this;exact this
  have ayl:(arrOf y).toList=(arrOf z).toList.take (sa+k)++M.toList++(arrOf z).toList.drop (sa+na+m):=by rw[ay,ez];have:=zjU (sa+k) M.toList 0 (arrOf z) (by rw[lM];lia);rw[show sa+k+0=sa+k by lia,lM,show sa+k+(na - k+m)=sa+na+m by lia]at this;exact this
  have split0:(arrOf z).toList=(arrOf z).toList.take (sa+k)++(((arrOf z).extract (sa+k) (sa+na)).toList++((arrOf z).extract (sa+na) (sa+na+m)).toList)++(arrOf z).toList.drop (sa+na+m):=by rw[exA,Zs,Zs];have c1:=cut2 (arrOf z).toList (sa+k) (na - k);rw[ix1 (show k<=na by lia)]at c1;have c2:=cut2 (arrOf z).toList (sa+na) m;rw[aY,aY,<- c2,<- c1,ft]
  have PY:(arrOf y).Perm a0:=by
   refine Array.Perm.trans ?_ pm;rw[c9,ayl];conv=>rhs;rw[split0]
   exact nM _ (fv _ PM)
  have hlt:((arrOf z).toList.take (sa+k)).length=sa+k:=by simp;lia
  have outer:∀j,j<sa+k\/sa+na+m<=j->rkAt rk (arrOf y) j=rkAt rk (arrOf z) j:=by intro j C;refine Us ?_;rw[<- bP,<- bP,ayl];rcases C with C|C;rw[aY,bE (by lia),List.getElem?_take,if_pos (by lia)];rw[bw (by rw[aS,lM,hlt];lia),aS,lM,hlt,eM];congr 1;lia
  have inner:∀j,sa+k<=j->j<sa+na+m->∃p,M.toList[j - (sa+k)]?=some p/\rkAt rk (arrOf y) j=rkP rk p:=by
   intro j j1 j2;have C:j - (sa+k)<M.toList.length:=by lia
   refine⟨M.toList[j - (sa+k)],av C,JU ?_⟩;rw[ayl,bE (by rw[aS,lM,hlt];lia),bw (by lia),hlt];exact av C
  have inM:∀p∈M.toList,∃j,sa+k<=j/\j<sa+na+m/\rkAt rk (arrOf z) j=rkP rk p:=by intro p hp;rcases aC.mp (PM.mem_iff.mp hp) with q|q;obtain⟨j,j1,j2,_,e⟩:=Zh (rk:=rk) q;exact⟨j,j1,by lia,e⟩;obtain⟨j,j1,j2,_,e⟩:=Zh (rk:=rk) q;exact⟨j,by lia,j2,e⟩
  refine h y ky fy PY py ?_ fun j C=>outer j (by lia);clear PY ayl split0 Z szB hlt sz exA rv0 rul;intro x G v R;by_cases x1:x<k;rw[outer (sa+x) (by lia)];by_cases y1:G<k;rw[outer (sa+G) (by lia)];exact u1 x G v (by lia);have low:∀j,sa+k<=j->j<sa+na+nb->rkAt rk (arrOf z) (sa+x)<=rkAt rk (arrOf z) j:=fun j j1 j2=>by by_cases j3:j<sa+na;have:=u1 x (j - sa) (by lia) (by lia);rw[fN (show sa<=j by lia)]at this;exact this;have q1:=b1 x x1;have J:=le2 0 (j - (sa+na)) (by lia) (by lia);rw[fN (show sa+na<=j by lia)]at J;simp at J;lia
  by_cases y2:sa+G<sa+na+m;obtain⟨p,ep,er⟩:=inner (sa+G) (by lia) y2;rw[er];obtain⟨j,j1,j2,e⟩:=inM p (aP ep);rw[<- e];exact low j j1 (by lia);rw[outer (sa+G) (by lia)];exact low _ (by lia) (by lia);by_cases x2:sa+x<sa+na+m;obtain⟨p,ep,er⟩:=inner (sa+x) (by lia) x2;rw[er];by_cases y2:sa+G<sa+na+m;obtain⟨q,eq,er2⟩:=inner (sa+G) (by lia) y2;rw[er2];have h1:sa+x - (sa+k)<M.toList.length:=by lia
  have h2:sa+G - (sa+k)<M.toList.length:=by lia
  rw[av h1]at ep;rw[av h2]at eq;cases ep;cases eq;exact aZ.mp RM _ _ h1 h2 (by lia);rw[outer (sa+G) (by lia)];obtain⟨j,j1,j2,e⟩:=inM p (aP ep);rw[<- e];have q4:=b4 (G - na) (by lia) (by lia);rw[ix1 (show na<=G by lia)]at q4;by_cases j3:j<sa+na;have:=le1 (j - sa) (na - 1) (by lia) (by lia);rw[fN (show sa<=j by lia),show sa+(na - 1)=sa+na - 1 by lia]at this;lia;have:=le2 (j - (sa+na)) (G - na) (by lia) (by lia);rw[fN (show sa+na<=j by lia),ix1 (show na<=G by lia)]at this;exact this;rw[outer (sa+x) (by lia),outer (sa+G) (by lia)];have:=u2 (x - na) (G - na) (by lia) (by lia);rw[ix1 (show na<=x by lia),ix1 (show na<=G by lia)]at this;exact this
 by_cases le:na - k<=m;rw[if_pos le];refine aE (ziI c (by assumption) mA mB rA rB (iy (by lia) Z.symm) (iy hm2 szB.symm) f1 f2 fun M Y PM RM S=>?_);refine aE (i5 (aE (kc (aI ?_))));have U:failedOf Y=none:=S.fl.trans fl;show Q (failedOf Y).isNone _;rw[U];exact fin M Y _ PM RM S.ar (S.kn.trans (by assumption)) U S.pe rfl;rw[if_neg le];refine aE (ziJ c (by assumption) mA mB rA rB (iy (by lia) Z.symm) (iy hm2 szB.symm) f1 f2 fun M Y PM RM S=>?_);refine aE (i5 (aE (kc (aI ?_))));have U:failedOf Y=none:=S.fl.trans fl;show Q (failedOf Y).isNone _;rw[U];exact fin M Y _ PM RM S.ar (S.kn.trans (by assumption)) U S.pe rfl
end
structure Sl(rk:af->Int)(kd:fq)(a0:Array bW)(z0:bV)(lo:Nat)(z:bV):Prop where
 pm:(arrOf z).Perm a0
 kn:kindOf z=kd
 fl:failedOf z=none
 pe:pendingOf z=pendingOf z0
 lw:∀j,j<lo->rkAt rk (arrOf z) j=rkAt rk (arrOf z0) j
def DnL(rk:af->Int)(xs:Array bW)(lo m:Nat):Prop:=∀i j,i<j->j<m->rkAt rk xs (lo+j)<=rkAt rk xs (lo+i)
section
variable{prog:aJ}{w:a7}{A:aX}{E:qV}{s:aq}{kd:fq}{rk:af->Int}{a0:Array bW}{z0:bV}{lo:Nat}
theorem Sl.sz{z:bV}(b:Sl rk kd a0 z0 lo z):(arrOf z).size=a0.size:=b.pm.size_eq
theorem Sl.arr{z:bV}(b:Sl rk kd a0 z0 lo z){xs:Array bW}(h:xs.Perm (arrOf z))(l:∀j,j<lo->rkAt rk xs j=rkAt rk (arrOf z) j):Sl rk kd a0 z0 lo (setArr z xs):=⟨h.trans b.pm,b.kn,b.fl,b.pe,fun j o=>(l j o).trans (b.lw j o)⟩
theorem askL{z:bV}{i j:Nat}{Q:Option Bool->bV->Prop}(c:Cmp prog w A s kd rk a0)(b:Sl rk kd a0 z0 lo z)(hi:i<a0.size)(o:j<a0.size)
  (h:Q (some (decide (rkAt rk (arrOf z) i<rkAt rk (arrOf z) j))) z):wpS (model prog w) A E s (ltAt' i j) Q z:=by
 have mem:∀k,k<a0.size->∃p,(arrOf z)[k]?=some p/\p∈a0.toList:=fun k C=>by
  have l:k<(arrOf z).size:=by rw[b.sz];exact C
  exact⟨(arrOf z)[k],aT l,(c9.mp b.pm).mem_iff.mp (by simp)⟩
 obtain⟨p,ep,mp⟩:=mem i hi;obtain⟨q,eq,G⟩:=mem j o;have v:rkAt rk (arrOf z) i=rk p.1:=by unfold rkAt;rw[ep];rfl
 have u:rkAt rk (arrOf z) j=rk q.1:=by unfold rkAt;rw[eq];rfl
 rw[v,u]at h;rw[ltAt'_eq];refine aE (kc ?_);show wpS (model prog w) A E s (elem' (arrOf z) i >>= fun x=>elem' (arrOf z) j >>= fun y=>lt' x y) Q z;simp only[xG,ep,eq,pure_bind];exact UL c b.kn mp G h
theorem zph{z:bV}{n ok:Nat}{Q:Bool->bV->Prop}(c:Cmp prog w A s kd rk a0)(hn:lo+n<=a0.size)(hok:ok<=n)(b:Sl rk kd a0 z0 lo z)(up:UpL rk (arrOf z) lo ok)
  (h:∀y,Sl rk kd a0 z0 lo y->UpL rk (arrOf y) lo n->Q true y):wpS (model prog w) A E s (binarySort' lo n ok) Q z:=by
 rw[binarySort'_eq];refine aE (eV (cy (Q:=fun c y=>c=(none,())/\Sl rk kd a0 z0 lo y/\UpL rk (arrOf y) lo n) (I:=fun k c y=>c=(none,())/\Sl rk kd a0 z0 lo y/\UpL rk (arrOf y) lo (min k n)) ?turn ?last ⟨rfl,b,fun i j h1 h2=>up i j h1 (by lia)⟩) ?post)
 case post =>rintro _ y ⟨rfl,C,u⟩;exact aI (h y C u)
 case last =>rintro _ y ⟨rfl,C,u⟩;exact⟨rfl,C,by rwa [show min (max (max ok 1) n) n=n by lia]at u⟩
 case turn =>
  rintro k _ y k1 k2 ⟨rfl,C,u⟩;rw[show min k n=k by lia]at u;refine aE (eV (cy (Q:=fun c U=>U=y/\∃l r,c=(none,l,r)/\l<=k/\(∀i,i<l->rkAt rk (arrOf y) (lo+i)<=rkAt rk (arrOf y) (lo+k))/\∀i,l<=i->i<k->rkAt rk (arrOf y) (lo+k)<rkAt rk (arrOf y) (lo+i))
   (I:=fun x c U=>U=y/\∃l r,c=(none,l,r)/\l<=r/\r<=k/\r - l+x<=k/\(∀i,i<l->rkAt rk (arrOf y) (lo+i)<=rkAt rk (arrOf y) (lo+k))/\∀i,r<=i->i<k->rkAt rk (arrOf y) (lo+k)<rkAt rk (arrOf y) (lo+i)) ?t2 ?l2 ⟨rfl,0,k,rfl,by lia,by lia,by lia,fun i hi=>by lia,fun i R N=>by lia⟩) ?p2)
  case l2 =>rintro _ v ⟨e,l,r,rfl,q1,Y,q3,J,L⟩;subst e;exact⟨rfl,l,r,rfl,by lia,J,fun i R N=>L i (by lia) N⟩
  case t2 =>
   rintro x _ v _ _ ⟨e,l,r,rfl,q1,Y,q3,J,L⟩;subst e;by_cases ge:r<=l;simp only[ge_iff_le,ge,if_true];exact aI ⟨rfl,l,r,rfl,by lia,J,fun i R N=>L i (by lia) N⟩;simp only[ge_iff_le,ge,if_false];refine aE (askL c C (by lia) (by lia) ?_);by_cases le:rkAt rk (arrOf v) (lo+k)<rkAt rk (arrOf v) (lo+(l+r) / 2);simp only[le,decide_true,if_true];refine aI ⟨rfl,l,(l+r) / 2,rfl,by lia,by lia,by lia,J,fun i R N=>?_⟩;rcases cx ((l+r) / 2) i with g|g;have:=u _ _ g N;lia;have:i=(l+r) / 2:=by lia
   rw[this];exact le;simp only[le,decide_false,aU,if_false];refine aI ⟨rfl,(l+r) / 2+1,r,rfl,by lia,by lia,by lia,fun i R=>?_,L⟩;rcases cx i ((l+r) / 2) with g|g;have:=u _ _ g (by lia);lia;have:i=(l+r) / 2:=by lia
   rw[this];lia
  case p2 =>
   rintro _ v ⟨e,l,r,rfl,Y,J,L⟩;subst e;show wpS (model prog w) A E s (moveDown' (lo+k) (lo+l) >>= fun _=>pure (bT (none,()))) _ v;rw[moveDown'_eq];have hk:lo+k<(arrOf v).size:=by rw[C.sz];lia
   have G:∀j,_:=fun j=>zp_ (rk:=rk) hk (show lo+k - (lo+l)<=lo+k by lia) j;have el:lo+k - (lo+k - (lo+l))=lo+l:=by lia
   rw[el]at G;refine aE (i5 (aI ⟨rfl,C.arr (bubble_perm _ _ _) (fun j Z=>(G j).2.2 (by lia)),fun i j h1 h2=>?_⟩));show rkAt rk (bubble (arrOf v) (lo+k) (lo+k - (lo+l))) (lo+i)<=rkAt rk (bubble (arrOf v) (lo+k) (lo+k - (lo+l))) (lo+j);have Z:j<=k:=by lia
   obtain⟨a1,a2,S⟩:=G (lo+i);obtain⟨b1,b2,b3⟩:=G (lo+j);rcases ef j l with jl|jl|jl;rw[S (by lia),b3 (by lia)];exact u i j h1 (by lia);rw[S (by lia),b1 (by lia)];exact J i (by lia);rw[b2 (by lia) (by lia),show lo+j - 1=lo+(j - 1) by lia];rcases ef i l with il|il|il;rw[S (by lia)];exact u i (j - 1) (by lia) (by lia);rw[a1 (by lia)];exact cP (L (j - 1) (by lia) (by lia));rw[a2 (by lia) (by lia),show lo+i - 1=lo+(i - 1) by lia];exact u _ _ (by lia) (by lia)
theorem UpL.more{xs:Array bW}{x:Nat}(u:UpL rk xs lo x)(v:1<=x)(g:¬rkAt rk xs (lo+x)<rkAt rk xs (lo+x - 1)):UpL rk xs lo (x+1):=fun i j h1 o=>by
 rw[show lo+x - 1=lo+(x - 1) by lia]at g;rcases cx j x with jx|jx;exact u i j h1 jx;have l:j=x:=by lia
 subst l;rcases cx i (j - 1) with ij|ij;have:=u i (j - 1) ij (by lia);lia;have:i=j - 1:=by lia
 rw[this];lia
theorem DnL.more{xs:Array bW}{x:Nat}(u:DnL rk xs lo x)(v:1<=x)(g:rkAt rk xs (lo+x)<=rkAt rk xs (lo+x - 1)):DnL rk xs lo (x+1):=fun i j h1 o=>by
 rw[show lo+x - 1=lo+(x - 1) by lia]at g;rcases cx j x with jx|jx;exact u i j h1 jx;have l:j=x:=by lia
 subst l;rcases cx i (j - 1) with ij|ij;have:=u i (j - 1) ij (by lia);lia;have:i=j - 1:=by lia
 rw[this];lia
theorem znU{z:bV}{m:Nat}{Q:Option Nat->bV->Prop}(c:Cmp prog w A s kd rk a0)(hm:lo+m<=a0.size)(m1:1<=m)(b:Sl rk kd a0 z0 lo z)
  (h:∀k y,Sl rk kd a0 z0 lo y->1<=k->k<=m->UpL rk (arrOf y) lo k->Q (some k) y):wpS (model prog w) A E s (countRun' lo m) Q z:=by
 rw[countRun'_eq];refine aE (eV (cy (I:=fun x c y=>y=z/\c=(none,x)/\UpL rk (arrOf z) lo x) (Q:=fun c y=>y=z/\∃n,c=(none,n)/\1<=n/\n<=m/\UpL rk (arrOf z) lo n/\(n<m->rkAt rk (arrOf z) (lo+n)<rkAt rk (arrOf z) (lo+n - 1))) ?turn ?last ⟨rfl,rfl,fun i j h1 J=>absurd h1 (by lia)⟩) ?post)
 case last =>rintro _ y ⟨rfl,rfl,u⟩;rw[show max 1 m=m by lia]at u ⊢;exact⟨rfl,m,rfl,m1,aD _,u,fun g=>absurd g (by lia)⟩
 case turn =>rintro x _ y N x2 ⟨rfl,rfl,u⟩;dsimp only;refine aE (askL c b (by lia) (by lia) ?_);by_cases g:rkAt rk (arrOf y) (lo+x)<rkAt rk (arrOf y) (lo+x - 1);simp only[g,decide_true,if_true];exact aI ⟨rfl,x,rfl,N,by lia,u,fun _=>g⟩;simp only[g,decide_false,aU,if_false];exact aI ⟨rfl,rfl,u.more N g⟩
 case post =>
  rintro _ y ⟨rfl,n,rfl,n1,Y,u,lt⟩;dsimp only;by_cases en:n=m;simp only[en,beq_self_eq_true,if_true];exact aI (h m y b m1 (aD _) (en▸u));have en':(n == m)=false:=by simpa using en
  simp only[en',aU,if_false];have l:=lt (by lia);have zn:lo+n<=(arrOf y).size:=by rw[b.sz];lia
  have pre:n<=1\/1<n:=by lia
  have both:∀(F:StateT bV Sem (Option Nat)) ,(∀L,Sl rk kd a0 z0 lo L->DnL rk (arrOf L) lo (n+1)->wpS (model prog w) A E s F Q L)->wpS (model prog w) A E s (if n > 1 then ltAt' lo (lo+n - 1) >>= fun x=>match x with
    | some G=>if G=true then pure (some n) else reverseSlice' lo (lo+n) >>= fun _=>F
    | _=>pure none
   else F) Q y:=by
   intro F R;by_cases g:n > 1;simp only[g,if_true];refine aE (askL c b (by lia) (by lia) ?_);by_cases G:rkAt rk (arrOf y) lo<rkAt rk (arrOf y) (lo+n - 1);simp only[G,decide_true,if_true];exact aI (h n y b n1 Y u);simp only[G,decide_false,aU,if_false];have al:∀k,lo<=k->k<lo+n->rkAt rk (arrOf y) k=rkAt rk (arrOf y) (lo+n - 1):=fun k k1 kn=>by
    have p:rkAt rk (arrOf y) lo<=rkAt rk (arrOf y) k:=by rcases pU k1 with k0|k0;rw[k0];exact aV _;have:=u 0 (k - lo) (by lia) (by lia);rw[show lo+(k - lo)=k by lia]at this;exact this
    have q:rkAt rk (arrOf y) k<=rkAt rk (arrOf y) (lo+n - 1):=by rcases cx k (lo+n - 1) with kk|kk;have:=u (k - lo) (n - 1) (by lia) (by lia);rw[show lo+(k - lo)=k by lia,show lo+(n - 1)=lo+n - 1 by lia]at this;exact this;rw[show k=lo+n - 1 by lia];exact aV _
    lia
   refine aE (oN (R _ (b.arr (oO _ _ _ _) fun j S=>QO zn al j) fun i j h1 J=>?_));show rkAt rk (mirror (arrOf y) lo (lo+n) ((lo+n - lo) / 2)) (lo+j)<=rkAt rk (mirror (arrOf y) lo (lo+n) ((lo+n - lo) / 2)) (lo+i);rw[QO zn al,QO zn al];have ai:=al (lo+i) (by lia) (by lia);rcases cx j n with jn|jn;have:=al (lo+j) (by lia) (by lia);lia;rw[show j=n by lia];lia;simp only[g,if_false];have e1:n=1:=by lia
   subst e1;refine R y b fun i j h1 J=>?_;rw[show i=0 by lia,show j=1 by lia];exact cP l
  refine both _ fun y b dn=>?_;clear both;refine aE (nj (b7 ⟨rfl,aE ?_⟩));refine eV (cy (I:=fun x c y=>∃e,c=(none,x,e)/\Sl rk kd a0 z0 lo y/\DnL rk (arrOf y) lo x/\e<x/\∀i,lo+x - (e+1)<=i->i<lo+x->rkAt rk (arrOf y) i=rkAt rk (arrOf y) (lo+x - 1))
   (Q:=fun c y=>∃x e,c=(none,x,e)/\1<=x/\x<=m/\Sl rk kd a0 z0 lo y/\DnL rk (arrOf y) lo x/\e<x/\∀i,lo+x - (e+1)<=i->i<lo+x->rkAt rk (arrOf y) i=rkAt rk (arrOf y) (lo+x - 1)) ?turn2 ?last2 ⟨0,rfl,b,dn,by lia,fun i i1 i2=>by rw[show i=lo+(n+1) - 1 by lia]⟩) ?post2
  case last2 =>rintro _ y ⟨e,rfl,q⟩;rw[show max (n+1) m=m by lia]at *;exact⟨m,e,rfl,m1,aD _,q⟩
  case turn2 =>
   rintro x _ y N x2 ⟨e,rfl,C,d,ex,al⟩;have xz:lo+x<=(arrOf y).size:=by rw[C.sz];lia
   dsimp only;refine aE (askL c C (show lo+x<a0.size by lia) (show lo+x - 1<a0.size by lia) ?_);have one:∀xs:Array bW,∀i,lo+(x+1) - (0+1)<=i->i<lo+(x+1)->rkAt rk xs i=rkAt rk xs (lo+(x+1) - 1):=fun xs i i1 i2=>by rw[show i=lo+(x+1) - 1 by lia]
   by_cases g:rkAt rk (arrOf y) (lo+x)<rkAt rk (arrOf y) (lo+x - 1);simp only[g,decide_true,if_true];have d2:∀xs:Array bW,(∀k,rkAt rk xs k=rkAt rk (arrOf y) k)->DnL rk xs lo (x+1):=fun xs hx i j h1 J=>by rw[hx,hx];exact d.more (by lia) (cP g) i j h1 J
   by_cases e0:e > 0;simp only[e0,if_true];exact aE (oN (aI ⟨0,rfl,C.arr (oO _ _ _ _) (fun j S=>QO xz al j),d2 _ (QO xz al),by lia,one _⟩));simp only[e0,if_false];exact aI ⟨0,rfl,C,d2 _ (fun _=>rfl),by lia,one _⟩;simp only[g,decide_false,aU,if_false];refine aE (askL c C (show lo+x - 1<a0.size by lia) (show lo+x<a0.size by lia) ?_);by_cases g2:rkAt rk (arrOf y) (lo+x - 1)<rkAt rk (arrOf y) (lo+x);simp only[g2,decide_true,if_true];exact aI ⟨x,e,rfl,by lia,by lia,C,d,ex,al⟩;simp only[g2,decide_false,aU,if_false];have U:rkAt rk (arrOf y) (lo+x)=rkAt rk (arrOf y) (lo+x - 1):=by lia
   refine aI ⟨e+1,rfl,C,d.more (by lia) (by lia),by lia,fun i i1 i2=>?_⟩;rw[show lo+(x+1) - 1=lo+x by lia];rcases cx i (lo+x) with ix|ix;rw[al i (by lia) ix,U];rw[show i=lo+x by lia]
  case post2 =>
   rintro _ y ⟨x,e,rfl,N,x2,C,d,ex,al⟩;have kz:lo+x<=(arrOf y).size:=by rw[C.sz];lia
   dsimp only;have fin:∀(F:StateT bV Sem (Option Nat)),(∀L,Sl rk kd a0 z0 lo L->DnL rk (arrOf L) lo x->wpS (model prog w) A E s F Q L)->wpS (model prog w) A E s (if e > 0 then reverseSlice' (lo+x - (e+1)) (lo+x) >>= fun _=>F else F) Q y:=by intro F R;by_cases e0:e > 0;simp only[e0,if_true];refine aE (oN (R _ (C.arr (oO _ _ _ _) fun j S=>QO kz al j) fun i j h1 J=>?_));show rkAt rk (mirror (arrOf y) (lo+x - (e+1)) (lo+x) ((lo+x - (lo+x - (e+1))) / 2)) (lo+j)<=rkAt rk (mirror (arrOf y) (lo+x - (e+1)) (lo+x) ((lo+x - (lo+x - (e+1))) / 2)) (lo+i);rw[QO kz al,QO kz al];exact d i j h1 J;simp only[e0,if_false];exact R y C d
   refine fin _ fun y C d=>?_;clear fin;have hz:lo+x<=(arrOf y).size:=by rw[C.sz];lia
   have b2:=C.arr (oO (arrOf y) lo (lo+x) ((lo+x - lo) / 2)) fun j S=>(YN (rk:=rk) hz j).2 (.inl S);refine aE (oN (aE ?_));have u2:UpL rk (mirror (arrOf y) lo (lo+x) ((lo+x - lo) / 2)) lo x:=fun i j h1 J=>by rw[(YN (rk:=rk) hz (lo+i)).1 (by lia) (by lia),(YN (rk:=rk) hz (lo+j)).1 (by lia) (by lia)];have:=d (x - 1 - j) (x - 1 - i) (by lia) (by lia);rw[show lo+(x - 1 - j)=lo+(lo+x) - 1 - (lo+j) by lia,show lo+(x - 1 - i)=lo+(lo+x) - 1 - (lo+i) by lia]at this;exact this
   change UpL rk (arrOf (setArr y (mirror (arrOf y) lo (lo+x) ((lo+x - lo) / 2)))) lo x at u2;generalize setArr y (mirror (arrOf y) lo (lo+x) ((lo+x - lo) / 2))=v at b2 u2 ⊢;refine eV (cy (I:=fun x c y=>y=v/\c=(none,x)/\UpL rk (arrOf v) lo x) (Q:=fun c y=>y=v/\∃n,c=(none,n)/\1<=n/\n<=m/\UpL rk (arrOf v) lo n) ?turn3 ?last3 ⟨rfl,rfl,u2⟩) ?post3
   case last3 =>rintro _ y ⟨rfl,rfl,u⟩;rw[show max x m=m by lia]at u ⊢;exact⟨rfl,m,rfl,m1,aD _,u⟩
   case turn3 =>rintro Z _ y N x2 ⟨rfl,rfl,u⟩;dsimp only;refine aE (askL c b2 (by lia) (by lia) ?_);by_cases g:rkAt rk (arrOf y) (lo+Z)<rkAt rk (arrOf y) (lo+Z - 1);simp only[g,decide_true,if_true];exact aI ⟨rfl,Z,rfl,by lia,by lia,u⟩;simp only[g,decide_false,aU,if_false];exact aI ⟨rfl,rfl,u.more (by lia) g⟩
   case post3 =>rintro _ y ⟨rfl,n,rfl,n1,Y,u⟩;exact aI (h n y b2 n1 Y u)
end
abbrev Run3:=Nat×Nat×Nat
def Side:List Run3->Nat->Nat->Prop
 | [],a,b=>a=b
 | q::r,a,b=>q.1=a/\0<q.2.1/\Side r (a+q.2.1) b
theorem Ye:∀{l m:List Run3}{a b:Nat},Side (l++m) a b↔∃c,Side l a c/\Side m c b
 | [],m,a,b=>⟨fun h=>⟨a,rfl,h⟩,fun⟨c,e,h⟩=>by cases e;exact h⟩
 | q::l,m,a,b=>by constructor;rintro⟨h1,u,x⟩;obtain⟨c,v,o⟩:=Ye.mp x;exact⟨c,⟨h1,u,v⟩,o⟩;rintro⟨c,⟨h1,u,v⟩,o⟩;exact⟨h1,u,Ye.mpr ⟨c,v,o⟩⟩
theorem U7:∀{l:List Run3}{a b:Nat},Side l a b->a+l.length<=b/\∀q∈l,a<=q.1/\q.1+q.2.1<=b
 | [],a,b,h=>⟨by cases h;simp,fun q o=>nomatch o⟩
 | p::l,a,b,⟨h1,h2,h3⟩=>by obtain⟨v,u⟩:=U7 h3;refine⟨by simp only[aL];lia,fun q o=>?_⟩;rcases au.mp o with rfl|m;lia;have:=u q m;lia
theorem zhi{f:Run3->Run3}(hf:∀q,(f q).1=q.1/\(f q).2.1=q.2.1):∀{l:List Run3}{i a b:Nat},Side l a b->Side (l.modify i f) a b/\∀u∈l.modify i f,∃q∈l,u.1=q.1/\u.2.1=q.2.1
 | [],i,a,b,h=>by simp only[List.modify_nil];exact⟨h,fun q o=>nomatch o⟩
 | p::l,0,a,b,⟨h1,h2,h3⟩=>by rw[List.modify_zero_cons];refine⟨⟨(hf p).1.trans h1,(hf p).2▸h2,(hf p).2▸h3⟩,fun q o=>?_⟩;rcases au.mp o with rfl|m;exact⟨p,cM,hf p⟩;exact⟨q,b8 _ m,rfl,rfl⟩
 | p::l,i+1,a,b,⟨h1,h2,h3⟩=>by rw[List.modify_succ_cons];obtain⟨v,y⟩:=zhi hf (i:=i) h3;refine⟨⟨h1,h2,v⟩,fun q o=>?_⟩;rcases au.mp o with rfl|m;exact⟨q,cM,rfl,rfl⟩;obtain⟨u,x,e⟩:=y q m;exact⟨u,b8 _ x,e⟩
theorem zfk{α:Type}{x y v:α}:∀(l r:List α),((l++x::y::r).set l.length v).eraseIdx (l.length+1)=l++v::r
 | [],r=>rfl
 | a::l,r=>by have:=zfk (x:=x) (y:=y) (v:=v) l r;simp only[eN,aL,iz,m8,this]
structure Rn(rk:af->Int)(kd:fq)(a0:Array bW)(lo:Nat)(z:bV):Prop where
 pm:(arrOf z).Perm a0
 kn:kindOf z=kd
 fl:failedOf z=none
 sd:Side (pendingOf z).toList 0 lo
 ls:lo<=a0.size
 up:∀q∈(pendingOf z).toList,UpL rk (arrOf z) q.1 q.2.1
theorem UpL.same{rk:af->Int}{xs ys:Array bW}{lo m:Nat}(u:UpL rk xs lo m)(e:∀j,lo<=j->j<lo+m->rkAt rk ys j=rkAt rk xs j):UpL rk ys lo m:=fun i j h1 l=>by rw[e (lo+i) (by lia) (by lia),e (lo+j) (by lia) (by lia)];exact u i j h1 l
section
variable{prog:aJ}{w:a7}{A:aX}{E:qV}{s:aq}{kd:fq}{rk:af->Int}{a0:Array bW}{z0:bV}{lo:Nat}
theorem znj{i:Nat}{z:bV}{Q:Bool->bV->Prop}(c:Cmp prog w A s kd rk a0)(R:Rn rk kd a0 lo z)(hi:i+1<(pendingOf z).size)
  (h:∀y,Rn rk kd a0 lo y->(pendingOf y).size+1=(pendingOf z).size->(∀j,lo<=j->rkAt rk (arrOf y) j=rkAt rk (arrOf z) j)->Q true y):wpS (model prog w) A E s (mergeAt' i) Q z:=by
 obtain⟨l,x,y,r,v,Y⟩:∃l x y r,(pendingOf z).toList=l++x::y::r/\l.length=i:=by
  have h1:i<(pendingOf z).toList.length:=by simp;lia
  have h2:i+1<(pendingOf z).toList.length:=by simp;lia
  refine⟨(pendingOf z).toList.take i,(pendingOf z).toList[i],(pendingOf z).toList[i+1],(pendingOf z).toList.drop (i+2),?_,by simp;lia⟩;rw[<- br h2,<- br h1,ft]
 obtain⟨sa,na,pw⟩:=x;obtain⟨sb,nb,pw2⟩:=y;have sd:=R.sd;rw[v]at sd;obtain⟨a,s1,I,J,S,N,G⟩:=Ye.mp sd;dsimp only at I J S N G;subst I;subst S;have up:=R.up;rw[v]at up;obtain⟨t1,t2⟩:=U7 G;have t3:=U7 s1;have ls:=R.ls;refine ziK (sa:=sa) (na:=na) (nb:=nb) (pw:=pw) (pw2:=pw2) c R.kn R.fl R.pm ?_ ?_ J N (by lia) (up (sa,na,pw) (by simp)) (up (sa+na,nb,pw2) (by simp)) fun C ky Z py pe u out=>?_;rw[<- bP,v,bw (by lia),show i - l.length=0 by lia];rfl;rw[<- bP,v,bw (by lia),show i+1 - l.length=1 by lia];rfl;have pl:(pendingOf C).toList=l++(sa,na+nb,pw)::r:=by rw[pe];subst Y;rw[Array.toList_eraseIdxIfInBounds,Array.toList_setIfInBounds,v];exact zfk l r
 refine h C ⟨py,ky,Z,?_,R.ls,?_⟩ ?_ fun j hj=>out j (.inr (by lia));rw[pl];refine Ye.mpr ⟨sa,s1,rfl,by show 0<na+nb;lia,?_⟩;show Side r (sa+(na+nb)) lo;rw[<- pI];exact G;rw[pl];intro q hq;rcases aC.mp hq with m|m;exact(up q (by simp[m])).same fun j U j2=>out j (.inl (by have:=t3.2 q m;lia));rcases au.mp m with rfl|m;exact u;exact(up q (by simp[m])).same fun j U j2=>out j (.inr (by have:=t2 q m;lia));have e1:(pendingOf C).size=(pendingOf C).toList.length:=by simp
 have e2:(pendingOf z).size=(pendingOf z).toList.length:=by simp
 rw[e1,e2,pl,v];simp;lia
theorem zl1{z:bV}{Q:Unit->bV->Prop}(c:Cmp prog w A s kd rk a0)(b:Sb kd a0 z)(s2:2<=a0.size)
  (h:∀y,(arrOf y).Perm a0->failedOf y=none->Up rk (arrOf y) a0.size->Q () y):wpS (model prog w) A E s sortRuns' Q z:=by
 rw[sortRuns'_eq];refine aE (kc ?_);rw[b.sz];dsimp only;generalize minRun' a0.size a0.size 0=mr;refine aE (eV (cy (Q:=fun c y=>∃lo,c=(none,lo)/\Rn rk kd a0 lo y/\a0.size<=lo)
  (I:=fun x c y=>∃lo,c=(none,lo)/\Rn rk kd a0 lo y/\x<=lo) ?turn ?last ⟨0,rfl,⟨b.pm,b.kn,b.fl,by rw[b.pe];rfl,by lia,by rw[b.pe];intro q U;simp at U⟩,by lia⟩) ?post)
 case last =>rintro _ y ⟨lo,rfl,R,hx⟩;exact⟨lo,rfl,R,by lia⟩
 case turn =>
  rintro x _ y _ hx ⟨lo,rfl,R,hl⟩;dsimp only;by_cases ge:lo>=a0.size;rw[if_pos ge];exact aI ⟨lo,rfl,R,ge⟩;rw[if_neg ge];have rest:∀(n:Nat) (G:bV),1<=n->lo+n<=a0.size->Sl rk kd a0 y lo G->UpL rk (arrOf G) lo n->Rn rk kd a0 lo G:=fun n G N J S u=>by refine⟨S.pm,S.kn,S.fl,S.pe▸R.sd,R.ls,?_⟩;rw[S.pe];intro q U;exact(R.up q U).same fun j j1 j2=>S.lw j (by have:=(U7 R.sd).2 q U;lia)
  have push:∀(n:Nat) (G:bV),1<=n->lo+n<=a0.size->Rn rk kd a0 lo G->UpL rk (arrOf G) lo n->Rn rk kd a0 (lo+n) (setPending G ((pendingOf G).push (lo,n,0))):=fun n G N J S u=>by
   have e:(pendingOf (setPending G ((pendingOf G).push (lo,n,0)))).toList=(pendingOf G).toList++[(lo,n,0)]:=by show((pendingOf G).push (lo,n,0)).toList=_;simp
   refine⟨S.pm,S.kn,S.fl,?_,J,?_⟩;rw[e];exact Ye.mpr ⟨lo,S.sd,rfl,N,rfl⟩;rw[e];intro q U;rcases aC.mp U with m|m;exact S.up q m;cases aF.mp m;exact u
  refine aE (znU (z0:=y) (lo:=lo) c (by lia) (by lia) ⟨R.pm,R.kn,R.fl,rfl,fun _ _=>rfl⟩ fun k G S1 k1 k2 u1=>?_);dsimp only;by_cases g:k<mr;rw[if_pos g];refine aE (nj (b7 ⟨rfl,aE (zph c (n:=min (a0.size - lo) mr) (by lia) (by lia) S1 u1 fun y2 S2 Y=>?_)⟩));simp only[fU,aU,if_false];have N:1<=min (a0.size - lo) mr:=by lia
  have J:lo+min (a0.size - lo) mr<=a0.size:=by lia
  generalize min (a0.size - lo) mr=n at Y N J ⊢
  rotate_left 1
  rw[if_neg g];have N:1<=k:=k1;have J:lo+k<=a0.size:=by lia
  have S2:=S1;have Y:=u1;revert S1 u1 S2 Y;generalize G=y2;generalize k=n at N J ⊢;intro _ _ S2 Y;all_goals
   have R2:=rest n y2 N J S2 Y;refine aE (kc ?_);cases hb:(pendingOf y2).back? with
   | none =>dsimp only;exact aE (i5 (aI ⟨_,rfl,push n y2 N J R2 Y,by lia⟩))
   | some q =>obtain⟨q1,q2,q3⟩:=q;dsimp only;generalize power' a0.size (2*q1+q2) (2*q1+q2+q2+n) a0.size=pw;refine aE (eV (cy (I:=fun _ c v=>c=(none,())/\Rn rk kd a0 lo v/\UpL rk (arrOf v) lo n) (Q:=fun c v=>c=(none,())/\Rn rk kd a0 lo v/\UpL rk (arrOf v) lo n) ?_ (fun _ _ I=>I) ⟨rfl,R2,Y⟩) ?_);rintro x' _ v _ _ ⟨rfl,C,Z⟩;refine aE (kc ?_);by_cases big:(pendingOf v).size > 1;rw[if_pos big,aT (by lia)];generalize (pendingOf v)[(pendingOf v).size - 2]'(by lia)=o;obtain⟨o1,o2,o3⟩:=o;dsimp only;by_cases po:o3<=pw;rw[if_pos po];exact aI ⟨rfl,C,Z⟩;rw[if_neg po];refine aE (znj c C (by lia) fun y' R' _ out=>?_);simp only[fU,aU,if_false];exact aI ⟨rfl,R',Z.same fun j j1 _=>out j j1⟩;rw[if_neg big];exact aI ⟨rfl,C,Z⟩;rintro _ v ⟨rfl,C,Z⟩;dsimp only;have m:=zhi (f:=fun x=>(x.1,x.2.1,pw)) (fun q=>⟨rfl,rfl⟩) (i:=(pendingOf v).size - 1) C.sd;refine aE (i5 (aE (i5 (aI ⟨_,rfl,push n _ N J ⟨C.pm,C.kn,C.fl,?_,C.ls,?_⟩ Z,by lia⟩))));show Side ((pendingOf v).modify _ _).toList 0 lo;rw[pE];exact m.1;show ∀q∈((pendingOf v).modify _ _).toList,UpL rk (arrOf v) q.1 q.2.1;rw[pE];intro q U;obtain⟨q',m',e1,e2⟩:=m.2 q U;rw[e1,e2];exact C.up q' m'
 case post =>
  rintro _ y ⟨lo,rfl,R,hl⟩;have el:lo=a0.size:=by have:=R.ls;lia
  subst el;dsimp only;have p0:=(U7 R.sd).1;have ps:(pendingOf y).toList.length=(pendingOf y).size:=by simp
  refine aE (eV (cy (I:=fun x c v=>c=(none,())/\Rn rk kd a0 a0.size v/\((pendingOf v).size<=1\/(pendingOf v).size+x<=a0.size)) (Q:=fun c v=>c=(none,())/\Rn rk kd a0 a0.size v/\(pendingOf v).size<=1) ?_ ?_ ⟨rfl,R,.inr (by lia)⟩) ?_);rintro x _ v _ hx ⟨rfl,C,sz⟩;refine aE (kc ?_);by_cases le:(pendingOf v).size<=1;rw[if_pos le];exact aI ⟨rfl,C,le⟩;rw[if_neg le];refine aE (znj c C ?_ fun y' R' e _=>?_);have ile:∀(p:Prop) [Decidable p] (a b n:Nat),a<=n->b<=n->(if p then a else b)<=n:=by intros;split <;> assumption
  exact pW (Nat.add_le_add_right (ile _ _ _ ((pendingOf v).size - 2) (by lia) (aD _)) 1) (by lia);simp only[fU,aU,if_false];exact aI ⟨rfl,R',.inr (by lia)⟩;rintro _ v ⟨rfl,C,sz⟩;exact⟨rfl,C,by lia⟩;rintro _ v ⟨rfl,C,sz⟩;refine aI (h v C.pm C.fl ?_);have sd:=C.sd;have up:=C.up;have ps:(pendingOf v).toList.length=(pendingOf v).size:=by simp
  generalize (pendingOf v).toList=L at sd up ps;match L,sd,up,ps with
  | [],sd,_,_ =>have:(0:Nat)=a0.size:=sd;lia
  | [q],sd,up,_ =>obtain⟨e1,_,e2⟩:=sd;have e2:0+q.2.1=a0.size:=e2;have u:=up q (by simp);intro i j h1 h2;have:=u i j h1 (by lia);rw[e1]at this;simpa using this
  | _::_::_,_,_,ps=>simp at ps;lia
end
theorem zl0{prog:aJ}{w:a7}{A:aX}{E:qV}{s:aq}{o:fq}{rk:af->Int}{l:Array bW}{z:bV}{Q:Unit->bV->Prop}(c:Cmp prog w A s o rk l)(b:Sb o l z)(s2:2<=l.size)(_:l.size<100000)
  (h:∀y,(arrOf y).Perm l->failedOf y=none->Up rk (arrOf y) l.size->Q () y):wpS (model prog w) A E s sortRuns' Q z:=zl1 c b s2 h
def midH(h:aW)(a:aj)(vs:List af):aW:=((h.update a (bS fun _=>#[])).push (seqObj "tuple" vs.toArray 0)).push (seqObj "list" #[] 0)
section
variable{prog:aJ}{w:a7}{A:aX}{E:qV}{s:aq}{rk:af->Int}
def Kinds(prog:aJ)(w:a7)(A:aX)(s:aq)(rk:af->Int)(vs:List af):Prop:=2<=vs.length->∃l,(∀(E:qV) (Q:fq->aq->Prop),Q l s->wpAny (model prog w) A (keyKind' vs.toArray) Q E s)/\Cmp prog w A s l rk (pairsOf vs)
theorem zhG{a:aj}{vs:List af}{n:Nat}{P:Fin->aq->Prop}(l:s.heap.get? a=some (seqObj "list" vs.toArray n)) (x:vs.length<100000) (S:Kinds prog w A { s with heap:=midH s.heap a vs } rk vs)
  (h:∀y:bV,(arrOf y).Perm (pairsOf vs)->Up rk (arrOf y) vs.length->P (.done (.ret .none)) { s with heap:=sortedHeap s.heap a vs ((arrOf y).map (·.2)) }) :
  wpAny (model prog w) A (dh.«list.sort» ⟨[.ref a],[]⟩) P E s:=by
 rw[list_sort_plain];have G:a<s.heap.objs.size:=aw l;refine aa (fO l rfl (aa (ke l rfl ?_)));obtain⟨u,J⟩:∃u,(s.heap.update a (bS fun _=>#[])).get? a=some (seqObj "list" #[] u):=⟨_,kH l (fun _=>#[])⟩;refine aa (sS J rfl (aa (lQ (aa (ff (bU ?_))))));have I:(midH s.heap a vs).get? a=some (seqObj "list" #[] u):=by unfold midH;rw[cf _ _ _ (by rw[eo,cH];exact aA (aB G (fK _))),cf _ _ _ (by rw[cH];exact aA G)];exact J
 show wpAny (model prog w) A _ P E { s with heap:=midH s.heap a vs };have z:vs.toArray.size=vs.length:=by simp
 have tail:∀(y:bV),(arrOf y).Perm (pairsOf vs)->failedOf y=none->Up rk (arrOf y) vs.length->wpAny (model prog w) A (do
   let touched:=(<- seqEpoch a) != u
   vM (.ref a) fun _=>(arrOf y).map (·.2)
   if let some e:=failedOf y then rule "list.sort.comparison-raised";throw e
   if touched then rule "list.sort.modified";raiseError "ValueError" "list modified during sort"
   ret .none) P E { s with heap:=midH s.heap a vs }:=fun y pm fl up=>by
  refine aa (sS I rfl (aa (ke I rfl ?_ (hsz2:=?_))));rw[fl];simp only[bne_self_eq_false,aU,if_false];exact ae (h y pm up);rw[Array.size_map,pm.size_eq,nQ];show vs.length<=sizeLine+1;have:100000<=sizeLine:=by decide
  omega
 by_cases two:vs.length<2;simp only[z,two,if_true];refine aa (ae ?_);rw[StateT.run_pure];refine aa (ae ?_);exact tail (yZ general' (vs.toArray.zip vs.toArray) #[] 7 none) (tz _) rfl fun i j h1 L=>absurd L (by omega);simp only[z,two,if_false];obtain⟨R,U,N⟩:=S (by omega);refine aa (U _ _ ?_);refine aa (cA (zl0 (Q:=fun _ y=>(arrOf y).Perm (pairsOf vs)/\failedOf y=none/\Up rk (arrOf y) vs.length) (z:=yZ R (vs.toArray.zip vs.toArray) #[] 7 none) N ⟨tz _,rfl,rfl,rfl⟩ (by rw[nQ];omega) (by rw[nQ];exact x)
  fun y v p2 C=>⟨v,p2,by rwa [nQ]at C⟩) ?_ fun _ _ e=>e)
 rintro⟨⟨⟩,y⟩ s' ⟨rfl,v,p2,C⟩;exact tail y v p2 C
theorem zdW{l:aj}{vs:List af}{o:Obj}{T:String}{n:Nat}{Q:List af->aq->Prop}(C:s.heap.get? l=some o)(hc:o.cls=.type T)(I:T = "list" \/ T = "tuple") (hd:o.data=.seq vs.toArray n) (hz:vs.length<=sizeLine)
  (h:Q vs { s with heap:=(s.heap.push (seqObj "list" #[] 0)).update s.heap.objs.size (bS (·++vs.toArray)) }):wpAny (model prog w) A (collect (.ref l)) Q E s:=by
 unfold collect;refine aa (oP (dJ km ?_));show wpAny (model prog w) _ (newList [] >>= fun x=>again (.builtin "list.__iadd__" ⟨[x,.ref l],[]⟩)) _ _ s;refine aa (ff (ae ⟨gz _ (by decide +kernel),dJ nu ?_⟩));show wpAny (model prog w) _ (cX (.ref s.heap.objs.size) (.ref l) (.ref s.heap.objs.size)) _ _ { s with heap:=s.heap.push (seqObj "list" #[] 0) };unfold cX;have v:(s.heap.push (seqObj "list" #[] 0)).get? l=some o:=ag _ C;refine aa (dY (T:=T) ⟨o,v,hc⟩ ?_);have cond:∀b:Bool,(b||a8 T == a8 "list" ||a8 T == a8 "tuple")=true:=by intro b;have G:(a8 "list" == a8 "list")=true:=rfl;have J:(a8 "tuple" == a8 "tuple")=true:=rfl;rcases I with rfl|rfl;rw[G];simp;rw[J];simp
 rw[if_pos (cond _)];refine aa (fO v hd (aa (fO (xs:=#[]) (n:=0) (ax _ rfl) rfl ?_)));rw[if_neg (by simp)];refine aa (ke (xs:=#[]) (n:=0) (ax _ rfl) rfl (ae ?_) (cw _) (by simp only[Array.size_append,aG,cT];omega));refine aa (m:=load s.heap.objs.size) (lF (kH (ax _ rfl) _) ?_);show wpAny (model prog w) A (pure ((#[]:Array af)++vs.toArray).toList) Q E _;have e:((#[]:Array af)++vs.toArray).toList=vs:=by simp
 rw[e];exact ae h
def preH(h:aW)(vs:List af):aW:=((h.push (seqObj "list" #[] 0)).update h.objs.size (bS (·++vs.toArray))).push (seqObj "list" vs.toArray 0)
theorem zit{l:aj}{vs:List af}{o:Obj}{T:String}{n:Nat}{Q:qV}(C:s.heap.get? l=some o)(hc:o.cls=.type T)(I:T = "list" \/ T = "tuple") (hd:o.data=.seq vs.toArray n) (v:vs.length<100000)
  (L:∀G,Kinds prog w G { s with heap:=midH (preH s.heap vs) (s.heap.objs.size+1) vs } rk vs)
  (h:∀y:bV,(arrOf y).Perm (pairsOf vs)->Up rk (arrOf y) vs.length->Q (.ref (s.heap.objs.size+1)) { s with heap:=sortedAll s.heap vs ((arrOf y).map (·.2)) }) :
  wpAny (model prog w) A (call (.builtin "sorted") [.ref l]) Q E s:=by
 refine g9 oQ nR nT (rN _) ?_;unfold dh.«sorted»;refine aa (m:=checkCount "sorted" 1 1 _) (ae ?_);refine aa (zdW C hc I hd (by have:100000<=sizeLine:=(by decide);omega) (aa (ff ?_)));have z:((s.heap.push (seqObj "list" #[] 0)).update s.heap.objs.size (bS (·++vs.toArray))).objs.size=s.heap.objs.size+1:=by rw[cH,eo]
 have x:(preH s.heap vs).get? (s.heap.objs.size+1)=some (seqObj "list" vs.toArray 0):=by unfold preH;rw[<- z];exact ax _ rfl
 show wpAny (model prog w) _ _ _ _ { s with heap:=preH s.heap vs };rw[z];refine aa (bU (bK lR ⟨_,x,rfl⟩ kI (zhG x v (L _) fun y J p2=>⟨_,rfl,?_⟩) (oR _)));exact ae ⟨_,rfl,h y J p2⟩
end
section
variable{prog:aJ}{w:a7}{A:aX}{E:qV}{s:aq}
theorem zkB(b:Bool)(x y:af):keyLt' (tuples' b) x y=(do
  let xs <- iL x;let ys <- iL y
  for ((p,q),i) in (xs.toList.zip ys.toList).zipIdx do
   if !(<- eqBool p q) then return <- oneLt' (b&&i == 0) p q
  return decide (xs.size<ys.size)):=rfl
def LtAt(prog:aJ)(w:a7)(A:aX)(s:aq)(one:Bool)(p q:af)(l:Bool):Prop:=∀(E:qV) (Q:Bool->aq->Prop),Q l s->wpAny (model prog w) A (oneLt' one p q) Q E s
theorem zfL{b:Bool}{x y:aj}{N U:Obj}{u v C l:af}{n m:Nat}{J G R S:Bool}{Q:Bool->aq->Prop}(hx:s.heap.get? x=some N)(dx:N.data=.seq #[u,v] n)(Z:s.heap.get? y=some U)(Y:U.data=.seq #[C,l] m)
  (e0:pS A s u C J) (e1:pS A s v l G) (t0:J=false->LtAt prog w A s b u C R) (t1:G=false->LtAt prog w A s false v l S) (h:Q (if J=true then(if G=true then false else S) else R) s) :
  wpAny (model prog w) A (keyLt' (tuples' b) (.ref x) (.ref y)) Q E s:=by
 rw[zkB];refine aa (fO hx dx (aa (fO Z Y ?_)));have ez:((#[u,v]:Array af).toList.zip (#[C,l]:Array af).toList).zipIdx=[((u,C),0),((v,l),1)]:=rfl;simp only[ez,kE,lT];refine aa (aa ?_);refine aa (e0 prog w E _ ?_);cases J with
 | false =>
  simp only[gT,if_true];have z0:(b&&(0:Nat) == 0)=b:=by simp
  rw[z0];refine aa (t0 rfl E _ ?_);exact ae (ae (ae (by simpa using h)))
 | true =>
  simp only[fU,aU,if_false];refine ae (aa (aa (e1 prog w E _ ?_)));cases G with
  | false =>
   simp only[gT,if_true];have z1:(b&&(1:Nat) == 0)=false:=by simp
   rw[z1];refine aa (t1 rfl E _ ?_);exact ae (ae (ae (by simpa using h)))
  | true =>simp only[fU,aU,if_false];exact ae (ae (ae (by simpa using h)))
theorem zko(a b:Int)(t u:Tok):LtAt prog w A s true (.int a t) (.int b u) (decide (a<b)):=fun _ _ q=>oneLt_int q
theorem zhF(a b:Int)(t u:Tok):LtAt prog w A s false (.int a t) (.int b u) (decide (a<b)):=fun E Q q=>by rw[oneLt'_eq];simp only[aU,if_false];refine aa (show wpAny (model prog w) A (compareOp .Lt (.int a t) (.int b u)) _ E s from lt_int ?_);exact dX q
def PrIn(h:aW)(u:af)(b k:Int):Prop:=∃(a:aj) (o:Obj) (t t':Tok) (n:Nat),u=.ref a/\h.get? a=some o/\o.cls=.type "tuple" /\ o.data=.seq #[.int b t,.int k t'] n
def two?:List af->Int
 | [.int b _,.int k _]=>b*1000+k
 | _=>0
def rkC(h:aW)(u:af):Int:=match u with
 | .ref a=>match h.get? a with
  | some o=>match o.data with
   | .seq xs _=>two? xs.toList
   | _=>0
  | none=>0
 | _=>0
theorem PrIn.rk{h:aW}{u:af}{b k:Int}(p:PrIn h u b k):rkC h u=b*1000+k:=by obtain⟨a,o,t,t',n,rfl,l,_,v⟩:=p;simp only[rkC,l,v,two?]
theorem PrIn.kept{h h':aW}{u:af}{b k:Int}(p:PrIn h u b k)(kp:∀b o,h.get? b=some o->h'.get? b=some o):PrIn h' u b k:=by obtain⟨a,o,t,t',n,x,l,y,v⟩:=p;exact⟨a,o,t,t',n,x,kp _ _ l,y,v⟩
theorem Yd{α u:Type}{f:α->Sem u}{P:α->u->Prop}{M:sO}:∀(l:List α) {Q:List u->aq->Prop},(∀v∈l,∀(C:u->aq->Prop),(∀r,P v r->C r s)->wpAny M A (f v) C E s)->(∀rs,bR P l rs->Q rs s)->wpAny M A (l.mapM f) Q E s
 | [],_,_,h=>by rw[List.mapM_nil];exact ae (h _ .nil)
 | x::l,Q,hf,h=>by rw[List.mapM_cons];exact aa (hf x (.head _) _ fun r G=>aa (Yd l (fun v I=>hf v (.tail _ I)) fun rs y=>ae (h _ (.cons G y))))
theorem zhZ(v:af):firstOfTuple' v=(do
  if (<- typeOf v) != .type "tuple" then return none
  return (<- iL v)[0]?):=rfl
theorem ziQ{vs:List af}{Q:fq->aq->Prop}(h1:1<=vs.length)(L:∀v∈vs,∃b k,PrIn s.heap v b k)(h:Q (tuples' true) s):wpAny (model prog w) A (keyKind' vs.toArray) Q E s:=by
 rw[keyKind'_eq,iM,map_eq_pure_bind];refine aa (aa (Yd (P:=fun _ r=>∃(b:Int) (t:Tok),r=some (.int b t)) vs (fun v Y Q' Z=>?_) fun rs J=>ae ?_));obtain⟨b,k,a,o,t,t',n,rfl,U,e2,e3⟩:=L v Y;rw[zhZ];refine aa (dY (T:="tuple") ⟨o,U,e2⟩ ?_);rw[if_neg (by decide)];exact aa (fO U e3 (ae (Z _ ⟨b,t,rfl⟩)));have al:∀r∈rs,∃(b:Int) (t:Tok),r=some (.int b t):=by
  clear h L h1;induction J with
  | nil=>intro r u;cases u
  | cons x y G =>intro r u;rcases au.mp u with rfl|u;exact x;exact G r u
 have ln:rs.length=vs.length:=by
  clear h L h1 al;induction J with
  | nil=>rfl
  | cons x y G=>simp[G]
 have LK:(rs.toArray.all fun x=>x.isSome)=true:=by simp only[i6,dw];intro x hx;obtain⟨b,t,rfl⟩:=al x hx;rfl
 rw[if_pos LK];refine aa (b7 ?_);rw[tB];have N:rs.toArray.filterMap id=(rs.filterMap id).toArray:=by simp
 rw[N,iM,map_eq_pure_bind];refine aa (aa (aa (Yd (P:=fun _ r=>r=a8 "int") _ (fun v Y Q' Z=>?_) fun ts C=>ae ?_)));obtain⟨x,hx,e⟩:=gq.mp Y;obtain⟨b,t,rfl⟩:=al x hx;cases e;exact ae (Z _ rfl);have I:∀r∈ts,r=a8 "int":=by
  clear h L h1;generalize rs.filterMap id=l at C;induction C with
  | nil=>intro r u;cases u
  | cons x y G =>intro r u;rcases au.mp u with rfl|u;exact x;exact G r u
 have ln2:ts.length=rs.length:=by
  have:ts.length=(rs.filterMap id).length:=by
   clear h L h1 I;generalize rs.filterMap id=l at C;induction C with
   | nil=>rfl
   | cons x y G=>simp[G]
  rw[this];clear this C N LK;clear ln J;induction rs with
  | nil=>rfl
  | cons x l G =>obtain⟨b,t,rfl⟩:=al x (.head _);simp only[eE,id,aL];rw[G fun r u=>al r (.tail _ u)]
 obtain⟨R,S,rfl⟩:∃R S,ts=R::S:=by
  cases ts with
  | nil=>simp at ln2;omega
  | cons a b=>exact⟨a,b,rfl⟩
 have U:R=a8 "int":=I R (.head _);subst U;have LM:(((a8 "int")::S).toArray.all fun x=>x == a8 "int")=true:=by simp only[i6,dw];intro x hx;rw[I x hx];rfl
 have h0:((a8 "int")::S).toArray[0]?=some (a8 "int"):=by simp
 rw[h0];simp only[LM,if_true];refine ae (ae ?_);exact h
theorem zgL{vs:List af}{h0:aW}(y:∀v∈vs,∃b k,PrIn s.heap v b k/\rkC h0 v=b*1000+k/\0<=k/\k<1000):Kinds prog w A s (rkC h0) vs:=fun h2=>by
 refine⟨tuples' true,fun E Q q=>ziQ (by omega) (fun v G=>?_) q,fun p q E Q mp mq h=>?_⟩;obtain⟨b,k,h,_⟩:=y v G;exact⟨b,k,h⟩;have mem:∀z∈(pairsOf vs).toList,z.1∈vs:=fun z hz=>by
  have:z∈vs.zip vs:=by simpa[pairsOf] using hz
  exact(cS this).1
 obtain⟨b,k,⟨a,o,t,t',n,N,S,e2,I⟩,R,k0,k1⟩:=y _ (mem p mp);obtain⟨x,l,⟨a',o',u,C,n',f0,f1,f2,U⟩,J,Y,Z⟩:=y _ (mem q mq);rw[R,J]at h;rw[N,f0];refine zfL S I f1 U (iu b t x u) (iu k t' l C) (fun _=>zko b x t u) (fun _=>zhF k l t' C) ?_;have:(if (b == x)=true then(if (k == l)=true then false else decide (k<l)) else decide (b<x))=decide (b*1000+k<x*1000+l):=by simp only[beq_iff_eq];split;split;symm;rw[decide_eq_false_iff_not];omega;rw[decide_eq_decide];omega;rw[decide_eq_decide];omega
 rw[this];exact h
end
theorem Ux{α u:Type}{l:List (α×u)}{m:List u}(h:m.Perm (l.map (·.2))):∃o:List (α×u),o.Perm l/\o.map (·.2)=m:=by
 induction m generalizing l with
 | nil =>
  have:l.map (·.2)=[]:=h.symm.eq_nil;cases l with
  | nil=>exact⟨[],.refl _,rfl⟩
  | cons a b=>simp at this
 | cons x m v =>
  have hx:x∈l.map (·.2):=h.mem_iff.mp (.head _);obtain⟨z,hz,rfl⟩:=cE.mp hx;obtain⟨C,l2,rfl⟩:=List.append_of_mem hz;have y:(z.2::m).Perm (z.2::(C++l2).map (·.2)):=by refine h.trans ?_;simp only[dM,bp];exact gk
  obtain⟨o,p,e⟩:=v (List.perm_cons _|>.mp y);exact⟨z::o,(p.cons z).trans gk.symm,by simp[e]⟩
theorem ziH{h:aW}{vs:List af}{b:aj}{o:Obj}(u:h.get? b=some o):(midH (preH h vs) (h.objs.size+1) vs).get? b=some o:=by
 have l:b<h.objs.size:=aw u;unfold midH preH;rw[cf _ _ _ (by rw[eo,cH,eo,cH,eo];exact aA (aB l (by lia))),cf _ _ _ (by rw[cH,eo,cH,eo];exact aA (aB l (by lia))),
  hU _ _ _ _ (by exact aA (aB l (by lia))),cf _ _ _ (by rw[cH,eo];exact aA (aB l (by lia))),hU _ _ _ _ (by exact aA (aB l (by lia))),cf _ _ _ (by exact aA (aB l (by lia)))]
 exact u
def rkD:ah->Int
 | .tuple [.int b,.int k]=>b*1000+k
 | _=>0
def PrV(K:qF)(H:Hp)(z:V×ah):Prop:=∃q b k,z.1=.ref q/\z.2=.tuple [.int b,.int k]/\SqT K H q [.int b,.int k]/\0<=k/\k<1000
section
variable{X:Cx}
theorem zgc:JI X (.builtin "sorted") (fun xs H Q=>∃(p:aj) (zs:List (V×ah)),xs=[.ref p]/\(SqL X.K H p (zs.map (·.1))\/SqT X.K H p (zs.map (·.1)))/\zs.length<100000/\(∀z∈zs,PrV X.K H z) /\
  ∀G:List (V×ah),G.Perm zs->G.Pairwise (fun a b=>rkD a.2<=rkD b.2)->∀l,H l=none->Q (.ref l) (upd H l (.lst (G.map (·.1))))):=by
 intro pins s σ H xs us Q I r h;obtain⟨p,zs,rfl,U,h64,hp,q⟩:=h;obtain⟨u,rfl,rx⟩:=vals1 r;cases rx;have key:∀(its:List af) (o:Obj) (T:String) (n:Nat),Vals (zs.map (·.1)) its->s.heap.get? p=some o->o.cls=.type T->(T = "list" \/ T = "tuple")->o.data=.seq its.toArray n -> 
   wpAny (model X.prog X.w) X.A (call (.builtin "sorted") [.ref p]) (EP X pins σ Q) X.xe s:=fun its o T n rv R hc hT hd=>by
  have hlen:zs.length=its.length:=by simpa using rv.length
  have each:∀x∈zs.zip its,RelV x.1.1 x.2/\∃b k,PrIn s.heap x.2 b k/\x.1.2=.tuple [.int b,.int k]/\0<=k/\k<1000:=by
   have rel:∀(zs:List (V×ah)) (its:List af),Vals (zs.map (·.1)) its->∀x∈zs.zip its,RelV x.1.1 x.2:=by
    intro zs;induction zs with
    | nil=>intro its _ x hx;simp at hx
    | cons z zs ih =>
     intro its r x hx;cases r with
     | cons Y r2 =>rcases au.mp (by simpa using hx) with rfl|hx;exact Y;exact ih _ r2 x hx
   intro x hx;have Y:=rel zs its rv x hx;obtain⟨q',b,k,e1,Z,e3,k0,k1⟩:=hp x.1 (cS hx).1;refine⟨Y,b,k,?_,Z,k0,k1⟩;rw[e1]at Y;obtain⟨is,rs,⟨o',f1,f2,n',f3⟩,_⟩:=I.tuple e3;cases rs with
   | cons a1 a2 =>
    cases a2 with
    | cons a3 a4 =>cases a4;obtain⟨t,rfl⟩:=a1;obtain⟨t',rfl⟩:=a3;exact⟨q',o',t,t',n',Y,f1,f2,f3⟩
  refine zit (rk:=rkC s.heap) R hc hT hd (by lia) (fun A'=>zgL fun v hv=>?_) fun y pm up=>?_;obtain⟨i,hi,rfl⟩:=bh hv;have hz:i<zs.length:=by lia
  have mem:(zs[i],its[i])∈zs.zip its:=by
   have:(zs.zip its)[i]'(by simp;lia)=(zs[i],its[i]):=by simp
   rw[<- this];exact dS _
  obtain⟨_,b,k,h1,_,k0,k1⟩:=each _ mem;exact⟨b,k,h1.kept fun _ _ e=>ziH e,h1.rk,k0,k1⟩;have J:(arrOf y).toList.Perm (its.zip its):=by have:=c9.mp pm;simpa[pairsOf] using this
  have pm1:((arrOf y).toList.map (·.2)).Perm ((zs.zip its).map (·.2)):=by refine(J.map _).trans ?_;rw[fi (by lia),fi (by lia)]
  obtain⟨C,p1,p2⟩:=Ux pm1;have Lf:∀x∈C,RelV x.1.1 x.2/\∃b k,PrIn s.heap x.2 b k/\x.1.2=.tuple [.int b,.int k]/\0<=k/\k<1000:=fun x hx=>each x (p1.mem_iff.mp hx);have pz:(C.map (·.1)).Perm zs:=by have:=p1.map (·.1);rwa [gX (by lia)]at this
  have rw':Vals ((C.map (·.1)).map (·.1)) (C.map (·.2)):=by
   have:∀C:List ((V×ah)×af),(∀x∈C,RelV x.1.1 x.2)->Vals ((C.map (·.1)).map (·.1)) (C.map (·.2)):=by
    intro C;induction C with
    | nil=>intro _;exact .nil
    | cons a l ih=>intro h;exact .cons (h a (.head _)) (ih fun x hx=>h x (.tail _ hx))
   exact this C fun x hx=>(Lf x hx).1
  have S:∀x∈C,rkC s.heap x.2=rkD x.1.2:=fun x hx=>by obtain⟨_,b,k,h1,h2,_⟩:=Lf x hx;rw[h1.rk,h2];rfl
  have Ly:∀z∈(arrOf y).toList,z.1=z.2:=fun z hz=>by have:z∈its.zip its:=J.mem_iff.mp hz;obtain⟨i,hi,rfl⟩:=bh this;simp
  have szy:(arrOf y).size=its.length:=by have:=J.length_eq;simpa using this
  have pw:(C.map (·.1)).Pairwise (fun a b=>rkD a.2<=rkD b.2):=by
   rw[cz,aZ];intro i j hi hj hij;have lw:C.length=its.length:=by have:=congrArg fI p2;simpa[szy] using this
   have gw:∀k (hk:k<C.length),rkAt (rkC s.heap) (arrOf y) k=rkD C[k].1.2:=fun k hk=>by
    have N:k<(arrOf y).size:=by lia
    have e1:(arrOf y).toList[k]'(by simpa using N)=(arrOf y)[k]:=by simp
    have Z:C[k].2=(arrOf y)[k].2:=by
     have:(C.map (·.2))[k]'(by simpa using hk)=((arrOf y).toList.map (·.2))[k]'(by simpa using N):=by simp only[p2]
     simpa using this
    have e3:(arrOf y)[k].1=(arrOf y)[k].2:=Ly _ (by rw[<- e1];exact dS _);unfold rkAt;rw[aT N];simp only[gE,fh];rw[e3,<- Z];exact S _ (dS _)
   have:=up i j hij (by lia);rwa [gw i hi,gw j hj]at this
  have ev:(arrOf y).map (·.2)=(C.map (·.2)).toArray:=by apply Array.toList_inj.mp;rw[sE,p2]
  rw[ev];obtain⟨e,he⟩:=sortedAll_at s.heap its (C.map (·.2)).toArray;refine⟨.ref (s.heap.objs.size+1),_,I.laid (a:=s.heap.objs.size+1) (o:=.lst ((C.map (·.1)).map (·.1))) (t':=s.toks) (fun _ _=>sortedAll_old) (fK _) ?_,rfl,q _ pz pw _ (I.hok.fresh (fK _))⟩;refine⟨?_,C.map (·.2),e,rw',he⟩;have:100000<=sizeLine:=by decide
  have:=pz.length_eq;simp at this ⊢;lia
 rcases U with U|U;obtain⟨its,r',pl,hz⟩:=I.list U;obtain⟨o,R,hc,n,hd⟩:=pl.isList;exact key its o "list" n r' R hc (.inl rfl) hd;obtain⟨its,r',pl,hz⟩:=I.tuple U;obtain⟨o,R,hc,n,hd⟩:=pl;exact key its o "tuple" n r' R hc (.inr rfl) hd
end
def IsPr(t:ah):Prop:=∃b k:Int,t=.tuple [.int b,.int k]/\0<=k/\k<1000
def UK(t:ah)(R:List ah->Prop):Prop:=JG t fun ts=>ts.length<100000/\(∀x∈ts,IsPr x)/\∀l:List ah,l.Perm ts->l.Pairwise (fun a b=>rkD a<=rkD b)->R l
def zo9(d:DTE):DTA:=fun o n R=>d o n fun t l=>UK t fun ts=>R ts l
section
variable{X:Cx}{e:bg}{d:DTE}{pos p:Pos}{k:Nat}
theorem zfZ(hr:Room k X.A)(hm:X.mg "sorted" = none) (h:DL X e d) (hs:starEach [e] X.env=[(false,eval e X.env)]) (hg:Gl X "sorted":=by rfl):DN X (.Call (.Name "sorted" p) [e] [] pos) (zo9 d):=by
 obtain⟨ta,pa,h⟩:=h;refine⟨_,QT zgc hm oS (JW pa Qi hs) hg,fun C U σ H n Q R S hd hq=>?_⟩;refine h C U σ H n _ _ S hd fun t n1 v u r1 Z h1 q1=>?_;have S1:=S.on Z h1;have fin:∀p vs ts,Reps X.K C.hd (Own C U σ) u vs ts->R ts n1->u p=none->Q (.ref p) (upd u p (.lst vs)):=fun p vs ts rp rr L=>by
  have hp0:H p=none:=by
   cases z:H p with
   | none=>rfl
   | some o =>by_cases y:C.hd=some p;obtain⟨vs,q⟩:=h1.lst y;rw[L]at q;cases q;rw[Z p o z y]at L;cases L
  refine hq ts n1 p vs _ rr (Z.trans (ExtE.new L)) (h1.same (JB L)) hp0 Jo ?_;refine rp.mono (fun b o hb z=>z.elim id fun z=>?_) fun b o _ hb=>JB L b o hb;subst z;rw[L]at hb;cases hb
 have go:∀(p:aj) vs ts,(SqL X.K u p vs\/SqT X.K u p vs)->Reps X.K C.hd (Own C U σ) u vs ts->(ts.length<100000/\(∀x∈ts,IsPr x)/\∀I:List ah,I.Perm ts->I.Pairwise (fun a b=>rkD a<=rkD b)->R I n1) ->
   ∃(p':aj) (zs:List (V×ah)),[V.ref p]=[V.ref p']/\(SqL X.K u p' (zs.map (·.1))\/SqT X.K u p' (zs.map (·.1)))/\zs.length<100000/\(∀z∈zs,PrV X.K u z) /\
  ∀G:List (V×ah),G.Perm zs->G.Pairwise (fun a b=>rkD a.2<=rkD b.2)->∀l,u l=none->Q (.ref l) (upd u l (.lst (G.map (·.1)))):=fun p vs ts hs rp h=>by
  have ln:=rp.length;have rel:∀z∈vs.zip ts,Rep X.K C.hd (Own C U σ) u z.1 z.2:=fun z hz=>by
   obtain⟨i,hi,rfl⟩:=bh hz;have hi2:i<ts.length:=by simp at hi;lia
   obtain⟨v,h1,Y⟩:=rp.get (av hi2);have hi1:i<vs.length:=by lia
   rw[av hi1]at h1;cases h1;simpa using Y
  refine⟨p,vs.zip ts,rfl,?_,by simp;lia,fun z hz=>?_,fun G pm pw l hl=>?_⟩;rw[gX (by lia)];exact hs;obtain⟨b,k,e,k0,k1⟩:=h.2.1 z.2 (cS hz).2;have r:=rel z hz;rw[e]at r;obtain⟨a,ws,Z,e2,e3⟩:=r.tupI;cases e3 with
  | cons x1 x2 =>
   cases x2 with
   | cons x3 x4 =>cases x4;rw[x1.intI,x3.intI]at e2;exact⟨a,b,k,Z,e,e2,k0,k1⟩
  refine fin l _ (G.map (·.2)) ?_ (h.2.2 _ ?_ ?_) hl;have:∀zs:List (V×ah),(∀z∈zs,Rep X.K C.hd (Own C U σ) u z.1 z.2)->Reps X.K C.hd (Own C U σ) u (zs.map (·.1)) (zs.map (·.2)):=by
   intro zs;induction zs with
   | nil=>intro _;exact .nil
   | cons a l ih=>intro h;exact .cons (h a (.head _)) (ih fun x hx=>h x (.tail _ hx))
  exact this G fun z hz=>rel z (pm.mem_iff.mp hz);have:=pm.map (·.2);rwa [fi (by lia)]at this;rw[cz];exact pw
 cases t with
 | list ts =>obtain⟨p,vs,rfl,J,Y⟩:=q1.lstI;exact go p vs ts (.inl (.of J)) Y r1
 | tuple ts =>obtain⟨p,vs,rfl,J,Y⟩:=q1.tupI;exact go p vs ts (.inr J) Y r1
 | _=>exact r1.elim
end
abbrev prD(b:Int×Int):ah:=.tuple [.int b.1,.int b.2]
def pD(bs:qB):List ah:=bs.map prD
theorem JM{bs:qB}:(pD bs).length=bs.length:=by simp[pD]
theorem zj7{bs cs:qB}:pD bs++pD cs=pD (bs++cs):=by simp[pD]
theorem Q1{i h:Int}{bs:qB}:pD bs++[.tuple [.int i,.int h]]=pD (bs++[(i,h)]):=by simp[pD]
theorem zj6{bs:qB}{k:Nat}{t:ah}(h:(pD bs)[k]?=some t):∃i g:Int,bs[k]?=some (i,g)/\t=.tuple [.int i,.int g]:=by
 unfold pD at h;rw[aN]at h;cases e:bs[k]? with
 | none=>rw[e]at h;cases h
 | some b=>rw[e]at h;cases h;exact⟨b.1,b.2,rfl,rfl⟩
def eB(b:Int×Int):Int:=b.1+2 ^ b.2.toNat
def Bks(bits:Int)(bs:qB):Prop:=∀b∈bs,IsBk bits b.1 b.2
def Ptc(bits:Int)(bs:qB):Prop:=Bks bits bs/\bs.Pairwise fun a b=>eB a<=b.1
theorem J7(b:Int×Int):b.1<eB b:=by have:=Bd.Qt b.2.toNat;unfold eB;lia
theorem zkb{bs:qB}:Okd (.list (pD bs)):=by
 have:∀bs:List (Int×Int),iN (pD bs)=true/\kJ (pD bs)<=1:=by
  intro bs;induction bs with
  | nil=>exact⟨by simp[pD,iN],by simp[pD,kJ]⟩
  | cons b l o =>refine⟨?_,?_⟩;have:=o.1;simp only[pD,bp,iN,oT,Bool.and_true,mS]at this ⊢;exact this;have:=o.2;simp only[pD,bp,kJ,rO]at this ⊢;lia
 exact⟨by simp only[oT];exact(this bs).1,by simp only[rO];have:=(this bs).2;lia⟩
theorem zoo:Okd (.list []):=⟨by simp[oT,iN],by simp[rO,kJ]⟩
theorem zoM{d:DTE}{o:En}{n:Nat}{l:List ah->Nat->Prop}(h:d o n fun t u=>UK t fun ts=>l ts u):zo9 d o n l:=h
theorem zqV{bits:Int}{bs:qB}{J:List ah->Prop}(u:bits<=64)(B:Bks bits bs)(dis:bs.Pairwise fun a b=>eB a<=b.1\/eB b<=a.1)(G:bs.length<100000)
  (h:∀cs,Ptc bits cs->cs.Perm bs->J (pD cs)):UK (.list (pD bs)) J:=by
 refine⟨by rw[JM];exact G,fun x hx=>?_,fun o pm pw=>?_⟩;obtain⟨b,C,rfl⟩:=cE.mp hx;have:=B b C;exact⟨b.1,b.2,rfl,this.1,by have:=this.2.1;lia⟩;have I:o.Perm ((bs.map fun b=>(b,prD b)).map (·.2)):=by
  have:(bs.map fun b=>(b,prD b)).map (·.2)=pD bs:=by simp[pD]
  rw[this];exact pm
 obtain⟨zs,N,p2⟩:=Ux I;have U:∀z∈zs,z.2=prD z.1:=fun z hz=>by obtain⟨b,_,rfl⟩:=cE.mp (N.mem_iff.mp hz);rfl
 have e:o=pD (zs.map (·.1)):=by rw[<- p2];unfold pD;rw[cD];exact e9 fun z hz=>U z hz
 have pc:(zs.map (·.1)).Perm bs:=by
  have:=N.map (·.1);rw[cD]at this;have S:bs.map ((fun x:(Int×Int)×ah=>x.1)∘fun b=>(b,prD b))=bs:=by show bs.map id=bs;exact xJ _
  rwa [S]at this
 rw[e];have y:(zs.map (·.1)).Pairwise fun a b=>eB a<=b.1\/eB b<=a.1:=(pc.pairwise_iff (fun {a b} h=>h.symm)).mpr dis;have v:Bks bits (zs.map (·.1)):=fun b u=>B b (pc.mem_iff.mp u);rw[e]at pw;unfold pD at pw;rw[cz]at pw;refine h _ ⟨v,?_⟩ pc;have both:=AE y pw;refine mU ?_ both;rintro a b L u ⟨h1,R⟩;have R:a.1*1000+a.2<=b.1*1000+b.2:=R;have Y:=(v a L).1;have a1:=(v a L).2.1;have Z:=(v b u).1;have b1:=(v b u).2.1;have:=J7 a;have:=J7 b;lia
theorem zrZ{I:DTG}{tt:DTT}{d:DTE}{v:En}{G:List ah->Nat->Prop}(Inv:Nat->List ah->Nat->Prop):∀(xs:qD) (i:Nat) {acc:qD}{n:Nat},Inv i acc n ->
  (∀(k:Nat) (x:ah) (acc:qD) (n:Nat) (K:List ah->Nat->Prop),xs[k]?=some x->Inv (i+k) acc n->(∀o y,Inv (i+k+1) o y->K o y) ->
   I x v fun C=>tt C n fun b J=>if b=true then d C J fun t R=>acc.length<16777216/\K (acc++[t]) R else K acc J) ->
  (∀acc n,Inv (i+xs.length) acc n->G acc n)->JD I tt d v xs acc n G
 | [],i,acc,n,h0,_,fin=>fin acc n (by simpa using h0)
 | x::xs,i,acc,n,h0,turn,fin=>by
  refine turn 0 x acc n (fun acc n=>JD I tt d v xs acc n G) rfl (by simpa using h0) fun o y h'=>?_;refine zrZ Inv xs (i+1) (by simpa using h') (fun k u acc n K e L N=>?_) (fun acc n h=>fin acc n ?_);refine turn (k+1) u acc n K (by simpa using e) ?_ fun o y h'=>N o y ?_;have:i+(k+1)=i+1+k:=by lia
  rw[this];exact L;have:i+1+k+1=i+(k+1)+1:=by lia
  rw[this];exact h';have:i+(x::xs).length=i+1+xs.length:=by simp;lia
  rw[this]at *;exact h
theorem zlm{G:DTG}{tt:DTT}{d:DTE}{o:En}{v:List ah->Nat->Prop}{xs:qD}{n:Nat}(Inv:Nat->List ah->Nat->Prop)(h0:Inv 0 [] n)
  (turn:∀(k:Nat) (x:ah) (acc:qD) (n:Nat) (K:List ah->Nat->Prop),xs[k]?=some x->Inv k acc n->(∀l C,Inv (k+1) l C->K l C) ->
   G x o fun u=>tt u n fun b y=>if b=true then d u y fun t L=>acc.length<16777216/\K (acc++[t]) L else K acc y)
  (fin:∀acc n,Inv xs.length acc n->v acc n):JD G tt d o xs [] n v :=
 zrZ Inv xs 0 h0 (fun k x acc n K e I J=>turn k x acc n K e (by simpa using I) fun a m h=>J a m (by simpa using h)) fun acc n h=>fin acc n (by simpa using h)
theorem Uv{α:Type}{cs:List α}{D:α->ah}{C:DTG}{tt:DTT}{d:DTE}{o:En}{n:Nat}{v:List ah->Nat->Prop}(F:α->ah)(I:cs.length<=16777216)
  (step:∀b∈cs,∀(K:qN) (X:Nat->Prop),K (F b) n->C (D b) o fun u=>tt u n fun c y=>if c=true then d u y K else X y) (fin:v (cs.map F) n):JD C tt d o (cs.map D) [] n v:=by
 refine zlm (fun j acc m=>m=n/\acc=(cs.take j).map F) ⟨rfl,rfl⟩ ?_ ?_;rintro j x acc m K l ⟨rfl,rfl⟩ hK;rw[aN]at l;cases eb:cs[j]? with
 | none=>rw[eb]at l;cases l
 | some b =>rw[eb]at l;cases l;obtain⟨G,J⟩:=aH.mp eb;refine step b (aP eb) _ _ ⟨?_,hK _ _ ⟨rfl,?_⟩⟩;simp;lia;rw[gR,eb];simp
 rintro acc m ⟨rfl,rfl⟩;rw[aR,ny];exact fin
theorem zrx{bs:List Bool}{R:ah->Prop}(h:R (.bool (bs.all id))):bAll [.list (bs.map eU)] R:=⟨bs,rfl,h⟩
theorem zkL{α:Type}{cs:List α}{f:α->Bool}{R:ah->Prop}(h:R (.bool (cs.all f))):bAll [.list (cs.map fun b=>eU (f b))] R:=by
 have e:(cs.map fun b=>eU (f b))=(cs.map f).map eU:=by simp
 rw[e];refine zrx ?_;have u:(cs.map f).all id=cs.all f:=by simp[List.all_map,fL]
 rw[u];exact h
theorem zgR{bs:qB}:pX (.list (pD bs)) (.list [])=bs.isEmpty:=by
 cases bs with
 | nil=>simp[pD,pX,vn]
 | cons b l=>simp[pD,pX,vn]
theorem Ui{many:Int}{n:Nat}{R:qN}(h0:0<many)(h1:many<2 ^ 128)(l:n<=1000000000000)(h:∀r:Int,0<=r->r<many->R (.int r) (n+1)):QX [HAND,.int many] n R:=⟨rfl,h0,h1,l,h⟩
theorem ziG{i h:Int}:JO (.tuple [.int i,.int h])=true:=by simp[JO,UZ]
theorem Bks.app{bits i h:Int}{bs:qB}(B:Bks bits bs)(C:IsBk bits i h):Bks bits (bs++[(i,h)]):=fun b l=>by rcases aC.mp l with z|z;exact B b z;cases aF.mp z;exact C
section
variable{prog:aJ}{w:a7}{A:aX}{E:qV}{s:aq}
open HT in
theorem zcd{t C:aj}{items:Array af}{G J:af}{lo hi:Option Int}{Q:qV}(l:rh s.heap t items)(I:s.heap.IsSliceOf C G J .none)(pl:mQ G lo)(L:mQ J hi)
  (hw:HT.sIx items.size 0 lo=0/\HT.sIx items.size items.size hi=items.size) (h:Q (.ref t) s):wpAny (model prog w) A (getItem (.ref t) (.ref C)) Q E s:=by
 obtain⟨os,v,y,N⟩:=id I;have x:s.TypeIs (.ref C) "slice":=⟨os,v,y⟩;unfold getItem;try with_reducible refine bU ?_
 first|refine aa (ae ?_)|skip
 refine aa (rG l.typeIs (by decide) ?_);refine aa (cm (name:=aM "__getitem__") l.typeIs cB
  (bK cB l.typeIs pf ?_ (pT _ _)))
 show wpAny _ _ (lO (.ref t) >>= _) _ _ s;refine aa (tupleItemsOf_ l ?_);refine aa (dY x ?_);rw[if_pos (by decide)];refine aa (HT.zbE I pl L ?_);have u:(((HT.sIx items.size 0 lo:Nat):Int) == 0&&(1:Int) == 1&&(HT.sIx items.size items.size hi - HT.sIx items.size 0 lo) == items.size)=true:=by rw[hw.1,hw.2];simp
 show wpAny _ _ (if (((HT.sIx items.size 0 lo:Nat):Int) == 0&&(1:Int) == 1&&(HT.sIx items.size items.size hi - HT.sIx items.size 0 lo) == items.size)=true then _ else _) _ _ s;rw[if_pos u];unfold tZ;refine aa (aa (dY l.typeIs (ae ?_)));rw[if_pos (by decide)];exact aa (b7 (ae ⟨_,rfl,ae h⟩))
end
section
variable{X:Cx}
def rSlW(K:qF):V->Option Int->Option Int->Hp->VK->Prop:=fun x lo hi H Q=>∃a xs,x=.ref a/\SqT K H a xs/\(HT.sIx xs.length 0 lo=0/\HT.sIx xs.length xs.length hi=xs.length)/\Q (.ref a) H
theorem znM:SlR X (rSlW X.K):=by
 intro pins s σ H x v G J lo hi L Q I y u pl C h;obtain⟨a,xs,rfl,hx,hw,q⟩:=h;cases y;obtain⟨its,r,o,hz⟩:=I.tuple hx;have l:its.toArray.size=xs.length:=by rw[aG];exact r.length.symm
 refine⟨"tuple",_,cB.lookup,o.typeIs,?_⟩;exact zcd o u pl C (by rw[l];exact hw) ⟨.ref a,H,I,rfl,q⟩
end
abbrev DTO:=En->Nat->(Option Int->Nat->Prop)->Prop
def DP(X:Cx)(e:Option bg)(d:DTO):Prop:=∃t,PO X e t/\∀(C:Ctx) (u:En) (σ:St) (H:Hp) (n:Nat) (Q:Option Int->Hp->Prop) (R:Option Int->Nat->Prop),Stt X.K C u σ H n->d u n R ->
 (∀o l H',R o l->ExtE C.hd H H'->Hn X.K C.hd H' l->Q o H')->t σ H Q
def zgT:DTO:=fun l n R=>R none n
def zpa(d:DTE):DTO:=fun o n R=>d o n fun t l=>lInt t fun i=>R (some i) l
def cutD(ts:qD)(lo hi:Option Int):List ah:=(ts.drop (HT.sIx ts.length 0 lo)).take (HT.sIx ts.length ts.length hi - HT.sIx ts.length 0 lo)
def lSl(t:ah)(lo hi:Option Int)(R:List ah->Prop):Prop:=match t with
 | .list ts=>R (cutD ts lo hi)
 | _=>False
def dSlL(d:DTE)(dl x:DTO):DTA:=fun l n R=>d l n fun t v=>dl l v fun lo u=>x l u fun hi o=>lSl t lo hi fun z=>R z o
section
variable{X:Cx}{e:bg}{d:DTE}{lo hi:Option bg}{dlo dhi:DTO}{pos p2:Pos}
theorem Zn:DP X none zgT:=⟨_,zn9,fun C o σ H n Q R S h l=>l none n H h ExtE.refl S.hnd⟩
theorem Ur(h:DE X e d):DP X (some e) (zpa d):=by
 obtain⟨J,pa,h⟩:=h;refine⟨_,zn8 pa,fun C I σ H n Q R S hd u=>?_⟩;refine h C I σ H n _ _ S hd fun t G v y l x h1 o=>?_;cases t with
 | int i =>cases o;exact⟨i,rfl,u (some i) G y l x h1⟩
 | _=>exact l.elim
theorem zia{K:qF}{hd:Option aj}{O:aj->Prop}{H:Hp}{vs ts}(r:Reps K hd O H vs ts)(lo hi:Option Int):Reps K hd O H (cutV vs lo hi) (cutD ts lo hi):=by unfold cutV cutD;rw[r.length];exact(r.drop _).take _
theorem zi0{ts:qD}{lo hi:Option Int}(h:HT.sIx ts.length 0 lo=0/\HT.sIx ts.length ts.length hi=ts.length):cutD ts lo hi=ts:=by unfold cutD;rw[h.1,h.2];simp
theorem Zq(h:DL X e d)(G:DP X lo dlo)(L:DP X hi dhi):DN X (.Subscript e (.Slice lo hi none p2) pos) (dSlL d dlo dhi):=by
 obtain⟨ta,pa,h⟩:=h;obtain⟨tl,pl,G⟩:=G;obtain⟨tu,pu,L⟩:=L;refine⟨_,zhw znN pa pl pu,fun C U σ H n Q R S hd hq=>?_⟩;refine h C U σ H n _ _ S hd fun t n1 v H1 r1 e1 h1 q1=>?_;have Z:=S.on e1 h1;refine G C U σ H1 n1 _ _ Z r1 fun lo n2 H2 r2 I h2=>?_;have S2:=Z.on I h2;refine L C U σ H2 n2 _ _ S2 r2 fun hi n3 H3 Y N J=>?_;have S3:=S2.on N J;have q3:=(I.trans N).repT S.hx q1;cases t with
 | list ts =>obtain⟨a,vs,rfl,hs,rs⟩:=q3.lstI;refine⟨a,vs,rfl,.of hs,fun p x=>?_⟩;have e:=e1.trans (I.trans N);refine hq _ n3 p _ _ Y (e.trans (ExtE.new x)) (J.same (JB x)) (Q5 e J x) Jo ?_;refine(zia rs lo hi).mono (fun b o y z=>z.elim id fun z=>?_) fun b o _ y=>JB x b o y;subst z;rw[x]at y;cases y
 | _=>exact Y.elim
end
structure NxS(prog:aJ)(w:a7)(i a:aj)(IT:Nat->aW->Prop)(SQ:aW->Array af->Prop):Prop where
 rcd:∀k h,IT k h->∃o,h.get? i=some o/\∀v,o.data≠.cell v
 keep:∀k h h',IT k h->(∀o,h.get? i=some o->h'.get? i=some o)->IT k h'
 sk:∀h h' xs,SQ h xs->(∀o,h.get? a=some o->h'.get? a=some o)->SQ h' xs
 item:∀(A:aX) (E:qV) (k:Nat) (xs:Array af) (x:af) (s:aq) (Q:qV),IT k s.heap->SQ s.heap xs->xs[k]?=some x ->
  (∀h',IT (k+1) h'->cN i s.heap h'->Q x { s with heap:=h' })->wpAny (model prog w) A (bN (.ref i)) Q E s
 done:∀(A:aX) (E:qV) (k:Nat) (xs:Array af) (s:aq) (Q:qV),A.handled=none->IT k s.heap->SQ s.heap xs->xs[k]?=none ->
  (∀h' e,xK i s.heap h'->(∃o,h'.get? e=some o/\o.cls=.type "StopIteration")->E (.ref e) { s with heap:=h' })->wpAny (model prog w) A (bN (.ref i)) Q E s
theorem zor{prog:aJ}{w:a7}{i a:aj}:NxS prog w i a (fun k h=>h.IsListIter i a k) (fun h xs=>h.IsList a xs) where
 rcd:=fun k h ⟨o,e,c,d⟩=>⟨o,e,fun v z=>by rw[d]at z;cases z⟩
 keep:=fun k h h' x f=>x.at f
 sk:=fun h h' xs x f=>x.at f
 item:=fun A E k xs x s Q h1 u l h=>wpAny_nextOf_list_item h1 u l h
 done:=fun A E k xs s Q y h1 u l h=>wpAny_nextOf_list_end y h1 u l h
section
variable{prog:aJ}{w:a7}{A:aX}{E:qV}{s:aq}
theorem zfG{i:aj}{T id:String}{Q:qV}{f:dh}(l:s.TypeIs (.ref i) T)(u:Slot T "__next__" id) (x:entryFor table id=some f) (C:argsOk id ⟨[.ref i],[]⟩)
  (h:wpAny (model prog w) A.in1 (f ⟨[.ref i],[]⟩) (fun fin s'=>∃v,fin=.done (.ret v)/\Q v s') E s):wpAny (model prog w) A (bN (.ref i)) Q E s:=by
 unfold bN;refine aa (cm (name:=aM "__next__") l u (bK u l x ?_ C));refine cA h (fun fin s' y=>?_) fun _ _ e=>e;obtain⟨v,e,q⟩:=y;exact⟨v,e,ae q⟩
theorem zfc{i a:aj}{k:Nat}{xs:Array af}{x:af}{Q:qV}(h1:s.heap.IsTupleIter i a k)(C:s.heap.IsTuple a xs)(y:xs[k]?=some x)
  (h:∀h',h'.IsTupleIter i a (k+1)->cN i s.heap h'->Q x { s with heap:=h' }):wpAny (model prog w) A (bN (.ref i)) Q E s:=by
 refine zfG h1.typeIs lU lg (kK _) ?_;obtain⟨o,u,v,l⟩:=h1;obtain⟨p,f1,_,n,G⟩:=C;refine aa (m:=field (.ref i) 0) (cu u l (x:=.ref a) rfl ?_);have ne:¬((aO a == dO)=true):=fun z=>by cases z
 rw[if_neg ne];refine aa (m:=field (.ref i) 1) (cu u l (x:=.int k 0) rfl ?_);refine aa (m:=seqItems? (.ref a)) (eX f1 G ?_);simp only[bQ,y];refine aa (eY u l (by simp) (ae ⟨x,rfl,h _ ?_ (eF ..)⟩));refine⟨_,bO _ u (fw (cR l _)),?_,?_⟩;rw[iO];exact v;rw[cR l];simp[rawInt]
theorem zfd{i a:aj}{k:Nat}{xs:Array af}{Q:qV}(G:A.handled=none)(h1:s.heap.IsTupleIter i a k)(J:s.heap.IsTuple a xs)(I:xs[k]?=none)
  (h:∀h' e,xK i s.heap h'->(∃o,h'.get? e=some o/\o.cls=.type "StopIteration")->E (.ref e) { s with heap:=h' }):wpAny (model prog w) A (bN (.ref i)) Q E s:=by
 refine zfG h1.typeIs lU lg (kK _) ?_;obtain⟨o,C,N,v⟩:=h1;obtain⟨p,f1,_,n,L⟩:=J;refine aa (m:=field (.ref i) 0) (cu C v (x:=.ref a) rfl ?_);have ne:¬((aO a == dO)=true):=fun z=>by cases z
 rw[if_neg ne];refine aa (m:=field (.ref i) 1) (cu C v (x:=.int k 0) rfl ?_);refine aa (m:=seqItems? (.ref a)) (eX f1 L ?_);simp only[bQ,I];refine aa (b7 (aa (eY C v (by simp) ?_)));refine aa (m:=newExc (.type "StopIteration") []) ?_;simp only[newExc,newTuple];refine aa (bG ?_ (by size_fits));refine aa (m:=firstArgMember _ _) (mN (a:=dO) (by first|rfl|(simp only[firstArgMember];rfl)) (bG ?_ (by size_fits)));simp only[raiseNew];refine aa (pJ ?_);have l:A.in1.handled=none:=G;first|rw[l]|rw[G]
 exact aa (ae (sU (h _ _ (((eF ..).extBut.push _).push _) ⟨_,ax _ rfl,rfl⟩)))
end
theorem Heap.IsTupleIter.at'{h h':aW}{i a:aj}{k:Nat}(x:h.IsTupleIter i a k)(f:∀o,h.get? i=some o->h'.get? i=some o):h'.IsTupleIter i a k:=by obtain⟨o,e,r⟩:=x;exact⟨o,f o e,r⟩
theorem Heap.IsTuple.at'{h h':aW}{a:aj}{xs:Array af}(x:h.IsTuple a xs)(f:∀o,h.get? a=some o->h'.get? a=some o):h'.IsTuple a xs:=by obtain⟨o,e,r⟩:=x;exact⟨o,f o e,r⟩
theorem zqH{prog:aJ}{w:a7}{i a:aj}:NxS prog w i a (fun k h=>h.IsTupleIter i a k) (fun h xs=>h.IsTuple a xs) where
 rcd:=fun k h ⟨o,e,c,d⟩=>⟨o,e,fun v z=>by rw[d]at z;cases z⟩
 keep:=fun k h h' x f=>Heap.IsTupleIter.at' x f
 sk:=fun h h' xs x f=>Heap.IsTuple.at' x f
 item:=fun A E k xs x s Q h1 u l h=>zfc h1 u l h
 done:=fun A E k xs s Q y h1 u l h=>zfd y h1 u l h
structure ZAp(z TI TO i1 i2 a1 a2:aj):Prop where
 p:[z,TI,TO,i1,i2].Nodup
 q:∀a∈[a1,a2],a∉[z,TI,TO,i1,i2]
section
variable{prog:aJ}{w:a7}{A:aX}{E:qV}{s:aq}{z TI TO i1 i2 a1 a2:aj}{I1 I2:Nat->aW->Prop}{S1 S2:aW->Array af->Prop}
structure ZSt(z TI TO i1 i2:aj)(I1 I2:Nat->aW->Prop)(f:af)(k:Nat)(h:aW):Prop where
 zip:sV h z TI TO f
 ti:nU h TI (.ref i1) (.ref i2)
 to:∃a b,nU h TO a b
 it1:I1 k h
 it2:I2 k h
theorem zjf(D:ZAp z TI TO i1 i2 a1 a2):(z≠TI/\z≠TO/\z≠i1/\z≠i2/\TI≠TO/\TI≠i1/\TI≠i2/\TO≠i1/\TO≠i2/\i1≠i2)/\(a1≠z/\a1≠TO/\a1≠i1/\a1≠i2)/\(a2≠z/\a2≠TO/\a2≠i1/\a2≠i2):=by have h1:=D.p;have u:=D.q;simp only[dI,au,bq,or_false,not_or,t5,and_true,not_false_eq_true]at h1;have l:=u a1 (by simp);have o:=u a2 (by simp);simp only[au,bq,or_false,not_or]at l o;exact⟨⟨h1.1.1,h1.1.2.1,h1.1.2.2.1,h1.1.2.2.2,h1.2.1.1,h1.2.1.2.1,h1.2.1.2.2,h1.2.2.1.1,h1.2.2.1.2,h1.2.2.2⟩,⟨l.1,l.2.2.1,l.2.2.2.1,l.2.2.2.2⟩,⟨o.1,o.2.2.1,o.2.2.2.1,o.2.2.2.2⟩⟩
theorem z_item{k:Nat}{xs ys:Array af}{x y:af}{Q:qV}(D:ZAp z TI TO i1 i2 a1 a2)(N1:NxS prog w i1 a1 I1 S1)(N2:NxS prog w i2 a2 I2 S2)(st:ZSt z TI TO i1 i2 I1 I2 .none k s.heap)(s1:S1 s.heap xs)(s2:S2 s.heap ys)
  (hx:xs[k]?=some x) (hy:ys[k]?=some y)
  (hQ:∀h',ZSt z TI TO i1 i2 I1 I2 (rawInt s.heap.objs.size) (k+1) h'->nU h' s.heap.objs.size x y->h'.objs.size=s.heap.objs.size+1 ->
   (∀c o,c≠z->c≠TO->c≠i1->c≠i2->s.heap.get? c=some o->h'.get? c=some o)->Q (.ref s.heap.objs.size) { s with heap:=h' }) :
  wpAny (model prog w) A (dh.«zip.__next__» ⟨[.ref z],[]⟩) (fun fin s'=>∃v,fin=.done (.ret v)/\Q v s') E s:=by
 obtain⟨⟨d1,d2,d3,d4,d5,d6,d7,d8,d9,d10⟩,⟨e1,e2,e3,e4⟩,⟨g1,g2,g3,g4⟩⟩:=zjf D;obtain⟨zip,ti,⟨va,vb,to⟩,it1,it2⟩:=st;refine aa (m:=field (.ref z) 2) (cu zip rfl (x:=.bool false) rfl ?_);refine aa (m:=field (.ref z) 3) (cu zip rfl (x:=.ref TI) rfl (aa (eX ti rfl ?_)));refine aa (m:=dH (.ref z)) ?_;unfold dH;refine aa (cu zip rfl (x:=.none) rfl (ae ?_));simp only[if_true];refine aa (b7 (aa (cu zip rfl (x:=.ref TO) rfl (aa (cj zip (by simp) fun hA zA bA=>?_)))));have zA':sV hA z TI TO .ellipsis:=zA;refine aa ?_;simp only[nt,tD,kE,lT];refine aa (aa (mV (aa (m:=bN (.ref i1)) ?_)));refine N1.item _ _ k xs x _ _ (N1.keep _ _ _ it1 fun o e=>bA.extBut _ _ d3.symm e) (N1.sk _ _ _ s1 fun o e=>bA.extBut _ _ e1 e) hx fun hB Y bB=>ae ?_;have N:nU hB TO va vb:=bB.extBut _ _ d8 (bA.extBut _ _ d2.symm to);refine aa (eX N rfl (aa (ku N fun hC toC bC=>?_)));have U:nU hC TO x vb:=toC;refine aa (oU (ae ?_));refine aa (aa (mV (aa (m:=bN (.ref i2)) ?_)));have I:∀c o,c≠z->c≠TO->c≠i1->s.heap.get? c=some o->hC.get? c=some o:=fun c o C J c3 e=>bC.extBut _ _ J (bB.extBut _ _ c3 (bA.extBut _ _ C e));refine N2.item _ _ k ys y _ _ (N2.keep _ _ _ it2 fun o e=>I _ _ d4.symm d9.symm d10.symm e) (N2.sk _ _ _ s2 fun o e=>I _ _ g1 g2 g3 e) hy fun hD it2D bD=>ae ?_;have toD:nU hD TO x vb:=bD.extBut _ _ d9 U;refine aa (eX toD rfl (aa (ku toD fun u toF S=>?_)));have G:nU u TO x y:=toF;refine aa (oU (ae (ae ?_)));refine aa (eX G rfl (aa (lQ ?_)));have sz:u.objs.size=s.heap.objs.size:=by rw[S.1,bD.1,bC.1,bB.1,bA.1]
 have Z:∀c o,c≠z->c≠TO->c≠i1->c≠i2->s.heap.get? c=some o->u.get? c=some o:=fun c o C J c3 c4 e=>S.extBut _ _ J (bD.extBut _ _ c4 (I c o C J c3 e));have zF:sV u z TI TO .ellipsis:=S.extBut _ _ d2 (bD.extBut _ _ d4 (bC.extBut _ _ d2 (bB.extBut _ _ d3 zA')));have zlt:z<u.objs.size:=aw zF;refine aa (m:=hV (.ref z) (.ref u.objs.size)) ?_;unfold hV;have zG:sV (u.push { cls:=.type "tuple",data:=.seq #[x,y] }) z TI TO .ellipsis:=ag _ zF;refine aa (cj zG (by simp) fun hI zI bI=>?_);have zI':sV hI z TI TO (rawInt u.objs.size):=zI;refine cj zI' (by simp) fun R zJ bJ=>ae ⟨_,rfl,?_⟩;have zJ':sV R z TI TO (rawInt u.objs.size):=zJ;have up:∀c o,c≠z->u.get? c=some o->R.get? c=some o:=fun c o C e=>bJ.extBut _ _ C (bI.extBut _ _ C (ag _ e));have pr:nU R u.objs.size x y:=bJ.extBut _ _ (cW zlt) (bI.extBut _ _ (cW zlt) (ax _ rfl));have L:R.objs.size=u.objs.size+1:=by rw[bJ.1,bI.1,cZ]
 rw[sz]at zJ' pr L;show Q (.ref u.objs.size) _;rw[sz];refine hQ R ⟨zJ',up _ _ d1.symm (Z _ _ d1.symm d5 d6 d7 ti),⟨x,y,up _ _ d2.symm G⟩,?_,?_⟩ pr L fun c o C J c3 c4 e=>up c o C (Z c o C J c3 c4 e);exact N1.keep _ _ _ Y fun o e=>up _ _ d3.symm (S.extBut _ _ d8.symm (bD.extBut _ _ d10 (bC.extBut _ _ d8.symm e)));exact N2.keep _ _ _ it2D fun o e=>up _ _ d4.symm (S.extBut _ _ d9.symm e)
theorem z_end{k:Nat}{xs ys:Array af}{Q:Bt->aq->Prop}(hh:A.handled=none)(D:ZAp z TI TO i1 i2 a1 a2)(U:NxS prog w i1 a1 I1 S1)(N2:NxS prog w i2 a2 I2 S2)(st:ZSt z TI TO i1 i2 I1 I2 .none k s.heap)(s1:S1 s.heap xs)(s2:S2 s.heap ys)
  (hxy:xs[k]?=none\/ys[k]?=none)
  (hE:∀h' e,(∀c o,c≠z->c≠TO->c≠i1->c≠i2->s.heap.get? c=some o->h'.get? c=some o)->(∃o,h'.get? e=some o/\o.cls=.type "StopIteration")->E (.ref e) { s with heap:=h' }) :
  wpAny (model prog w) A (dh.«zip.__next__» ⟨[.ref z],[]⟩) Q E s:=by
 obtain⟨⟨d1,d2,d3,d4,d5,d6,d7,d8,d9,d10⟩,⟨e1,e2,e3,e4⟩,⟨g1,g2,g3,g4⟩⟩:=zjf D;obtain⟨zip,ti,⟨va,vb,to⟩,it1,it2⟩:=st;refine aa (m:=field (.ref z) 2) (cu zip rfl (x:=.bool false) rfl ?_);refine aa (m:=field (.ref z) 3) (cu zip rfl (x:=.ref TI) rfl (aa (eX ti rfl ?_)));refine aa (m:=dH (.ref z)) ?_;unfold dH;refine aa (cu zip rfl (x:=.none) rfl (ae ?_));simp only[if_true];refine aa (b7 (aa (cu zip rfl (x:=.ref TO) rfl (aa (cj zip (by simp) fun hA zA G=>?_)))));have R:sV hA z TI TO .ellipsis:=zA;refine aa ?_;simp only[nt,tD,kE,lT];refine aa (aa (mV (aa (m:=bN (.ref i1)) ?_)));have S:=U.keep _ _ _ it1 fun o e=>G.extBut _ _ d3.symm e;have L:=U.sk _ _ _ s1 fun o e=>G.extBut _ _ e1 e;cases hx:xs[k]? with
 | none =>
  refine U.done _ _ k xs _ _ hh S L hx fun Y e C ⟨oe,he,hc⟩=>?_;have zB:sV Y z TI TO .ellipsis:=C _ _ d3 R;have Z:e≠z:=fun y=>by subst y;rw[zB]at he;cases he;simp at hc
  exact cj zB (by simp) fun hC _ I=>hE hC e (fun c o u _ N _ y=>I.extBut _ _ u (C _ _ N (G.extBut _ _ u y))) ⟨oe,I.extBut _ _ Z he,hc⟩
 | some x =>
  have hy:ys[k]?=none:=by rcases hxy with h|h;rw[hx]at h;cases h;exact h
  refine U.item _ _ k xs x _ _ S L hx fun Y it1B C=>ae ?_;have J:nU Y TO va vb:=C.extBut _ _ d8 (G.extBut _ _ d2.symm to);refine aa (eX J rfl (aa (ku J fun hC toC I=>?_)));refine aa (oU (ae ?_));refine aa (aa (mV (aa (m:=bN (.ref i2)) ?_)));have v:∀c o,c≠z->c≠TO->c≠i1->s.heap.get? c=some o->hC.get? c=some o:=fun c o u c2 N e=>I.extBut _ _ c2 (C.extBut _ _ N (G.extBut _ _ u e));refine N2.done _ _ k ys _ _ hh (N2.keep _ _ _ it2 fun o e=>v _ _ d4.symm d9.symm d10.symm e) (N2.sk _ _ _ s2 fun o e=>v _ _ g1 g2 g3 e) hy fun hD e bD ⟨oe,he,hc⟩=>?_;have zD:sV hD z TI TO .ellipsis:=bD _ _ d4 (I.extBut _ _ d2 (C.extBut _ _ d3 R));have Z:e≠z:=fun y=>by subst y;rw[zD]at he;cases he;simp at hc
  exact cj zD (by simp) fun hF _ bF=>hE hF e (fun c o u c2 N c4 y=>bF.extBut _ _ u (bD _ _ c4 (v c o u c2 N y))) ⟨oe,bF.extBut _ _ Z he,hc⟩
theorem zpE{k:Nat}{xs ys:Array af}{x y:af}{Q:Option af->aq->Prop}(D:ZAp z TI TO i1 i2 a1 a2)(v:NxS prog w i1 a1 I1 S1)(J:NxS prog w i2 a2 I2 S2)(st:ZSt z TI TO i1 i2 I1 I2 .none k s.heap)(s1:S1 s.heap xs)(s2:S2 s.heap ys)
  (hx:xs[k]?=some x) (C:ys[k]?=some y)
  (G:∀h',ZSt z TI TO i1 i2 I1 I2 (rawInt s.heap.objs.size) (k+1) h'->nU h' s.heap.objs.size x y->h'.objs.size=s.heap.objs.size+1 ->
   (∀c o,c≠z->c≠TO->c≠i1->c≠i2->s.heap.get? c=some o->h'.get? c=some o)->Q (some (.ref s.heap.objs.size)) { s with heap:=h' }) :
  wpAny (model prog w) A (pyNext (.ref z)) Q E s:=by
 have l:s.TypeIs (.ref z) "zip":=⟨_,st.zip,rfl⟩;unfold pyNext;exact aa (fT (cm (name:=aM "__next__") l kM (bK kM l sF
  (z_item D v J st s1 s2 hx C fun h' L N I u=>ae (G h' L N I u)) (rP _))))
theorem zpD{k:Nat}{xs ys:Array af}{Q:Option af->aq->Prop}(C:A.handled=none)(D:ZAp z TI TO i1 i2 a1 a2)(x:NxS prog w i1 a1 I1 S1)(G:NxS prog w i2 a2 I2 S2)(st:ZSt z TI TO i1 i2 I1 I2 .none k s.heap)(s1:S1 s.heap xs)(s2:S2 s.heap ys)
  (l:xs[k]?=none\/ys[k]?=none) (y:∀h',(∀c o,c≠z->c≠TO->c≠i1->c≠i2->s.heap.get? c=some o->h'.get? c=some o)->Q none { s with heap:=h' }):wpAny (model prog w) A (pyNext (.ref z)) Q E s:=by
 have u:s.TypeIs (.ref z) "zip":=⟨_,st.zip,rfl⟩;unfold pyNext;refine aa (fT (cm (name:=aM "__next__") u kM (bK kM u sF
  (z_end C D x G st s1 s2 l fun h' e I ⟨o,v,hc⟩=>?_) (rP _))))
 exact aa (i7 (T:="StopIteration") (b:=true) ⟨o,v,hc⟩ oV (ae (y _ I)))
end
def SqB(t:Bool)(K:qF)(H:Hp)(a:aj)(xs:List V):Prop:=match t with|true=>SqT K H a xs|false=>SqL K H a xs
def ITB(t:Bool)(i a:aj):Nat->aW->Prop:=match t with|true=>fun k h=>h.IsTupleIter i a k|false=>fun k h=>h.IsListIter i a k
def SQB(t:Bool)(a:aj):aW->Array af->Prop:=match t with|true=>fun h xs=>h.IsTuple a xs|false=>fun h xs=>h.IsList a xs
def itN(t:Bool):String:=match t with|true=>"tuple_iterator" | false=>"list_iterator"
theorem nx_B{prog:aJ}{w:a7}{i a:aj}(t:Bool):NxS prog w i a (ITB t i a) (SQB t a):=by cases t;exact zor;exact zqH
section
variable{X:Cx}{pins:qO}{σ:St}{H:Hp}{s:aq}
theorem Inv.seqB{t:Bool}{a:aj}{xs:List V}(I:Inv X pins σ H s)(h:SqB t X.K H a xs):∃its:List af,Vals xs its/\SQB t a s.heap its.toArray/\xs.length<=sizeLine:=by cases t;obtain⟨its,r,p,z⟩:=I.list h;exact⟨its,r,p.isList,z⟩;obtain⟨its,r,p,z⟩:=I.tuple h;exact⟨its,r,p,z⟩
theorem Inv.injB{t:Bool}{a:aj}{xs ys:List V}(I:Inv X pins σ H s)(h:SqB t X.K H a xs)(h':SqB t X.K H a ys):xs=ys:=by cases t;exact I.list_inj h h';exact I.tuple_inj h h'
theorem Inv.turnedL{h':aW}{t':Nat}(ch:List aj)(I:Inv X pins σ H s)(k:∀b o,b∉ch->s.heap.get? b=some o->h'.get? b=some o)(f:∀b∈ch,FpOk X pins H b):Inv X pins σ H { s with heap:=h',toks:=t' }:=by
 have l:∀b u,H b=some u->b∉ch:=fun b u e z=>by rw[(f b z).1]at e;cases e
 refine I.step (g':=s.gens) (d':=s.drawn) (ch:=ch) (fun b x=>⟨(f b x).2.2.2.1,(f b x).2.1,(f b x).2.2.2.2.1,(f b x).2.2.2.2.2⟩) (fun b o _ _ hc e _=>k b o hc e) (fun b o _ _ hc e _=>⟨o.slots,k b o hc e⟩) (fun _ _ _ _ n=>n) (fun b o hc e=>⟨o,k b o hc e⟩) (fun _ _ e=>e) (fun _ _ _ e=>e)
  (fun _ _ e=>e) (fun m ⟨o,es,ep,C,r⟩=>⟨o,es,ep,k _ o (fun z=>(f _ z).2.1 rfl) C,r⟩) (fun b u e=>(I.hok b u e).stay (fun c v hc q=>k c v ?_ q) (fun _ q=>q) (fun _ _ q=>q) fun _ _ _ q=>q) I.bare
 rcases hc with z|z;rw[z];exact l b u e;exact l c _ z
end
section
variable{prog:aJ}{w:a7}{A:aX}{E:qV}{s:aq}
theorem zq7{t:Bool}{a:aj}{xs:Array af}{Q:qV}(h:SQB t a s.heap xs)(o:Q (.ref s.heap.objs.size) { s with heap:=s.heap.push { cls:=.type (itN t),data:=.fields #[.ref a,.int 0 0] } }):wpAny (model prog w) A (pyIter (.ref a)) Q E s:=by cases t;exact gJ h o;exact ik h o
theorem SQB.push{t:Bool}{a:aj}{xs:Array af}{h:aW}(x:SQB t a h xs)(o:Obj):SQB t a (h.push o) xs:=by cases t;exact Bu x o;exact AF x o
abbrev zA(h:aW)(t:Bool)(a:aj):aW:=h.push { cls:=.type (itN t),data:=.fields #[.ref a,.int 0 0] }
abbrev zB(h:aW)(t u:Bool)(a b:aj):aW:=(zA h t a).push { cls:=.type (itN u),data:=.fields #[.ref b,.int 0 0] }
abbrev zC(h:aW)(t u:Bool)(a b:aj):aW:=(zB h t u a b).push { cls:=.type "tuple",data:=.seq #[.ref h.objs.size,.ref (zA h t a).objs.size] }
abbrev zD(h:aW)(t u:Bool)(a b:aj):aW:=(zC h t u a b).push { cls:=.type "tuple",data:=.seq #[.none,.none] }
abbrev zE(h:aW)(t u:Bool)(a b:aj):aW:=(zD h t u a b).push { cls:=.type "zip",data:=.fields #[.none,.bool false,.bool false,.ref (zB h t u a b).objs.size,.ref (zC h t u a b).objs.size] }
theorem zmk(t u:Bool)(a b:aj)(xs ys:Array af) :
  Meets (dh.«zip.__new__» ⟨[.type "zip",.ref a,.ref b],[]⟩) (fun _ R s=>SQB t a s.heap xs/\SQB u b s.heap ys/\R (.ok (.ret (.ref (zD s.heap t u a b).objs.size))) { s with heap:=zE s.heap t u a b }) :=
 .of_wp fun prog w A R s h=>by obtain⟨x,g,d,tk,os⟩:=s;obtain⟨h1,C,h⟩:=h;have v:=sub_zip;have G:SQB t a (xM ⟨x,g,d,tk,os⟩) xs:=h1;have L2:SQB u b (xM ⟨x.push { cls:=.type (itN t),data:=.fields #[.ref a,.int 0 0] },g,d,tk,os⟩) ys:=SQB.push C _;wp_walk using zq7 G,zq7 L2;exact⟨_,rfl,h⟩
theorem ITB.new{t:Bool}{i a:aj}{h:aW}(e:h.get? i=some { cls:=.type (itN t),data:=.fields #[.ref a,.int 0 0] }):ITB t i a 0 h:=by cases t;exact⟨_,e,rfl,rfl⟩;exact⟨_,e,rfl,rfl⟩
theorem zpe{t u:Bool}{a b:aj}{xs ys:Array af}{Q:qV}(h1:SQB t a s.heap xs)(L:SQB u b s.heap ys)
  (h:∀h',ZSt (s.heap.objs.size+4) (s.heap.objs.size+2) (s.heap.objs.size+3) s.heap.objs.size (s.heap.objs.size+1) (ITB t s.heap.objs.size a) (ITB u (s.heap.objs.size+1) b) .none 0 h'->h'.objs.size=s.heap.objs.size+5 ->
   (∀c o,s.heap.get? c=some o->h'.get? c=some o)->Q (.ref (s.heap.objs.size+4)) { s with heap:=h' }) :
  wpAny (model prog w) A (call (.type "zip") [.ref a,.ref b]) Q E s:=by
 refine callType_new F.called_zip (by decide) (F.typeCall_zip_2 _ _) (F.newCall_zip_2 _ _) (fun obj=>F.args_object_init_3 obj _ _) F.entry_zip_new (zmk t u a b xs ys) ⟨h1,L,?_⟩;have I:(zA s.heap t a).objs.size=s.heap.objs.size+1:=cZ ..;have l:(zB s.heap t u a b).objs.size=s.heap.objs.size+2:=by rw[cZ,I]
 have G:(zC s.heap t u a b).objs.size=s.heap.objs.size+3:=by rw[cZ,l]
 have C:(zD s.heap t u a b).objs.size=s.heap.objs.size+4:=by rw[cZ,G]
 have N:(zE s.heap t u a b).objs.size=s.heap.objs.size+5:=by rw[cZ,C]
 have v:(zE s.heap t u a b).get? (zD s.heap t u a b).objs.size=some _:=ax _ rfl;have J:(zE s.heap t u a b).get? (zC s.heap t u a b).objs.size=some _:=ag _ (ax _ rfl);have g3:(zE s.heap t u a b).get? (zB s.heap t u a b).objs.size=some _:=ag _ (ag _ (ax _ rfl));have g2:(zE s.heap t u a b).get? (zA s.heap t a).objs.size=some _:=ag _ (ag _ (ag _ (ax _ rfl)));have g1:(zE s.heap t u a b).get? s.heap.objs.size=some _:=ag _ (ag _ (ag _ (ag _ (ax _ rfl))));show _/\_;rw[l,G,C]at v;rw[I,l]at g3;rw[G]at J;rw[I]at g2;rw[C];refine⟨⟨_,v,rfl⟩,h _ ⟨v,g3,⟨_,_,J⟩,.new g1,.new g2⟩ N fun c o x=>?_⟩;iterate 5 refine ag _ ?_
 exact x
end
def Itz(t u:Bool)(K:qF)(a b:aj):It :=
 ⟨fun i H=>∃xs ys x y,SqB t K H a xs/\SqB u K H b ys/\xs[i]?=some x/\ys[i]?=some y,
  fun i H v H'=>∃p x y,H p=none/\v=.ref p/\(∀xs,SqB t K H a xs->xs[i]?=some x)/\(∀ys,SqB u K H b ys->ys[i]?=some y)/\H'=upd H p (.tup [x,y]),
  fun i H=>∃xs ys,SqB t K H a xs/\SqB u K H b ys/\(xs.length<=i\/ys.length<=i)⟩
theorem zlJ{P:aJ}{w:a7}{K:qF}{Z:List bg}{x1:_}{pos:Pos}{t u:Bool}{z TI TO C G a b:aj}(D:ZAp z TI TO C G a b) :
  Turn P w K (.Tuple Z x1 pos) (Itz t u K a b) [z,TI,TO,C,G] z (fun i h=>ZSt z TI TO C G (ITB t C a) (ITB u G b) .none i h) where
 mem:=by simp
 obj:=fun i h st c hc=>by obtain⟨R,ti,⟨Y,U,to⟩,J,L⟩:=st;simp only[au,bq,or_false]at hc;rcases hc with rfl|rfl|rfl|rfl|rfl;exact⟨_,R,fun v y=>by cases y⟩;exact⟨_,ti,fun v y=>by cases y⟩;exact⟨_,to,fun v y=>by cases y⟩;exact(nx_B (prog:=P) (w:=w) t).rcd _ _ J;exact(nx_B (prog:=P) (w:=w) u).rcd _ _ L
 keep:=fun i h h' st k=>by obtain⟨R,ti,⟨Y,U,to⟩,J,L⟩:=st;exact⟨k _ (by simp) _ R,k _ (by simp) _ ti,⟨Y,U,k _ (by simp) _ to⟩,(nx_B (prog:=P) (w:=w) t).keep _ _ _ J (k _ (by simp)),(nx_B (prog:=P) (w:=w) u).keep _ _ _ L (k _ (by simp))⟩
 item:=by
  intro X hP hw hK hc i pins s σ H E I hf st hg;subst hP hw hK;obtain⟨xs,ys,x,y,q1,q2,hx,hy⟩:=hg;obtain⟨its,r1,p1,z1⟩:=I.seqB q1;obtain⟨jts,r2,p2,z2⟩:=I.seqB q2;obtain⟨N,hux,rux⟩:=r1.get hx;obtain⟨S,huy,ruy⟩:=r2.get hy;refine zpE D (nx_B t) (nx_B u) st p1 p2 (x:=N) (y:=S) (by simpa using hux) (by simpa using huy) fun h' st' pr sz kp=>?_;refine⟨_,rfl,?_⟩;refine wpAny_letOwnedTupleGo_zip (s:={ s with heap:=h' }) st'.zip fun h2 z2' sb=>?_;obtain⟨⟨d1,d2,d3,d4,d5,d6,d7,d8,d9,d10⟩,_,_⟩:=zjf D;have big:∀c∈[z,TI,TO,C,G],c<s.heap.objs.size:=fun c hc=>by obtain⟨R,ti,⟨Y,U,to⟩,J,L⟩:=st;simp only[au,bq,or_false]at hc;rcases hc with rfl|rfl|rfl|rfl|rfl;exact aw R;exact aw ti;exact aw to;obtain⟨o,e,_⟩:=(nx_B (prog:=X.prog) (w:=X.w) t).rcd _ _ J;exact aw e;obtain⟨o,e,_⟩:=(nx_B (prog:=X.prog) (w:=X.w) u).rcd _ _ L;exact aw e
  have hp:H s.heap.objs.size=none:=I.hok.fresh (aD _);have I1:Inv X pins σ (upd H s.heap.objs.size (.tup [x,y])) { s with heap:=s.heap.push { cls:=.type "tuple",data:=.seq #[N,S] } } :=
   I.laid (t':=s.toks) (fun b o e=>ag _ e) (aD _) (show Jx X.prog X.w _ _ _ (.tup [x,y]) from⟨by show 2<=sizeLine;decide,[N,S],.cons rux (.cons ruy .nil),IsTD.new _ _⟩)
  have npos:∀c∈[z,TI,TO,C,G],c≠s.heap.objs.size:=fun c hc=>aA (big c hc);have fu:∀c∈[z,TI,TO,C,G],upd H s.heap.objs.size (.tup [x,y]) c=none:=fun c hc=>by rw[Jc (npos c hc)];exact(hf c hc).1
  refine⟨.ref s.heap.objs.size,upd H s.heap.objs.size (.tup [x,y]),?_,rfl,⟨_,x,y,hp,rfl,fun xs' h=>by rw[I.injB h q1];exact hx,fun ys' h=>by rw[I.injB h q2];exact hy,rfl⟩,?_,fu⟩;refine Inv.turnedL (s:={ s with heap:=s.heap.push { cls:=.type "tuple",data:=.seq #[N,S] } }) (t':=s.toks) [z,TO,C,G] I1 (fun c o hc e=>?_) fun c hc=>?_;simp only[au,bq,or_false,not_or]at hc;refine sb.extBut _ _ hc.1 ?_;by_cases y:c=s.heap.objs.size;subst y;have e':(s.heap.push { cls:=.type "tuple",data:=.seq #[N,S] }).get? s.heap.objs.size=some _:=ax _ rfl;have e2:some o=some _:=e.symm.trans e';cases e2;exact pr;have e':s.heap.get? c=some o:=by have e3:(s.heap.push { cls:=.type "tuple",data:=.seq #[N,S] }).get? c=some o:=e;rwa [cf _ _ _ y]at e3
  exact kp c o hc.1 hc.2.1 hc.2.2.1 hc.2.2.2 e';have m:c∈[z,TI,TO,C,G]:=by simp only[au,bq,or_false]at hc ⊢;rcases hc with h|h|h|h <;> simp[h]
  exact⟨fu c m,(hf c m).2⟩;obtain⟨R,ti,⟨Y,U,to⟩,J,L⟩:=st';exact⟨z2',sb.extBut _ _ d1.symm ti,⟨Y,U,sb.extBut _ _ d2.symm to⟩,(nx_B (prog:=X.prog) (w:=X.w) t).keep _ _ _ J fun o e=>sb.extBut _ _ d3.symm e,(nx_B (prog:=X.prog) (w:=X.w) u).keep _ _ _ L fun o e=>sb.extBut _ _ d4.symm e⟩
 done:=by intro X hP hw hK hc i pins s σ H E I hf st hg;subst hP hw hK;obtain⟨xs,ys,q1,q2,hx⟩:=hg;obtain⟨its,r1,p1,z1⟩:=I.seqB q1;obtain⟨jts,r2,p2,z2⟩:=I.seqB q2;have l1:=r1.length;have l2:=r2.length;refine zpD (I.ok.hd hc) D (nx_B t) (nx_B u) st p1 p2 (by rcases hx with h|h;exact .inl (by simp;omega);exact .inr (by simp;omega)) fun h' kp=>⟨rfl,?_⟩;refine Inv.turnedL (t':=s.toks) [z,TO,C,G] I (fun c o hc e=>?_) fun c hc=>hf c ?_;simp only[au,bq,or_false,not_or]at hc;exact kp c o hc.1 hc.2.1 hc.2.2.1 hc.2.2.2 e;simp only[au,bq,or_false]at hc ⊢;rcases hc with h|h|h|h <;> simp[h]
 self:=fun _ _ _ _ _ st h=>sG st.zip h
section
variable{X:Cx}{a b:bg}{elts:List bg}{x1:Nat}{p p' pos:Pos}
def iZip(K:qF)(o:TA):TI:=fun σ H R=>o σ H fun vs l=>∃(t u:Bool) (c d:aj) (xs ys:List V),vs=[.ref c,.ref d]/\SqB t K l c xs/\SqB u K l d ys/\R (Itz t u K c d) l
theorem SQB.lt{t:Bool}{c:aj}{xs:Array af}{h:aW}(x:SQB t c h xs):c<h.objs.size:=by cases t;obtain⟨o,e,_⟩:=x;exact aw e;obtain⟨o,e,_⟩:=x;exact aw e
theorem znD{n:Nat}{c d:aj}(h1:c<n)(o:d<n):ZAp (n+4) (n+2) (n+3) n (n+1) c d:=by
 have ne:∀(e:aj) (k:Nat),e<n->e≠n+k:=fun e k h=>aA (aB h (fj _ _));refine⟨by simp,fun e he=>?_⟩;have l:e<n:=by simp only[au,bq,or_false]at he;rcases he with rfl|rfl;exact h1;exact o
 simp only[au,bq,or_false,not_or];exact⟨ne e 4 l,ne e 2 l,ne e 3 l,aA l,ne e 1 l⟩
theorem zqj{L:TA}(hg:Gl X "zip") (hm:X.mg "zip" = none) (Y:PA X [a,b] L) (Z:starEach [a,b] X.env=[(false,eval a X.env),(false,eval b X.env)]) (v:starEach [b] X.env=[(false,eval b X.env)]) :
  PI X (.Tuple elts x1 p') (.Call (.Name "zip" p) [a,b] [] pos) (iZip X.K L):=by
 intro pins s σ H R I h;refine Call_ (Ul I hg hm boot_zip (gK (thn (Y pos pins s σ H _ I h) fun us s1 ⟨vs,H1,o,r1,S⟩=>?_) (by rw[Z,v]) (by rw[v];rfl)));obtain⟨t,u,c,d,xs,ys,rfl,x,G,q⟩:=S;cases r1 with
 | cons r y =>
  cases y with
  | cons r' y =>
   cases y;cases r;cases r';obtain⟨its,_,J,_⟩:=o.seqB x;obtain⟨U,_,p2,_⟩:=o.seqB G;refine zpe J p2 fun h' st sz kp=>?_;refine sG (s:={ s1 with heap:=h' }) st.zip ?_;refine⟨_,_,_,_,H1,rfl,o.kept (t':=s1.toks) kp,zlJ (znD J.lt p2.lt),st,fun e he=>?_,q⟩;have ge:s1.heap.objs.size<=e:=by simp only[au,bq,or_false]at he;rcases he with rfl|rfl|rfl|rfl|rfl;exact fj _ _;exact fj _ _;exact fj _ _;exact aD _;exact fj _ _
   exact o.fpOk ge (o.hok.fresh ge)
theorem srcB{K:qF}{hd:Option aj}{P O:aj->Prop}{H:Hp}{v:V}{t:ah}{ts:qD}(J:∀a,¬O a->P a)(r:Rep K hd O H v t)(h:t=.tuple ts\/t=.list ts) :
  ∃(k:Bool) (q:aj) (vs:List V),v=.ref q/\SqB k K H q vs/\∀(y:aj->Prop) (x:Hp),(∀a o,H a=some o->P a->x a=some o)->(∀a o,H a=some o->¬O a->¬y a)->SqB k K x q vs/\Reps K hd y x vs ts:=by
 have L:∀vs,Reps K hd O H vs ts->∀(y:aj->Prop) (x:Hp),(∀a o,H a=some o->P a->x a=some o)->(∀a o,H a=some o->¬O a->¬y a)->Reps K hd y x vs ts:=fun vs r y x h1 C =>
  r.mono (fun a o I z=>g8 fun no=>C a o I no z) fun a o no I=>h1 a o I (J a no)
 rcases h with rfl|rfl;cases r with
 | @tup q vs ds h o r=>exact⟨true,q,vs,rfl,.inl (.inl h),fun y x h1 C=>⟨.inl (.inl (h1 q _ h (J q o))),L vs r y x h1 C⟩⟩
 | @tupS q vs ds h r=>exact⟨true,q,vs,rfl,h.sq,fun y x h1 C=>⟨h.sq,L vs r y x h1 C⟩⟩
 obtain⟨q,vs,rfl,G,no,r⟩:=r.lstI;exact⟨false,q,vs,rfl,SqL.of G,fun y x h1 C=>⟨SqL.of (h1 q _ G (J q no)),L vs r y x h1 C⟩⟩
def zipD(xs ys:qD):List ah:=(xs.zip ys).map fun q=>.tuple [q.1,q.2]
def dZip(v db:DTE):DTA:=fun l n R=>v l n fun x u=>db l u fun y o=>JG x fun xs=>JG y fun ys=>R (zipD xs ys) o
theorem zhP{t:ah}{R:List ah->Prop}(h:JG t R):∃ts,(t=.tuple ts\/t=.list ts)/\R ts:=by
 cases t with
 | list ts=>exact⟨ts,.inr rfl,h⟩
 | tuple ts=>exact⟨ts,.inl rfl,h⟩
 | _=>exact h.elim
theorem Y7{da db:DTE}(hm:X.mg "zip" = none) (h:DE X a da) (h':DE X b db) (hg:Gl X "zip":=by rfl) (hs:starEach [a,b] X.env=[(false,eval a X.env),(false,eval b X.env)]:=by rfl) (G:starEach [b] X.env=[(false,eval b X.env)]:=by rfl) :
  DI X (.Tuple elts x1 p') (.Call (.Name "zip" p) [a,b] [] pos) (dZip da db):=by
 obtain⟨ta,pa,h⟩:=h;obtain⟨tb,pb,h'⟩:=h';refine⟨_,zqj hg hm (Qv pa (Qv pb Q3 G) (by rw[hs,G])) hs G,fun C ρ σ H n Q R S hd hq=>?_⟩;refine h C ρ σ H n _ _ S hd fun x n1 v H1 r1 e1 hn1 q1=>?_;have S1:=S.on e1 hn1;refine h' C ρ σ H1 n1 _ _ S1 r1 fun y n2 w H2 Y e2 hn2 q2=>?_;have q1':=e2.rep S.hx q1;obtain⟨xs,hx,Y⟩:=zhP Y;obtain⟨ys,hy,Y⟩:=zhP Y;obtain⟨k1,c,vs,rfl,s1,f1⟩:=srcB (P:=fun a=>¬Own C ρ σ a) (fun _ z=>z) q1' hx;obtain⟨k2,d,ws,rfl,s2,f2⟩:=srcB (P:=fun a=>¬Own C ρ σ a) (fun _ z=>z) q2 hy;refine⟨k1,k2,c,d,vs,ws,rfl,s1,s2,hq _ n2 _ H2 Y (e1.trans e2) hn2 ?_⟩;intro O2 H3 h1 h2 h3;obtain⟨g1,J⟩:=f1 O2 H3 h1 h2;obtain⟨g2,Z⟩:=f2 O2 H3 h1 h2;refine⟨fun i t I=>?_,?_⟩;unfold zipD at I;rw[aN]at I;cases ez:(xs.zip ys)[i]? with
 | none=>rw[ez]at I;cases I
 | some q =>rw[ez]at I;cases I;obtain⟨ex,ey⟩:=mm.mp ez;obtain⟨vx,U,rx⟩:=J.get ex;obtain⟨vy,L,ry⟩:=Z.get ey;refine⟨⟨vs,ws,vx,vy,g1,g2,U,L⟩,fun v H4 hyd=>?_⟩;obtain⟨pp,x',y',hp,rfl,hx',hy',rfl⟩:=hyd;have e1:x'=vx:=aQ ((hx' vs g1).symm.trans U);have e2:y'=vy:=aQ ((hy' ws g2).symm.trans L);subst e1 e2;exact⟨JB hp,.newT (fun z=>h3 pp z hp) hp (.cons rx (.cons ry .nil))⟩
 refine⟨vs,ws,g1,g2,?_⟩;have:=J.length;have:=Z.length;unfold zipD;simp only[aR,kN];omega
end
section
variable{d da db:DTE}{dlo dhi:DTO}{ρ:En}{n:Nat}{R:qN}{Ro:Option Int->Nat->Prop}{Rl:List ah->Nat->Prop}{xs ys:qD}{lo hi:Option Int}{Q:ah->Prop}{Ql:List ah->Prop}
theorem zrn(h:d ρ n fun t u=>dlo ρ u fun lo o=>dhi ρ o fun hi l=>lSl t lo hi fun z=>Rl z l):dSlL d dlo dhi ρ n Rl:=h
theorem zkJ(h:Ro none n):zgT ρ n Ro:=h
theorem zoO(h:d ρ n fun t l=>lInt t fun i=>Ro (some i) l):zpa d ρ n Ro:=h
theorem ztx(h:Ql (cutD xs lo hi)):lSl (.list xs) lo hi Ql:=h
theorem zrj(h:da ρ n fun x o=>db ρ o fun y l=>JG x fun xs=>JG y fun ys=>Rl (zipD xs ys) l):dZip da db ρ n Rl:=h
end
theorem znq{α:Type}{cs:List α}{f:α->Bool}{R:ah->Prop}(h:R (.bool (cs.any f))):bAny [.list (cs.map fun b=>eU (f b))] R:=by
 have e:(cs.map fun b=>eU (f b))=(cs.map f).map eU:=by simp
 rw[e];refine⟨cs.map f,rfl,?_⟩;have u:(cs.map f).any id=cs.any f:=by simp[iP,fL]
 rw[u];exact h
theorem zh_{ts:qD}:cutD ts (some 1) none=ts.tail:=by
 unfold cutD;rw[HT.zlZ,show(some (1:Int))=some ((1:Nat):Int) from rfl,HT.zgu];cases ts with
 | nil=>simp
 | cons a l =>
  have:min 1 (a::l).length=1:=by simp
  rw[this];simp
theorem zpC{bs:qB}:zipD (pD bs) (pD bs).tail=(bs.zip bs.tail).map fun q=>.tuple [prD q.1,prD q.2]:=by unfold zipD pD;rw[<- vo,wo];simp
theorem zmX{bits:Int}{bs:qB}:(∀q∈bs.zip bs.tail,eB q.1<=q.2.1)↔bs.Pairwise fun a b=>eB a<=b.1:=by
 induction bs with
 | nil=>simp
 | cons a l u =>
  cases l with
  | nil=>simp
  | cons b l =>simp only[List.tail_cons,lK,oW]at u ⊢;rw[u];constructor;rintro⟨h1,o⟩;refine bo.mpr ⟨fun c hc=>?_,o⟩;rcases au.mp hc with rfl|hc;exact h1;have:=(bo.mp o).1 c hc;have:=J7 b;omega;intro h;have h':=bo.mp h;exact⟨h'.1 b (.head _),h'.2⟩
class Stp (P:Prop)(Q:outParam Prop):Prop where
 go:Q->P
section
variable{t u tb:DTS}{D:JL}{ρ ρ0:En}{n i j m:Nat}{d da db dc d1 d2:DTE}{ds di:DTA}{c c' tt:DTT}{g:G2}{g':G2}{gc:GC}{gd:GD}{tg:DTG}{tgs:DTGs}{R:qN}{Rb:Bool->Nat->Prop}{Rl:List ah->Nat->Prop}{Re:En->Prop}{x y:ah}{xs ys acc:qD}{f:Int->Int->Int}{fb:ah->Bool}{k:Bool}{capt:List Nat}
instance zsj :Stp (sSeq t u D ρ n) ((t { D with nx:=u D } ρ n)):=⟨fun h=>zq_ h⟩
instance zpY :Stp (znT D ρ n) ((D.nx ρ n)):=⟨fun h=>zoJ h⟩
instance zsk :Stp (sRet d D ρ n) ((d ρ n fun t n'=>D.rt t n')):=⟨fun h=>zra h⟩
instance zs_ :Stp (sIf c t u D ρ n) ((c ρ n fun b n1=>if b=true then t D ρ n1 else u D ρ n1)):=⟨fun h=>ztO h⟩
instance zsm :Stp (sAsg d tg D ρ n) ((d ρ n fun t n'=>tg t ρ fun ρ'=>D.nx ρ' n')):=⟨fun h=>zrd h⟩
instance zsl :Stp (sFor di tg tb D ρ n) ((di ρ n fun ts n1=>forP tg tb D ts ρ n1)):=⟨fun h=>zrc h⟩
instance zuh :Stp (dC x ρ n R) ((R x n)):=⟨fun h=>i_dC h⟩
instance ztb :Stp (dOp g da db ρ n R) ((da ρ n fun x n1=>db ρ n1 fun y n2=>g x y fun z=>R z n2)):=⟨fun h=>ztT h⟩
instance zsw :Stp (dNew ds ρ n R) ((ds ρ n fun ts n'=>R (.list ts) n')):=⟨fun h=>zrq h⟩
instance zsr :Stp (dTup ds ρ n R) ((ds ρ n fun ts n1=>R (.tuple ts) n1)):=⟨fun h=>zrl h⟩
instance zsv :Stp (dNil ρ n Rl) ((Rl [] n)):=⟨fun h=>zrp h⟩
instance zp3 :Stp (Qa d ds ρ n Rl) ((d ρ n fun t n1=>ds ρ n1 fun ts n2=>Rl (t::ts) n2)):=⟨fun h=>zoP h⟩
instance ztc :Stp (dFn gd ds ρ n R) ((ds ρ n fun ts n1=>gd ts n1 R)):=⟨fun h=>ztU h⟩
instance zsA :Stp (dFnL gd ds ρ n R) ((ds ρ n fun ts n1=>gd ts n1 fun t n2=>JO t=true/\R t n2)):=⟨fun h=>zru h⟩
instance zpz :Stp (U0 gc ds ρ n R) ((ds ρ n fun ts n1=>gc ts fun z=>R z n1)):=⟨fun h=>zmF h⟩
instance zso :Stp (isiD fb d ρ n R) ((d ρ n fun t n1=>lIsi fb t fun z=>R z n1)):=⟨fun h=>zrh h⟩
instance zsC :Stp (dAnd c c' ρ n Rb) ((c ρ n fun b n1=>if b=true then c' ρ n1 Rb else Rb false n1)):=⟨fun h=>zrw h⟩
instance zta :Stp (dOr c c' ρ n Rb) ((c ρ n fun b n1=>if b=true then Rb true n1 else c' ρ n1 Rb)):=⟨fun h=>ztS h⟩
instance zsu :Stp (dNot c ρ n Rb) ((c ρ n fun b n1=>Rb (!b) n1)):=⟨fun h=>zro h⟩
instance zp4 :Stp (zpb da db ρ n R) ((da ρ n fun t n1=>bolD t fun b=>if b=true then db ρ n1 R else R (.bool false) n1)):=⟨fun h=>zoR h⟩
instance zss :Stp (dTru d ρ n Rb) ((d ρ n fun t n'=>truD t fun b=>Rb b n')):=⟨fun h=>zrm h⟩
instance znR :Stp (zgU d ρ n Rl) ((d ρ n fun t n1=>JG t fun ts=>Rl ts n1)):=⟨fun h=>zkK h⟩
instance zsq :Stp (dYes ρ n Rb) ((Rb true n)):=⟨fun h=>zrk h⟩
instance zpW :Stp (Uf tgs (.tuple xs) ρ Re) ((tgs xs ρ Re)):=⟨fun h=>zoH h⟩
instance zpX :Stp (Ue [] ρ Re) ((Re ρ)):=⟨fun h=>zoI h⟩
instance zpx :Stp (QC tg tgs (x::xs) ρ Re) ((tg x ρ fun ρ'=>tgs xs ρ' Re)):=⟨fun h=>zmC h⟩
instance zpZ :Stp (UG d ρ n Rb) ((d ρ n fun t n'=>bolD t fun b=>Rb b n')):=⟨fun h=>zoL h⟩
instance zsB :Stp (dCat da db ρ n Rl) ((da ρ n fun x n1=>db ρ n1 fun y n2=>lCat x y fun zs=>Rl zs n2)):=⟨fun h=>zrv h⟩
instance zsz :Stp (dItL d ρ n Rl) ((d ρ n fun t n'=>lLst t fun ts=>Rl ts n')):=⟨fun h=>zrt h⟩
instance zsy :Stp (dItT d ρ n Rl) ((d ρ n fun t n'=>lTup t fun ts=>Rl ts n')):=⟨fun h=>zrs h⟩
instance zp1 :Stp (UF d ρ n Rl) ((d ρ n fun t n'=>lInt t fun j=>(-(2 ^ 62)<=j/\j<2 ^ 62)/\Rl (J8 0 j.toNat) n')):=⟨fun h=>zoN h⟩
instance zsx :Stp (dNeg d ρ n R) ((d ρ n fun t n'=>lInt t fun i=>R (.int (-i)) n')):=⟨fun h=>zrr h⟩
instance zpy :Stp (U1 g g' da db dc ρ n R) ((da ρ n fun x n1=>db ρ n1 fun y n2=>g x y fun z=>bolD z fun b=>if b=true then dc ρ n2 fun w n3=>g' y w fun z=>R z n3 else R (.bool false) n2)):=⟨fun h=>zmE h⟩
instance zsn {b:Bool}{A B:Prop}:Stp (if (!b)=true then A else B) ((if b=true then B else A)):=⟨fun h=>zrf h⟩
end
section
variable{C:Int->Int->Prop}{f:Int->Int->Int}{fb:Int->Int->Bool}{i j k:Int}{R:ah->Prop}{Rb:Bool->Prop}{xs ys:qD}{s t:Str}{a b:Bool}{u v x y:ah}{Rn:qN}{n:Nat}
instance zsi :Stp (oAdd (.int i) (.int j) R) ((R (.int (i+j)))):=⟨fun h=>zq3 h⟩
instance zs5 :Stp (oEq (.int i) (.int j) R) ((R (.bool (decide (i=j))))):=⟨fun h=>ztJ h⟩
instance zs6 :Stp (oEq (.bool a) (.bool b) R) ((R (.bool (decide (a=b))))):=⟨fun h=>ztK h⟩
instance zsW :Stp (oNe (.list xs) (.list ys) R) (((Okd (.list xs)/\Okd (.list ys)/\R (.bool (!PyData.eqv (.list xs) (.list ys)))))):=⟨fun h=>ztA h⟩
instance zs1 :Stp (oLtA (.int i) (.int j) R) ((R (.bool (decide (i<j))))):=⟨fun h=>ztF h⟩
instance zs3 :Stp (oLeA (.int i) (.int j) R) ((R (.bool (decide (i<=j))))):=⟨fun h=>ztH h⟩
instance zsg :Stp (oIx (.tuple (u::xs)) (.int 0) R) ((R u)):=⟨fun h=>zq1 h⟩
instance zsf :Stp (oIx (.tuple (u::v::xs)) (.int 1) R) ((R v)):=⟨fun h=>zq0 h⟩
instance zsb :Stp (truD (.bool a) Rb) ((Rb a)):=⟨fun h=>zqU h⟩
instance zsa :Stp (truD (.list xs) Rb) ((Rb (!xs.isEmpty))):=⟨fun h=>zqT h⟩
instance zs8 :Stp (bolD (.bool a) Rb) ((Rb a)):=⟨fun h=>ztM h⟩
instance zse :Stp (bLen [.list xs] R) ((R (.int xs.length))):=⟨fun h=>zqZ h⟩
instance zsd :Stp (bLen [.tuple xs] R) ((R (.int xs.length))):=⟨fun h=>zqY h⟩
instance zpv {ns:List Int}:Stp (bLen [SCR ns] R) ((R (.int ns.length))):=⟨fun h=>zmy h⟩
instance zsZ :Stp (bMin [.int i,.int j] R) ((R (.int (if j<i then j else i)))):=⟨fun h=>ztD h⟩
instance zs0 :Stp (bMax [.int i,.int j] R) ((R (.int (if j > i then j else i)))):=⟨fun h=>ztE h⟩
instance zpu :Stp (UR [.list xs] R) ((R (.tuple xs))):=⟨fun h=>zmx h⟩
instance zpV {Rl:List ah->Prop}:Stp (JG (.list xs) Rl) ((Rl xs)):=⟨fun h=>zkD h⟩
instance zpw {Rl:List ah->Prop}:Stp (JG (.tuple xs) Rl) ((Rl xs)):=⟨fun h=>zhN h⟩
instance zs7 {Q:List ah->Prop}:Stp (lCat (.list xs) (.list ys) Q) (((xs.length+ys.length<=16777216/\Q (xs++ys)))):=⟨fun h=>ztL h⟩
instance zs2 {Q:List ah->Prop}:Stp (lLst (.list xs) Q) ((Q xs)):=⟨fun h=>ztG h⟩
instance zsR {Q:List ah->Prop}:Stp (lTup (.tuple xs) Q) ((Q xs)):=⟨fun h=>ztv h⟩
instance zs4 {i:Int}{Q:Int->Prop}:Stp (lInt (.int i) Q) ((Q i)):=⟨fun h=>ztI h⟩
instance zsc {Q:ah->ah->Prop}:Stp (UJ [x,y] Q) ((Q x y)):=⟨fun h=>zqX h⟩
instance zsX :Stp (oMul (.int i) (.int j) R) ((CMul i j)/\(R (.int (i*j)))):=⟨fun h=>ztB h.1 h.2⟩
instance zsY :Stp (oMod (.int i) (.int j) R) ((0<j)/\(R (.int (i % j)))):=⟨fun h=>ztC h.1 h.2⟩
instance zsh :Stp (Uh (.int i) (.int j) R) ((UI i j)/\(R (.int (i / j)))):=⟨fun h=>zq2 h.1 h.2⟩
instance zsV :Stp (oShl (.int i) (.int j) R) ((CPow i j)/\(R (.int (i*2 ^ j.toNat)))):=⟨fun h=>ztz h.1 h.2⟩
instance zsU :Stp (oShr (.int i) (.int j) R) ((0<=j)/\(R (.int (i / 2 ^ j.toNat)))):=⟨fun h=>zty h.1 h.2⟩
instance zsS :Stp (oSub (.int i) (.int j) R) ((R (.int (i - j)))):=⟨fun h=>ztw h⟩
instance zsQ :Stp (oXor (.int i) (.int j) R) ((R (.int (cY i j)))):=⟨fun h=>ztu h⟩
instance zs9 :Stp (oAnd (.int i) (.int j) R) ((R (.int (gP i j)))):=⟨fun h=>ztN h⟩
instance zud :Stp (gB fb (.int i) (.int j) R) ((R (.bool (fb i j)))):=⟨fun h=>j_gB h⟩
instance zlX :Stp (lIsi isInt (.int i) R) ((R (.bool true))):=⟨fun h=>zgN h⟩
instance zlD :Stp (lIsi isBool (.int i) R) ((R (.bool false))):=⟨fun h=>zfN h⟩
instance zlW :Stp (lIsi isTup (.int i) R) ((R (.bool false))):=⟨fun h=>zgM h⟩
instance zjL :Stp (lIsi isTup (.tuple xs) R) ((R (.bool true))):=⟨fun h=>zeV h⟩
end
section
variable{d da db:DTE}{dlo dhi:DTO}{ρ:En}{n:Nat}{R:qN}{Ro:Option Int->Nat->Prop}{Rl:List ah->Nat->Prop}{xs ys:qD}{lo hi:Option Int}{Q:ah->Prop}{Ql:List ah->Prop}
instance zst :Stp (dSlL d dlo dhi ρ n Rl) ((d ρ n fun t n1=>dlo ρ n1 fun lo n2=>dhi ρ n2 fun hi n3=>lSl t lo hi fun z=>Rl z n3)):=⟨fun h=>zrn h⟩
instance znQ :Stp (zgT ρ n Ro) ((Ro none n)):=⟨fun h=>zkJ h⟩
instance zp2 :Stp (zpa d ρ n Ro) ((d ρ n fun t n'=>lInt t fun i=>Ro (some i) n')):=⟨fun h=>zoO h⟩
instance zsp :Stp (dZip da db ρ n Rl) ((da ρ n fun x n1=>db ρ n1 fun y n2=>JG x fun xs=>JG y fun ys=>Rl (zipD xs ys) n2)):=⟨fun h=>zrj h⟩
instance zsT :Stp (lSl (.list xs) lo hi Ql) ((Ql (cutD xs lo hi))):=⟨fun h=>ztx h⟩
end
section
instance zp0 {d:DTE}{ρ:En}{n:Nat}{Rl:List ah->Nat->Prop}:Stp (zo9 d ρ n Rl) ((d ρ n fun t n1=>UK t fun ts=>Rl ts n1)):=⟨fun h=>zoM h⟩
end
section
variable{R:ah->Prop}{b:Bool}{A B:Prop}
instance zue:Stp (if true=true then A else B) A:=⟨fun h=>iteT h⟩
instance zuf:Stp (if false=true then A else B) B:=⟨fun h=>iteF h⟩
end
class GetN (ρ:En)(i:Nat)(c:outParam (Option Cell)):Prop where
 e:ρ[i]?=some c
class SetN (ρ:En)(i:Nat)(c:Option Cell)(ρ':outParam En):Prop where
 e:ρ.set i c=ρ'
instance{a0:Option Cell}{as:En}:GetN (a0::as) 0 a0:=⟨rfl⟩
instance{a0 c:Option Cell}{as:En}:SetN (a0::as) 0 c (c::as):=⟨rfl⟩
instance{a0 a1:Option Cell}{as:En}:GetN (a0::a1::as) 1 a1:=⟨rfl⟩
instance{a0 a1 c:Option Cell}{as:En}:SetN (a0::a1::as) 1 c (a0::c::as):=⟨rfl⟩
instance{a0 a1 a2:Option Cell}{as:En}:GetN (a0::a1::a2::as) 2 a2:=⟨rfl⟩
instance{a0 a1 a2 c:Option Cell}{as:En}:SetN (a0::a1::a2::as) 2 c (a0::a1::c::as):=⟨rfl⟩
instance{a0 a1 a2 a3:Option Cell}{as:En}:GetN (a0::a1::a2::a3::as) 3 a3:=⟨rfl⟩
instance{a0 a1 a2 a3 c:Option Cell}{as:En}:SetN (a0::a1::a2::a3::as) 3 c (a0::a1::a2::c::as):=⟨rfl⟩
instance{a0 a1 a2 a3 c:Option Cell}{as:En}{i:Nat}[h:GetN as i c]:GetN (a0::a1::a2::a3::as) (i+4) c:=⟨h.e⟩
instance{a0 a1 a2 a3 c:Option Cell}{as bs:En}{i:Nat}[h:SetN as i c bs]:SetN (a0::a1::a2::a3::as) (i+4) c (a0::a1::a2::a3::bs):=⟨by rw[<- h.e];rfl⟩
class NormE (ρ:En)(ρ':outParam En):Prop where
 e:ρ=ρ'
instance{a:Option Cell}{as:En}:NormE (a::as) (a::as):=⟨rfl⟩
instance{ρ ρ1 ρ2:En}{i:Nat}{c:Option Cell}[h:NormE ρ ρ1][k:SetN ρ1 i c ρ2]:NormE (ρ.set i c) ρ2:=⟨by rw[h.e];exact k.e⟩
class NoneN (as:En)(nn:outParam En):Prop where
 e:gf as.length none=nn
instance:NoneN [] []:=⟨rfl⟩
instance{a:Option Cell}{as nn:En}[h:NoneN as nn]:NoneN (a::as) (none::nn):=⟨by rw[aL,fY,h.e]⟩
class StartN (N:List Str)(ts:qD)(ρ:outParam En):Prop where
 e:JS N ts=ρ
instance:StartN [] [] []:=⟨rfl⟩
instance{x:Str}{N:List Str}{ρ:En}[h:StartN N [] ρ]:StartN (x::N) [] (none::ρ):=⟨by have:=h.e;simp only[JS,gx,fC,cT,wt]at this ⊢;rw[aL,fY,this]⟩
instance{x:Str}{N:List Str}{t:ah}{ts:qD}{ρ:En}[h:StartN N ts ρ]:StartN (x::N) (t::ts) (some (.val t)::ρ):=⟨by have:=h.e;simp only[JS]at this ⊢;rw[bp,aL,aL,eN,Nat.add_sub_add_right,this]⟩
theorem ziq{d:DTS}{D:JL}{n:Nat}{N:List Str}{ts:qD}{l:En}[e:StartN N ts l](h:d D l n):d D (JS N ts) n:=e.e.symm▸h
class CapN (is:List Nat)(ρ:En)(out:outParam En):Prop where
 e:(is.map fun i=>capV (ρ.getD i none))=out
class CapC (c:Option Cell)(c':outParam (Option Cell)):Prop where
 e:capV c=c'
instance{d:ah}:CapC (some (.val d)) (some (.val d)):=⟨rfl⟩
instance{d:qD}:CapC (some (.own d)) none:=⟨rfl⟩
instance:CapC none none:=⟨rfl⟩
instance{ρ:En}:CapN [] ρ []:=⟨rfl⟩
instance{i:Nat}{is:List Nat}{ρ out:En}{c c':Option Cell}[g:GetN ρ i c][k:CapC c c'][h:CapN is ρ out]:CapN (i::is) ρ (c'::out):=⟨by have ge:=g.e;rw[bp,h.e,bH,ge,fh,k.e]⟩
class CompN (m:Nat)(capt:List Nat)(ρ:En)(ρ':outParam En):Prop where
 e:Jl m capt ρ=ρ'
instance{x:Str}{capt:List Nat}{ρ out:En}[h:CapN capt ρ out]:CompN (fI [x]) capt ρ (none::out):=⟨by unfold Jl;rw[h.e];rfl⟩
instance{x y:Str}{capt:List Nat}{ρ out:En}[h:CapN capt ρ out]:CompN (fI [x,y]) capt ρ (none::none::out):=⟨by unfold Jl;rw[h.e];rfl⟩
instance{x y z:Str}{capt:List Nat}{ρ out:En}[h:CapN capt ρ out]:CompN (fI [x,y,z]) capt ρ (none::none::none::out):=⟨by unfold Jl;rw[h.e];rfl⟩
instance{x y z u:Str}{capt:List Nat}{ρ out:En}[h:CapN capt ρ out]:CompN (fI [x,y,z,u]) capt ρ (none::none::none::none::out):=⟨by unfold Jl;rw[h.e];rfl⟩
def SetK(i:Nat)(c:Option Cell)(K:En->Nat->Prop)(l:En)(n:Nat):Prop:=K (l.set i c) n
section
variable{t u:DTS}{D:JL}{ρ ρ0 ρ':En}{n i j m:Nat}{d dj:DTE}{ds di:DTA}{tt:DTT}{tg:DTG}{R:qN}{Rl:List ah->Nat->Prop}{Re:En->Prop}{x:ah}{xs:qD}{f:Int->Int->Int}{capt:List Nat}{c:Option Cell}{K:En->Nat->Prop}{q:Int}
instance zul [h:SetN ρ i c ρ']:Stp (SetK i c K ρ n) (K ρ' n):=⟨fun k=>by unfold SetK;rw[h.e];exact k⟩
instance zt_:Stp (sSet i d D ρ n) (d ρ n fun t n'=>SetK i (some (.val t)) D.nx ρ n'):=⟨fun h=>h⟩
instance zua:Stp (sOwn i ds D ρ n) (ds ρ n fun t n'=>SetK i (some (.own t)) D.nx ρ n'):=⟨fun h=>h⟩
instance zr9 [h:SetN ρ i (some (.val x)) ρ']:Stp (Qf i x ρ Re) (Re ρ'):=⟨fun k=>by unfold Qf;rw[h.e];exact k⟩
instance zui [h:GetN ρ i (some (.val x))]:Stp (dVar i ρ n R) (R x n):=⟨fun k=>zno h.e k⟩
instance zuj [h:GetN ρ i (some (.own xs))]:Stp (dOwn i ρ n R) (R (.list xs) n):=⟨fun k=>znp h.e k⟩
instance zsF [h:GetN ρ i (some (.own xs))]:Stp (U5 i d D ρ n) (d ρ n fun t n'=>xs.length<16777216/\SetK i (some (.own (xs++[t]))) D.nx ρ n'):=⟨fun k=>zhT h.e k⟩
instance zsD [h:GetN ρ i (some (.own xs))][h':SetN ρ i (some (.val (.list xs))) ρ']:Stp (U6 i t D ρ n) (t D ρ' n):=⟨fun k=>zhS h.e (by rw[h'.e];exact k)⟩
instance zuo:Stp (sPar i j ds D ρ n) (ds ρ n fun ts n'=>UJ ts fun t u=>SetK i (some (.val t)) (fun ρ1 n1=>SetK j (some (.val u)) D.nx ρ1 n1) ρ n'):=⟨fun h=>zrb h⟩
instance zuk [h:CompN m capt ρ ρ0]:Stp (dComp m capt di tg tt d ρ n Rl) (di ρ n fun ts n1=>JD tg tt d ρ0 ts [] n1 Rl):=⟨fun k=>zoQ (by rw[h.e];exact k)⟩
theorem zqf{D:JL}{ρ:En}{i:Nat}{xs:qD}{x:ah}{n:Nat}{j:Int}{k:Nat}(e:ixN xs.length j=some k)(h:SetK i (some (.own (xs.set k x))) D.nx ρ n) :
  (match ixN xs.length j with|some k=>D.nx (ρ.set i (some (.own (xs.set k x)))) n|none=>False):=by rw[e];exact h
instance zun [h:GetN ρ i (some (.own xs))]:Stp (sPut i dj d D ρ n) (d ρ n fun t n1=>QU ρ i D dj t n1 xs):=⟨fun k=>ztP h.e k⟩
instance zub:Stp (QU ρ i D dj x n xs) (dj ρ n fun j n2=>lInt j fun j=>(match ixN xs.length j with|some k=>D.nx (ρ.set i (some (.own (xs.set k x)))) n2|none=>False)):=⟨fun h=>zre h⟩
end
theorem Uy{l:En}{i:Nat}:l.set i (l.getD i none)=l:=by apply mK;intro j;by_cases h:i=j;subst h;by_cases hl:i<l.length;rw[gp hl,bH,av hl];rfl;rw[ck (by simp;omega),ck (by omega)];rw[dP h]
section
variable{g:DTG}{tb:DTS}{D:JL}{ts:qD}{ρ:En}{n:Nat}
theorem znu(C I:Nat)(Inv:Nat->Option Cell->Option Cell->Nat->Prop){u:Option Cell->Option Cell->En}[N:∀l a1,NormE ((ρ.set C l).set I a1) (u l a1)](h0:Inv 0 (ρ.getD C none) (ρ.getD I none) n)
  (turn:∀(k:Nat) (t:ah) (l a1:Option Cell) (m:Nat) (K:En->Nat->Prop) (L:qN) (J:En->Nat->Prop),ts[k]?=some t->Inv k l a1 m->(∀v x y,Inv (k+1) v x y->K (u v x) y)->(∀t m,D.rt t m->L t m)->(∀ρ m,D.nx ρ m->J ρ m)->g t (u l a1) fun o=>tb { nx:=K,rt:=L,bk:=J,ct:=K,xr:=D.xr } o m)
  (fin:∀l a1 m,Inv ts.length l a1 m->D.nx (u l a1) m):forP g tb D ts ρ n:=by
 refine Yc (fun k o m=>∃l a1,o=((ρ.set C l).set I a1)/\Inv k l a1 m) ⟨_,_,?_,h0⟩ ?_ ?_;rw[Uy,Uy];rintro k t o m K e ⟨l,a1,rfl,G⟩ hK;rw[(N l a1).e];exact turn k t l a1 m K D.rt D.nx e G (fun v x y h=>(N v x).e▸hK _ _ ⟨v,x,rfl,h⟩) (fun _ _ h=>h) (fun _ _ h=>h);rintro o m ⟨l,a1,rfl,G⟩;rw[(N l a1).e];exact fin l a1 m G
theorem zkS(J S U R:Nat)(Inv:Nat->Option Cell->Option Cell->Option Cell->Option Cell->Nat->Prop){v:Option Cell->Option Cell->Option Cell->Option Cell->En}[N:∀o a1 a2 l,NormE ((((ρ.set J o).set S a1).set U a2).set R l) (v o a1 a2 l)](h0:Inv 0 (ρ.getD J none) (ρ.getD S none) (ρ.getD U none) (ρ.getD R none) n)
  (turn:∀(k:Nat) (t:ah) (o a1 a2 l:Option Cell) (m:Nat) (K:En->Nat->Prop) (Z:qN) (Y:En->Nat->Prop),ts[k]?=some t->Inv k o a1 a2 l m->(∀x C G y I,Inv (k+1) x C G y I->K (v x C G y) I)->(∀t m,D.rt t m->Z t m)->(∀ρ m,D.nx ρ m->Y ρ m)->g t (v o a1 a2 l) fun u=>tb { nx:=K,rt:=Z,bk:=Y,ct:=K,xr:=D.xr } u m)
  (fin:∀o a1 a2 l m,Inv ts.length o a1 a2 l m->D.nx (v o a1 a2 l) m):forP g tb D ts ρ n:=by
 refine Yc (fun k u m=>∃o a1 a2 l,u=((((ρ.set J o).set S a1).set U a2).set R l)/\Inv k o a1 a2 l m) ⟨_,_,_,_,?_,h0⟩ ?_ ?_;rw[Uy,Uy,Uy,Uy];rintro k t u m K e ⟨o,a1,a2,l,rfl,L⟩ hK;rw[(N o a1 a2 l).e];exact turn k t o a1 a2 l m K D.rt D.nx e L (fun x C G y I h=>(N x C G y).e▸hK _ _ ⟨x,C,G,y,rfl,h⟩) (fun _ _ h=>h) (fun _ _ h=>h);rintro u m ⟨o,a1,a2,l,rfl,L⟩;rw[(N o a1 a2 l).e];exact fin o a1 a2 l m L
theorem zmD{i j:Nat}{u:DTS}{D:JL}{as nn C y:En}{n:Nat}{ns:List Int}{k:Int}[ej:GetN (some (.val (SCR ns))::as) j (some (.val (.int k)))][e1:NoneN as nn][e2:SetN (some (.val (SCR ns))::nn) j (some (.val (.int k))) C][e3:SetN C i (some (.val HAND)) y](N:ns.length<=63)(R:0<=k)(S:k<=100)
  (h:∀(I:En->Nat->Prop) (L:qN) (G J:En->Nat->Prop),(∀x m,D.nx (JH x) n->I x m)->(∀b m,D.rt (.bool b) n->L (.bool b) m)->(∀x m,D.bk (JH x) n->G x m)->(∀x m,D.ct (JH x) n->J x m) ->
   u { nx:=I,rt:=L,bk:=G,ct:=J } y 0):Ud i j u D (some (.val (SCR ns))::as) n:=by
 refine zoK (ρd:=some (.val (SCR ns))::nn) rfl ej.e N R S ?_ ?_;show some (Cell.val (SCR ns))::gf (fI (some (Cell.val (SCR ns))::as) - 1) none=_;rw[aL,pY,e1.e];rw[e2.e,e3.e];exact h _ _ _ _ (fun _ _ h=>h) (fun b _ h=>⟨b,rfl,h⟩) (fun _ _ h=>h) (fun _ _ h=>h)
theorem zjk{c:DTT}{tb:DTS}{D:JL}{ρ:En}{n:Nat}(Inv:Nat->En->Nat->Prop){m:Nat}(h0:Inv m ρ n)
  (turn:∀m ρ n (K:En->Nat->Prop) (x:qN) (v:En->Nat->Prop),Inv m ρ n->(∀o l u,o<m->Inv o l u->K l u)->(∀t m,D.rt t m->x t m)->(∀ρ m,D.nx ρ m->v ρ m) ->
   c ρ n fun b y=>if b=true then tb { nx:=K,rt:=x,bk:=v,ct:=K,xr:=D.xr } ρ y else v ρ y):zjM c tb D ρ n :=
 zjj Inv h0 fun m ρ n h=>turn m ρ n (fun l u=>∃o,o<m/\Inv o l u) D.rt D.nx h (fun o _ _ a b=>⟨o,a,b⟩) (fun _ _ h=>h) (fun _ _ h=>h)
end
open Builtin Builtin.Str
def cutS(x:Str)(lo hi:Option Int):Str:=⟨((x.cps.toList.drop (HT.sIx x.length 0 lo)).take (HT.sIx x.length x.length hi - HT.sIx x.length 0 lo)).toArray⟩
theorem Zi(n d:Nat)(i:Int):((HT.sIx n d (some i):Nat):Int)=max 0 (min (if i<0 then i+(n:Int) else i) (n:Int)):=by simp only[HT.sIx];by_cases h:i<0;simp only[h,if_true] <;> lia;simp only[h,if_false] <;> lia
theorem zpQ(lo hi:Option Int)(n:Nat):strSliceIndices lo hi 1 n=sliceRange ((HT.sIx n 0 lo:Nat):Int) ((HT.sIx n n hi:Nat):Int) 1:=by
 have l:((HT.sIx n 0 none:Nat):Int)=0:=by simp[HT.sIx]
 have o:((HT.sIx n n none:Nat):Int)=n:=by simp[HT.sIx]
 cases lo with
 | none =>
  cases hi with
  | none=>rw[l,o];rfl
  | some j=>rw[l,Zi];rfl
 | some i =>
  cases hi with
  | none=>rw[o,Zi];rfl
  | some j=>rw[Zi,Zi];rfl
theorem zjB(x:Str)(lo hi:Option Int):sI x lo hi=cutS x lo hi:=by
 have e:strSliceIndices lo hi 1 x.length=(eJ (HT.sIx x.length x.length hi - HT.sIx x.length 0 lo)).map (HT.sIx x.length 0 lo+·):=by rw[zpQ,tT]
 have o:(strSliceIndices lo hi 1 x.length).filterMap (x.cps[·]?)=(x.cps.toList.drop (HT.sIx x.length 0 lo)).take (HT.sIx x.length x.length hi - HT.sIx x.length 0 lo):=by rw[e,xu]
 unfold sI;split;rename_i h;have u:(strSliceIndices lo hi 1 x.length).length=x.length:=by simpa using h
 rw[e,aR,gO]at u;unfold cutS;have v:HT.sIx x.length x.length hi<=x.length:=by
  cases hi with
  | none=>simp[HT.sIx]
  | some i=>simp only[HT.sIx];split <;> lia
 have z:HT.sIx x.length 0 lo=0\/x.length=0:=by lia
 have:(x.cps.toList.drop (HT.sIx x.length 0 lo)).take (HT.sIx x.length x.length hi - HT.sIx x.length 0 lo)=x.cps.toList:=by
  have sz:x.cps.toList.length=x.length:=by simp[yO]
  rcases z with z|z;rw[z,oM,dZ (by lia)];have:x.cps.toList=[]:=gm.mp (by lia);rw[this];simp
 rw[this];rw[o];rfl
section
variable{X:Cx}
theorem zel{v:af}{p:Option Int}(h:mQ v p):∃l:Option (Int×Tok),v=partValue l/\l.map (·.1)=p:=by
 cases h with
 | none=>exact⟨none,rfl,rfl⟩
 | int i t=>exact⟨some (i,t),rfl,rfl⟩
def rSlS:V->Option Int->Option Int->Hp->VK->Prop:=fun x lo hi H Q=>∃z,x=.str z/\z.length<=sizeLine/\Q (.str (cutS z lo hi)) H
theorem zpS:SlR X rSlS:=by intro pins s σ H x v R S lo hi N Q I J G pl L h;obtain⟨z,rfl,hz,q⟩:=h;obtain⟨t,rfl⟩:=J;obtain⟨l,rfl,rfl⟩:=zel pl;obtain⟨u,rfl,rfl⟩:=zel L;have C:s.heap.IsSlice N l u none:=G;refine⟨"str",_,F.slot_str_getitem.lookup,tS _ _ _,wpAny_getItem_str_slice (l:=l) (u:=u) (st:=none) C rfl (post_val_or_str ?_)⟩;have e:(if (((none:Option (Int×Tok)).map (·.1)).getD 1 == 1&&(slicePicked z l u none).length == z.length)=true then z else⟨((slicePicked z l u none).filterMap (z.cps[·]?)).toArray⟩)=sI z (l.map (·.1)) (u.map (·.1)):=rfl;rw[e];refine⟨bZ (Txt.slice_le z _ _) hz,fun t' k=>⟨.str (sI z (l.map (·.1)) (u.map (·.1))),H,I.tok _,⟨_,rfl⟩,?_⟩⟩;rw[zjB];exact q
def oSlA(t:ah)(lo hi:Option Int)(R:ah->Prop):Prop:=match t with
 | .tuple ts=>R (.tuple (cutD ts lo hi))
 | .str x=>x.length<=16777216/\R (.str (cutS x lo hi))
 | _=>False
def dSlA(d:DTE)(dl x:DTO):DTE:=fun l n R=>d l n fun t v=>dl l v fun lo u=>x l u fun hi o=>oSlA t lo hi fun z=>R z o
variable{e a b iter tg:bg}{d da db:DTE}{lo hi:Option bg}{dlo dhi:DTO}{pos p2:Pos}
theorem zk7(h:DL X e d)(L:DP X lo dlo)(N:DP X hi dhi):DE X (.Subscript e (.Slice lo hi none p2) pos) (dSlA d dlo dhi):=by
 obtain⟨ta,pa,h⟩:=h;obtain⟨tl,pl,L⟩:=L;obtain⟨tu,pu,N⟩:=N;refine⟨_,zhw (SlR.or (SlR.or zpR znM) zpS) pa pl pu,fun C ρ σ H n Q R S hd U=>?_⟩;refine h C ρ σ H n _ _ S hd fun t n1 v H1 r1 J h1 q1=>?_;have S1:=S.on J h1;refine L C ρ σ H1 n1 _ _ S1 r1 fun lo n2 H2 r2 o h2=>?_;have S2:=S1.on o h2;refine N C ρ σ H2 n2 _ _ S2 r2 fun hi Z H3 x y I=>?_;have S3:=S2.on y I;have Y:=(o.trans y).repT S.hx q1;cases t with
 | tuple ts =>obtain⟨a,vs,rfl,hs,rs⟩:=Y.tupI;by_cases w:HT.sIx vs.length 0 lo=0/\HT.sIx vs.length vs.length hi=vs.length;refine .inl (.inr ⟨a,vs,rfl,hs,w,U _ Z _ H3 x (J.trans (o.trans y)) I ?_⟩);rw[zi0 (by rw[<- rs.length];exact w)];exact Y.rep (by intro _ z;cases z);refine .inl (.inl ⟨a,vs,rfl,hs,w,fun p G=>U _ Z _ _ x (J.trans (o.trans (y.trans (ExtE.new G)))) (I.same (JB G)) ?_⟩);exact .newT (S3.free G) G (zia rs lo hi)
 | str z =>rw[Y.strI];exact .inr ⟨z,rfl,x.1,U _ Z _ H3 x.2 (J.trans (o.trans y)) I (.str _)⟩
 | _=>exact x.elim
end
section
variable{ρ:En}{n:Nat}{d da db:DTE}{dlo dhi:DTO}{R:qN}{Rl:List ah->Nat->Prop}{Q:ah->Prop}{xs:qD}{lo hi:Option Int}{x:Str}{i j:Int}{Ql:List ah->Prop}
instance zum:Stp (dSlA d dlo dhi ρ n R) (d ρ n fun t n1=>dlo ρ n1 fun lo n2=>dhi ρ n2 fun hi n3=>oSlA t lo hi fun z=>R z n3):=⟨fun h=>h⟩
instance zt6:Stp (oSlA (.tuple xs) lo hi Q) (Q (.tuple (cutD xs lo hi))):=⟨fun h=>h⟩
end
mutual
def plnD:ah->Bool
 | .dict []=>true
 | .dict _=>false
 | .tuple ts=>decide (ts.length<=1000000)&&zn_ ts
 | .list ts=>decide (ts.length<=1000000)&&zn_ ts
 | .str x=>decide (x.length<=1000000)
 | _=>true
def zn_:List ah->Bool
 | []=>true
 | t::ts=>plnD t&&zn_ ts
end
theorem zgW{α:Type}{cs:List α}{D:α->ah}{I:DTG}{tt:DTT}{d:DTE}{u:En}{n:Nat}{C:List ah->Nat->Prop}(p:α->Bool)(F:α->ah)(L:cs.length<=16777216)
  (step:∀b∈cs,∀(K:qN) (X:Nat->Prop),(p b=true->K (F b) n)->(p b=false->X n)->I (D b) u fun v=>tt v n fun c G=>if c=true then d v G K else X G) (fin:C ((cs.filter p).map F) n):JD I tt d u (cs.map D) [] n C:=by
 refine zlm (fun j acc m=>m=n/\acc=((cs.take j).filter p).map F) ⟨rfl,rfl⟩ ?_ ?_;rintro j x acc m K o ⟨rfl,rfl⟩ hK;rw[aN]at o;cases eb:cs[j]? with
 | none=>rw[eb]at o;cases o
 | some b =>
  rw[eb]at o;cases o;obtain⟨J,N⟩:=aH.mp eb;have tk:cs.take (j+1)=cs.take j++[b]:=by rw[gR,eb];rfl
  refine step b (aP eb) _ _ (fun y=>⟨?_,hK _ _ ⟨rfl,?_⟩⟩) (fun y=>hK _ _ ⟨rfl,?_⟩);have:=iX p (cs.take j);simp at this ⊢;lia;rw[tk,pZ,dM];simp[y];rw[tk,pZ,dM];simp[y]
 rintro acc m ⟨rfl,rfl⟩;rw[aR,ny];exact fin
section
variable{prog:aJ}{w:a7}{A:aX}{R:kD->aq->Prop}{s:aq}{elt tg1 it1 tg2 it2:bg}{KU KS:List bg}{scope:e8}{pos:Pos}{it acc:af}{env:Env}
theorem zf_(it acc:af)(env:Env):compTurn (.ListComp elt [⟨tg1,it1,KU,0⟩,⟨tg2,it2,KS,0⟩] scope pos) 0 it acc env=(do
      standAt it1.pos
      match <- pyNext it with
      | none=>pure (.done .next)
      | some v =>
       letOwnedTupleGo tg1 it v
       assign tg1 env v
       let mut ok:=true
       for c in KU do
        if ok then ok <- isTrue c env (eval c env)
       if ok then
        let x <- eval it2 env
        standAt it2.pos
        let x <- foldedSetIterable it2 env x;let _ <- runOwn (.compStart (.ListComp elt [⟨tg1,it1,KU,0⟩,⟨tg2,it2,KS,0⟩] scope pos) 1 (<- holding [x] (pyIter x)) acc env) env
       again (.compLoop (.ListComp elt [⟨tg1,it1,KU,0⟩,⟨tg2,it2,KS,0⟩] scope pos) 0 it acc env)):=by rfl
theorem zgX(it acc:af)(env:Env):compTurn (.ListComp elt [⟨tg1,it1,KU,0⟩,⟨tg2,it2,KS,0⟩] scope pos) 1 it acc env=(do
      standAt it2.pos
      match <- pyNext it with
      | none=>pure (.done .next)
      | some v =>
       letOwnedTupleGo tg2 it v
       assign tg2 env v
       let mut ok:=true
       for c in KS do
        if ok then ok <- isTrue c env (eval c env)
       if ok then
        (do let _ <- call (.builtin "list.append") [acc,<- eval elt env])
       again (.compLoop (.ListComp elt [⟨tg1,it1,KU,0⟩,⟨tg2,it2,KS,0⟩] scope pos) 1 it acc env)):=by rfl
theorem zlI(I:Nat->aq->Prop)
  (turn:∀n s,I n s->wpAny (model prog w) A (pyNext it) (fun r G=>match r with
   | none=>R (.ok .next) G
   | some v=>wpAny (model prog w) A (letOwnedTupleGo tg2 it v) (fun _ U=>wpAny (model prog w) A (assign tg2 env v) (fun _ S =>
     wpAny (model prog w) A (forIn KS true fun c r=>if r=true then do let ok <- isTrue c env (eval c env);pure (bT ok) else pure (bT r)) (fun ok y =>
      if ok=true then wpAny (model prog w) A (eval elt env) (fun x Z=>wpAny (model prog w) A (call (.builtin "list.append") [acc,x]) (fun _ Y=>∃m,m<n/\I m Y) NoX Z) NoX y
      else ∃m,m<n/\I m y) NoX S) NoX U) NoX G) NoX s) (n:Nat) (h:I n s) :
  codeAny (model prog w) A (.compLoop (.ListComp elt [⟨tg1,it1,KU,0⟩,⟨tg2,it2,KS,0⟩] scope pos) 1 it acc env) R s:=by
 refine k6 rfl I (fun n s hI=>?_) n h;show wpAny _ A ((compTurn (.ListComp elt [⟨tg1,it1,KU,0⟩,⟨tg2,it2,KS,0⟩] scope pos) 1 it acc env).onRaise (fun x=>do noteFrame x env;theTreesLotGoes x)) _ _ s;refine mH (cA (E:=NoX) ?_ (fun _ _ q=>q) fun _ _ z=>cF z);rw[zgX];refine aa (b9 (aa (thn (turn n s hI) fun r G J=>?_)));cases r with
 | none=>exact ae J
 | some v =>
  refine aa (thn J fun _ U h₂=>aa (thn h₂ fun _ S h₃=>aa (thn h₃ fun ok y N=>?_)));cases ok with
  | false=>exact ae ⟨rfl,N⟩
  | true =>refine aa (aa (thn N fun x Z h₅=>aa (thn h₅ fun _ Y h₆=>?_)));exact ae (ae ⟨rfl,h₆⟩)
theorem zjv(hs:∀x,foldedSetIterable it2 env x=pure x)(I:Nat->aq->Prop)
  (turn:∀n s,I n s->wpAny (model prog w) A (pyNext it) (fun r u=>match r with
   | none=>R (.ok .next) u
   | some v=>wpAny (model prog w) A (letOwnedTupleGo tg1 it v) (fun _ U=>wpAny (model prog w) A (assign tg1 env v) (fun _ J =>
     wpAny (model prog w) A (forIn KU true fun c r=>if r=true then do let ok <- isTrue c env (eval c env);pure (bT ok) else pure (bT r)) (fun ok l =>
      if ok=true then wpAny (model prog w) A (eval it2 env) (fun x Z=>wpAny (model prog w) A (pyIter x) (fun itv Y =>
       codeAny (model prog w) A (.compStart (.ListComp elt [⟨tg1,it1,KU,0⟩,⟨tg2,it2,KS,0⟩] scope pos) 1 itv acc env) (fun r N=>r=.ok .next/\∃m,m<n/\I m N) Y) NoX Z) NoX l
      else ∃m,m<n/\I m l) NoX J) NoX U) NoX u) NoX s) (n:Nat) (h:I n s) :
  codeAny (model prog w) A (.compLoop (.ListComp elt [⟨tg1,it1,KU,0⟩,⟨tg2,it2,KS,0⟩] scope pos) 0 it acc env) R s:=by
 refine k6 rfl I (fun n s hI=>?_) n h;show wpAny _ A ((compTurn (.ListComp elt [⟨tg1,it1,KU,0⟩,⟨tg2,it2,KS,0⟩] scope pos) 0 it acc env).onRaise (fun x=>do noteFrame x env;theTreesLotGoes x)) _ _ s;refine mH (cA (E:=NoX) ?_ (fun _ _ q=>q) fun _ _ z=>cF z);rw[zf_];refine aa (b9 (aa (thn (turn n s hI) fun r u y=>?_)));cases r with
 | none=>exact ae y
 | some v =>
  refine aa (thn y fun _ U h₂=>aa (thn h₂ fun _ J h₃=>aa (thn h₃ fun ok l G=>?_)));cases ok with
  | false=>exact ae ⟨rfl,G⟩
  | true =>refine aa (thn G fun x Z h₅=>aa (b9 (aa (mN (hs x) (aa (bU (thn h₅ fun itv Y h₆=>?_)))))));refine aa (wpAny_runOwn (iG h₆ fun r N h₇=>?_));obtain⟨rfl,m,hm,hI'⟩:=h₇;exact ae ⟨rfl,m,hm,hI'⟩
theorem zlM
  (h0:codeAny (model prog w) A (.compLoop (.ListComp elt [⟨tg1,it1,KU,0⟩,⟨tg2,it2,KS,0⟩] scope pos) 1 it acc env) R s)
  (h:wpAny (model prog w) A (pyIter it) (fun l s'=>codeAny (model prog w) A (.compLoop (.ListComp elt [⟨tg1,it1,KU,0⟩,⟨tg2,it2,KS,0⟩] scope pos) 1 l acc env) R s')
   (notedBy (model prog w) A env fun x s'=>R (.error x) s') s) :
  codeAny (model prog w) A (.compStart (.ListComp elt [⟨tg1,it1,KU,0⟩,⟨tg2,it2,KS,0⟩] scope pos) 1 it acc env) R s:=by
 refine og ?_;show wpAny _ _ ((compStart (.ListComp elt [⟨tg1,it1,KU,0⟩,⟨tg2,it2,KS,0⟩] scope pos) 1 it acc env).onRaise (fun x=>do noteFrame x env;standAt theWindowsPlace)) _ _ s;refine pK ?_;unfold compStart;show wpAny _ _ (vO >>= _) _ _ s;refine aa (cn (vP ?_));split;first
  | exact aa (ae (ae (fD rfl h0)))
  | exact ae (fD rfl h0)
 first
  | exact aa (b7 (aa (b9 (aa (cA h (fun l s' h'=>ae (fD rfl h')) fun _ _ x=>x)))))
  | (refine aa (b7 ?_);show wpAny _ _ (standAt it2.pos >>= _) _ _ s;exact aa (b9 (aa (cA h (fun l s' h'=>ae (fD rfl h')) fun _ _ x=>x))))
end
def UQ(g:TG)(tt:TT)(S:TE)(σ:St)(J:It)(U:Hp)(D:aj)(Q:Hp->Prop):Prop:=∃W:Nat->Nat->Hp->Prop,(∃m,W 0 m U)/\∀i m y,W i m y ->
 (J.stop i y/\Q y)\/(J.go i y/\∃(N:V->Hp->Prop) (L:Hp->Prop),(∀v G,N v G->∃ys,G D=some (.lst ys)/\ys.length<sizeLine/\∃u,u<m/\W (i+1) u (upd G D (.lst (ys++[v]))))/\(∀C,L C->∃u,u<m/\W (i+1) u C) /\
  ∀x I,J.yld i y x I->g x σ I fun o R=>Wk σ o/\tt o R fun b C=>if b=true then S o C N else L C)
section
variable{Y:Cx}{elt tg1 it1 tg2 it2:bg}{KU KS:List bg}{scope:e8}{pos:Pos}{g:TG}{tt:TT}{te:TE}
theorem zkH(u:Y.xe=NoX)(hc:Y.calm=true)(hg:PG Y tg2 g)(ht:PTs Y KS tt)(he:PE Y elt te){pins:qO}{σ:St}{D:aj}{G:af}{s:aq}{Q:Hp->Prop}{R:kD->aq->Prop}
  (h:PIE Y pins σ tg2 (fun J H1=>UQ g tt te σ J H1 D Q) G s) (hR:∀s' H',Inv Y pins σ H' s'->Q H'->R (.ok .next) s') :
  codeAny (model Y.prog Y.w) Y.A (.compStart (.ListComp elt [⟨tg1,it1,KU,0⟩,⟨tg2,it2,KS,0⟩] scope pos) 1 G (.ref D) Y.env) R s:=by
 obtain⟨it,fp,tn,J,H2,e,I2,T,I,f2,W,⟨m0,w0⟩,turn⟩:=h;subst e;have loop:codeAny (model Y.prog Y.w) Y.A (.compLoop (.ListComp elt [⟨tg1,it1,KU,0⟩,⟨tg2,it2,KS,0⟩] scope pos) 1 (.ref it) (.ref D) Y.env) R s:=by
  refine zlI (CompI Y pins σ fp tn W) ?_ m0 ⟨0,_,I2,I,fun b U=>(f2 b U).1,w0⟩;rintro n s4 ⟨i,H4,I4,st4,fr4,w4⟩;refine Yg u hc hg ht T (fun hn b U=>⟨hn b U,(f2 b U).2⟩) I4 st4 fr4 ?_;rcases turn i n H4 w4 with⟨stop,qn⟩|⟨go,N,N',hN,hN',step⟩
  ·exact .inl ⟨stop,fun s5 I5=>hR _ _ I5 qn⟩
  refine .inr ⟨go,fun Z H5=>te Z H5 N,N',fun {p6 σ7 H8 s8} I8 q8 again=>?_,hN',step⟩;have a3:=he _ s8 σ7 H8 N I8 q8;rw[u]at a3;refine thn a3 fun y s9 ⟨v,H9,I9,r9,q9⟩=>?_;obtain⟨ys,hD,hl,m',hm,w9⟩:=hN v H9 q9;have a4:=zdH (X:=Y) _ s9 σ7 H9 (.ref D) [v] _ [y] (fun _ H'=>H'=upd H9 D (.lst (ys++[v]))) I9 rfl (.cons r9 .nil) ⟨_,ys,v,rfl,rfl,hD,hl,rfl⟩;rw[u]at a4;refine thn a4 fun _ s10 ⟨_,H10,I10,_,q10⟩=>?_;subst q10;exact again I10 hm w9
 exact zlM loop (T.self Y.A 0 _ _ _ I loop)
end
def zlB(own:List Str)(capt:List Nat)(g:TG)(tt:TT)(G:TI)(g2:TG)(I:TT)(Y:TE)(σ:St)(J:It)(Z:Hp)(D:aj)(Q:VK):Prop:=∃W:Nat->Nat->Hp->Prop,(∃m,W 0 m (upd Z D (.lst [])))/\∀i m v,W i m v ->
 (J.stop i v/\Q (.ref D) v)\/(J.go i v/\∃(N R:Hp->Prop),(∀C,N C->∃u,u<m/\W (i+1) u C)/\(∀y,R y->∃u,u<m/\W (i+1) u y) /\
  ∀x L,J.yld i v x L->g x (Ji own++capS capt σ) L fun o S=>Wk (Ji own++capS capt σ) o/\tt o S fun b y=>if b=true then G o y (fun U C=>UQ g2 I Y o U C D N) else R y)
def zpO(own:List Str)(capt:List Nat)(v:TI)(g:TG)(tt:TT)(l:TI)(g2:TG)(o:TT)(x:TE):TE:=fun σ H Q=>v σ H fun J u=>∀D,u D=none->zlB own capt g tt l g2 o x σ J u D Q
section
variable{X:Cx}{scope:e8}{own:List Str}{capt:List Nat}{elt tg iter tg2 it2:bg}{ifs KS:List bg}{pos:Pos}{wi wi2:TI}{g g2:TG}{tt tt2:TT}{te:TE}
theorem zlk(hc:X.calm=true)(S:JC scope own capt X)
  (hg:∀C s₀ H₀ v,PG (Ja X scope own capt C s₀ H₀ v) tg g) (ht:∀C s₀ H₀ v,PTs (Ja X scope own capt C s₀ H₀ v) ifs tt) (hi2:∀C s₀ H₀ v,PI (Ja X scope own capt C s₀ H₀ v) tg2 it2 wi2)
  (hg2:∀C s₀ H₀ v,PG (Ja X scope own capt C s₀ H₀ v) tg2 g2) (ht2:∀C s₀ H₀ v,PTs (Ja X scope own capt C s₀ H₀ v) KS tt2) (he:∀C s₀ H₀ v,PE (Ja X scope own capt C s₀ H₀ v) elt te)
  (hs2:∀(C:aj) (x:af),foldedSetIterable it2 (compEnvC scope (closed X.env scope.names []) C X.env) x=pure x)
  {pins:qO} {σ:St} {Q:VK} {I:af} {s2:aq} {E:qV} {RR:af->aj->kD->aq->Prop}
  (h2:PIE X pins σ tg (fun J H1=>∀D,H1 D=none->zlB own capt g tt wi2 g2 tt2 te σ J H1 D Q) I s2)
  (hR:∀D C s' H',(∃m,s'.heap.Ns C m)->(∀h'',cN C s'.heap h''->Inv X pins σ H' { s' with heap:=h'' })->H' C=none->FpOk X pins H' C->Q (.ref D) H'->RR (.ref D) C (.ok .next) s') :
  wpAny (model X.prog X.w) X.A (newList []) (fun acc Z=>wpAny (model X.prog X.w) X.A (newFunctionEnv scope X.env.globals (closed X.env scope.names []) [] X.env.qual none .none (some X.env)) (fun u G =>
   codeAny (model X.prog X.w) X.A (.compStart (.ListComp elt [⟨tg,iter,ifs,0⟩,⟨tg2,it2,KS,0⟩] scope pos) 0 I acc { u with scope:=relabel scope X.env }) (RR acc u.locals) G) E Z) E s2:=by
 refine zf8 (CA:=fun acc u G=>codeAny (model X.prog X.w) X.A (.compStart (.ListComp elt [⟨tg,iter,ifs,0⟩,⟨tg2,it2,KS,0⟩] scope pos) 0 I acc u) (RR acc u.locals) G) S h2 fun it v tn J H2 D C h₁ e T rd hnD U fr0 J0 Lo out=>?_;subst e;obtain⟨W,⟨m0,w0⟩,turn⟩:=rd _ hnD;have loop:∀tk:Tok,codeAny (model X.prog X.w) X.A (.compLoop (.ListComp elt [⟨tg,iter,ifs,0⟩,⟨tg2,it2,KS,0⟩] scope pos) 0 (.ref it) (.ref D) (compEnvC scope (closed X.env scope.names []) C X.env)) (RR (.ref D) C) { s2 with heap:=h₁,toks:=tk }:=fun tk=>by
  refine zjv (hs2 _) (CompI (Ja X scope own capt C s2 H2 v) [] (Ji own++capS capt σ) v tn W) ?_ m0 ⟨0,_,J0 tk,U,fr0,w0⟩;rintro n s4 ⟨i,H4,I4,st4,fr4,w4⟩;refine Yg (Y:=Ja X scope own capt C s2 H2 v) rfl hc (hg _ _ _ _) (ht _ _ _ _) T Lo I4 st4 fr4 ?_;rcases turn i n H4 w4 with⟨stop,qn⟩|⟨go,N,N',hN,hN',step⟩
  ·exact .inl ⟨stop,fun s5 I5=>let ⟨o1,o2,o3,o4⟩:=out s5 H4 I5;hR _ _ s5 H4 o1 o2 o3 o4 qn⟩
  refine .inr ⟨go,fun R H5=>wi2 R H5 (fun J2 H6=>UQ g2 tt2 te R J2 H6 D N),N',fun {p6 σ7 H8 s8} I8 q8 again=>?_,hN',step⟩;refine thn (hi2 _ _ _ _ _ s8 σ7 H8 _ I8 q8) fun y s9 h9=>thn h9 fun itv2 s10 h10=>?_;refine zkH (Y:=Ja X scope own capt C s2 H2 v) rfl hc (hg2 _ _ _ _) (ht2 _ _ _ _) (he _ _ _ _) h10 fun s' H' I' q'=>⟨rfl,?_⟩;obtain⟨m',hm,w9⟩:=hN H' q';exact again I' hm w9
 exact nJ (loop _) (T.self X.A 0 _ _ _ U (loop _))
theorem zj1(hc:X.calm=true)(S:JC scope own capt X)(hi:PI X tg iter wi)
  (hg:∀C s₀ H₀ l,PG (Ja X scope own capt C s₀ H₀ l) tg g) (Y:∀C s₀ H₀ l,PTs (Ja X scope own capt C s₀ H₀ l) ifs tt) (y:∀C s₀ H₀ l,PI (Ja X scope own capt C s₀ H₀ l) tg2 it2 wi2)
  (u:∀C s₀ H₀ l,PG (Ja X scope own capt C s₀ H₀ l) tg2 g2) (R:∀C s₀ H₀ l,PTs (Ja X scope own capt C s₀ H₀ l) KS tt2) (he:∀C s₀ H₀ l,PE (Ja X scope own capt C s₀ H₀ l) elt te)
  (Z:∀x,foldedSetIterable iter X.env x=pure x:=by intro _;rfl) (G:∀(C:aj) (x:af),foldedSetIterable it2 (compEnvC scope (closed X.env scope.names []) C X.env) x=pure x:=by intro _ _;rfl) :
  PE X (.ListComp elt [⟨tg,iter,ifs,0⟩,⟨tg2,it2,KS,0⟩] scope pos) (zpO own capt wi g tt wi2 g2 tt2 te):=by
 intro pins s σ H Q I h;rw[eval_ListComp];refine fR (use:=none) rfl Z (ZV (S.cells I.ok)) S.kind S.names (thn (hi pins s σ H _ I h) fun v s1 h1=>thn h1 fun itv s2 h2=>?_);refine zlk (RR:=fun acc C=>compPost (model X.prog X.w) X.A X.xe none (EP X pins σ Q) acc C) hc S hg Y y u R he G h2 fun D C s' H' U J _ _ q=>?_;obtain⟨m,U⟩:=U;exact⟨m,U,fun N sb=>⟨.ref D,H',J N sb,rfl,q⟩⟩
end
theorem ziV{J:It}{n:Nat}{g:TG}{tt:TT}{N:TE}{σ:St}{I:Hp}{D:aj}{Q:Hp->Prop}(y:Nat->List V->Hp->Prop)(h0:∃ys,I D=some (.lst ys)/\y 0 ys I)
  (turn:∀i ys o,i<n->o D=some (.lst ys)->y i ys o->J.go i o/\∀x L,J.yld i o x L->g x σ L fun u S=>Wk σ u/\tt u S fun b C =>
   if b=true then N u C (fun v G=>∃zs,G D=some (.lst zs)/\zs.length<sizeLine/\y (i+1) (zs++[v]) (upd G D (.lst (zs++[v])))) else ∃zs,C D=some (.lst zs)/\y (i+1) zs C)
  (stop:∀ys o,o D=some (.lst ys)->y n ys o->J.stop n o/\Q o):UQ g tt N σ J I D Q:=by
 refine⟨fun i m H=>m=n - i/\i<=n/\∃ys,H D=some (.lst ys)/\y i ys H,⟨n,rfl,cw _,h0⟩,?_⟩;rintro i m o ⟨rfl,hi,ys,R,p⟩;by_cases hlt:i<n;obtain⟨go,st⟩:=turn i ys o hlt R p;refine .inr ⟨go,_,_,?_,?_,st⟩;rintro v G ⟨zs,e,l,q⟩;exact⟨zs,e,l,n - (i+1),by omega,rfl,hlt,_,Jo,q⟩;rintro C ⟨zs,e,q⟩;exact⟨n - (i+1),by omega,rfl,hlt,zs,e,q⟩
 ·have e:i=n:=by omega
  subst e;exact .inl (stop ys o R p)
theorem zi3{J:It}{n:Nat}{own:List Str}{capt:List Nat}{g g2:TG}{tt C:TT}{y:TI}{N:TE}{σ:St}{R:Hp}{D:aj}{Q:VK}(v:Nat->List V->Hp->Prop)(h0:v 0 [] (upd R D (.lst [])))
  (turn:∀i ys o,i<n->o D=some (.lst ys)->v i ys o->J.go i o/\∀x I,J.yld i o x I->g x (Ji own++capS capt σ) I fun u Y=>Wk (Ji own++capS capt σ) u/\tt u Y fun b G =>
   if b=true then y u G (fun Z L=>UQ g2 C N u Z L D fun S=>∃zs,S D=some (.lst zs)/\v (i+1) zs S) else ∃zs,G D=some (.lst zs)/\v (i+1) zs G)
  (stop:∀ys o,o D=some (.lst ys)->v n ys o->J.stop n o/\Q (.ref D) o) :
  zlB own capt g tt y g2 C N σ J R D Q:=by
 refine⟨fun i m H=>m=n - i/\i<=n/\∃ys,H D=some (.lst ys)/\v i ys H,⟨n,rfl,cw _,[],Jo,h0⟩,?_⟩;rintro i m o ⟨rfl,hi,ys,U,p⟩;by_cases hlt:i<n;obtain⟨go,st⟩:=turn i ys o hlt U p;refine .inr ⟨go,_,_,?_,?_,st⟩;rintro L ⟨zs,e,q⟩;exact⟨n - (i+1),by omega,rfl,hlt,zs,e,q⟩;rintro G ⟨zs,e,q⟩;exact⟨n - (i+1),by omega,rfl,hlt,zs,e,q⟩
 ·have e:i=n:=by omega
  subst e;exact .inl (stop ys o U p)
theorem DI.uni{y:Type}{Xf:y->Cx}{K:qF}(u:∀i,(Xf i).K=K){x e:bg}{d:DTA}(h:∀i,DI (Xf i) x e d):∃v:TI,(∀i,PI (Xf i) x e v)/\∀(C:Ctx) (l:En) (σ:St) (H:Hp) (n:Nat) (Q:It->Hp->Prop) (R:List ah->Nat->Prop),Stt K C l σ H n->d l n R ->
  (∀ts o J H',R ts o->ExtE C.hd H H'->Hn K C.hd H' o->ItOk K C.hd (fun a=>¬Own C l σ a) (Own C l σ) H' J ts->Q J H')->v σ H Q:=by
 refine⟨fun σ H Q=>∀i,(i4 (h i)) σ H Q,fun i pins s σ H R I hw=>(cV (h i)).1 pins s σ H R I (hw i),fun C l σ H n Q R S hd G i=>?_⟩;have:=(cV (h i)).2 C l σ H n Q R;exact this (by rw[u i];exact S) hd fun t o J H' r e h q=>G t o J H' r e (by rw[<- u i];exact h) (by rw[<- u i];exact q)
theorem Stt.onX{K:qF}{C:Ctx}{L:En}{σ:St}{H H':Hp}{n J:Nat}(S:Stt K C L σ H n)(k:∀a o,H a=some o->¬C.ext a->H' a=some o)(N:∀a,C.ext a->MutO (H' a))(R:∀a I,H a=some (.dK I)->C.ext a->C.hd≠some a->H' a=some (.dK I))(U:Hn K C.hd H' J):Stt K C L σ H' J where
 len:=S.len
 val:=fun i d hi=>by obtain⟨v,h1,x⟩:=S.val i d hi;exact⟨v,h1,x.mono (fun _ _ _ z=>z) fun a o no h=>k a o h fun z=>no (.inl z)⟩
 own:=fun i ds hi=>by obtain⟨a,vs,h1,x,y,u⟩:=S.own i ds hi;exact⟨a,vs,h1,k a _ x u,y.mono (fun _ _ _ z=>z) (fun a o no h=>k a o h fun z=>no (.inl z)),u⟩
 dct:=fun i ds hi=>by obtain⟨a,vs,h1,x,y,u⟩:=S.dct i ds hi;exact⟨a,vs,h1,k a _ x u,y.mono (fun _ _ _ z=>z) (fun a o no h=>k a o h fun z=>no (.inl z)),u⟩
 rdo:=fun i ds hi=>by obtain⟨a,vs,h1,x,y,u,G⟩:=S.rdo i ds hi;exact⟨a,vs,h1,R a _ x u G,y.mono (fun _ _ _ z=>z) (fun a o no h=>k a o h fun z=>no (.inl z)),u,G⟩
 dtt:=fun i ds hi=>by obtain⟨a,vs,ep,h1,x,y,u⟩:=S.dtt i ds hi;exact⟨a,vs,ep,h1,k a _ x u,y.mono (fun _ _ _ z=>z) (fun a o no h=>k a o h fun z=>no (.inl z)),u⟩
 dif:=S.dif
 hnd:=U
 ext:=N
 hx:=S.hx
def Qo(g:DTG)(tt:DTT)(u:DTA)(g2:DTG)(l:DTT)(C:DTE)(v:En):List ah->List ah->Nat->(List ah->Nat->Prop)->Prop
 | [],acc,n,R=>R acc n
 | x::xs,acc,n,R=>g x v fun o=>tt o n fun b G=>if b=true then u o G fun ts I=>JD g2 l C o ts acc I fun y J=>Qo g tt u g2 l C v xs y J R else Qo g tt u g2 l C v xs acc G R
def zli(m:Nat)(capt:List Nat)(x:DTA)(g:DTG)(tt:DTT)(o:DTA)(g2:DTG)(l:DTT)(v:DTE):DTA:=fun u n R=>x u n fun ts y=>Qo g tt o g2 l v (Jl m capt u) ts [] y R
section
variable{X:Cx}{scope:e8}{own:List Str}{capt:List Nat}{elt tg iter tg2 it2:bg}{ifs KS:List bg}{pos:Pos}{di di2:DTA}{is is2:List Nat}{g g2:DTG}{tt tt2:DTT}{te:DTE}
theorem zh5(hc:X.calm=true)(S:JC scope own capt X)(hi:DIL X tg iter di)
  (hg:∀C s₀ H₀ I,DG (Ja X scope own capt C s₀ H₀ I) tg is g) (hin:∀i∈is,i<own.length) (ht:∀C s₀ H₀ I,DTs (Ja X scope own capt C s₀ H₀ I) ifs tt)
  (hi2:∀C s₀ H₀ I,DI (Ja X scope own capt C s₀ H₀ I) tg2 it2 di2) (hg2:∀C s₀ H₀ I,DG (Ja X scope own capt C s₀ H₀ I) tg2 is2 g2) (LW:∀i∈is2,i<own.length/\i∉is) (ht2:∀C s₀ H₀ I,DTs (Ja X scope own capt C s₀ H₀ I) KS tt2)
  (he:∀C s₀ H₀ I,DE (Ja X scope own capt C s₀ H₀ I) elt te)
  (hs:∀x,foldedSetIterable iter X.env x=pure x:=by intro _;rfl) (hs2:∀(C:aj) (x:af),foldedSetIterable it2 (compEnvC scope (closed X.env scope.names []) C X.env) x=pure x:=by intro _ _;rfl) :
  DN X (.ListComp elt [⟨tg,iter,ifs,0⟩,⟨tg2,it2,KS,0⟩] scope pos) (zli own.length capt di g tt di2 g2 tt2 te):=by
 obtain⟨wi,pi,hi⟩:=hi;let Xf:(aj×aq×Hp×List aj)->Cx:=fun q=>Ja X scope own capt q.1 q.2.1 q.2.2.1 q.2.2.2;have hK:∀q,(Xf q).K=X.K:=fun _=>rfl;have hne:Nonempty (aj×aq×Hp×List aj):=⟨(0,X.s₀,X.H₀,[])⟩;obtain⟨gg,pg,hgg⟩:=DG.uni (Xf:=Xf) hK fun q=>hg q.1 q.2.1 q.2.2.1 q.2.2.2;obtain⟨gt,pt,hgt⟩:=DTs.uni (Xf:=Xf) hK fun q=>ht q.1 q.2.1 q.2.2.1 q.2.2.2;obtain⟨wi2,pi2,hwi2⟩:=DI.uni (Xf:=Xf) hK fun q=>hi2 q.1 q.2.1 q.2.2.1 q.2.2.2;obtain⟨gg2,pg2,hgg2⟩:=DG.uni (Xf:=Xf) hK fun q=>hg2 q.1 q.2.1 q.2.2.1 q.2.2.2;obtain⟨gt2,pt2,hgt2⟩:=DTs.uni (Xf:=Xf) hK fun q=>ht2 q.1 q.2.1 q.2.2.1 q.2.2.2;obtain⟨ge,pe,hge⟩:=DE.uni (Xf:=Xf) hK fun q=>he q.1 q.2.1 q.2.2.1 q.2.2.2;refine⟨_,zj1 hc S pi (fun C s₀ H₀ I=>pg (C,s₀,H₀,I)) (fun C s₀ H₀ I=>pt (C,s₀,H₀,I)) (fun C s₀ H₀ I=>pi2 (C,s₀,H₀,I)) (fun C s₀ H₀ I=>pg2 (C,s₀,H₀,I)) (fun C s₀ H₀ I=>pt2 (C,s₀,H₀,I)) (fun C s₀ H₀ I=>pe (C,s₀,H₀,I)) hs hs2,fun C N σ H n Q R St hd hq=>?_⟩;refine hi C N σ H n _ _ St hd fun ts n1 J H1 r e1 hn it=>fun D hD1=>?_;have St1:=St.on e1 hn;have hD:H D=none:=Q5 e1 hn hD1;have nhd:C.hd≠some D:=fun z=>St.dom (.inl (St.hx D z)) hD;refine zi3 (n:=ts.length) (fun i ys H2=>∃acc n2,Qo g tt di2 g2 tt2 te (Jl own.length capt N) (ts.drop i) acc n2 R/\Reps X.K C.hd (fun a=>Own C N σ a\/a=D) H2 ys acc/\ExtE C.hd H1 H2/\Hn X.K C.hd H2 n2)
  ⟨[],n1,by simpa using r,.nil,ExtE.new hD1,hn.same (JB hD1)⟩ ?_ ?_
 rintro i ys H2 hlt hy ⟨acc,n2,c2,r2,e2,hn2⟩;have et:ts[i]?=some ts[i]:=av hlt;rw[br hlt]at c2;have itq:=it (fun a=>Own C N σ a\/a=D) H2 (fun a o u nh=>e2 a o u nh) (fun a o u no z=>z.elim no fun z=>by subst z;rw[hD1]at u;cases u) (fun a z=>z.elim (fun z=>(St1.on e2 hn2).dom z) fun z=>by subst z;rw[hy];exact fun z=>by cases z);obtain⟨go,yl⟩:=itq.1 i _ et;refine⟨go,fun x H3 hyd=>?_⟩;obtain⟨sm,rx⟩:=yl x H3 hyd;have hn3:=hn2.same sm;have e3:ExtE C.hd H1 H3:=e2.trans sm.ext;obtain⟨I3,no3⟩:=zib (own:=own) (capt:=capt) (D:=D) (ys:=ys) St (e1.trans e3) hn3 hD (sm _ _ hy);have rx':Rep X.K C.hd (Own ⟨C.hd,fun a=>Own C N σ a\/a=D⟩ (Jl own.length capt N) (Ji own++capS capt σ)) H3 x ts[i]:=rx.mono (fun a o _ z=>z.elim id fun z=>absurd z (no3 a)) fun _ _ _ z=>z;refine hgg ⟨C.hd,fun a=>Own C N σ a\/a=D⟩ (Jl own.length capt N) (Ji own++capS capt σ) H3 n2 x ts[i] _ _ I3 rx' c2 fun U Y r4 S4 k4 hj hl=>⟨Wk.of hl.symm fun j v ej=>zji hin hj ej,?_⟩;refine hgt _ U Y H3 n2 _ _ S4 r4 fun b n5 H5 r5 e5 hn5=>?_;have S5:=S4.on e5 hn5;have hy5:H5 D=some (.lst ys):=e5 D _ (sm _ _ hy) nhd;have r25:∀{H6},ExtE C.hd H2 H6->Reps X.K C.hd (fun a=>Own C N σ a\/a=D) H6 ys acc:=fun e=>r2.mono (fun _ _ _ z=>z) fun a o no u=>e a o u fun z=>no (.inl (.inl (St.hx a z)));cases b with
 | false =>refine iteF ⟨ys,hy5,acc,n5,by simpa using r5,r25 ((Same.ext sm).trans e5),e3.trans e5,hn5⟩
 | true =>
  refine iteT (hwi2 ⟨C.hd,fun a=>Own C N σ a\/a=D⟩ U Y H5 n5 _ _ S5 (by simpa using r5) fun us n6 J2 H6 r6 e6 hn6 it6=>?_);have S6:=S5.on e6 hn6;have hy6:H6 D=some (.lst ys):=e6 D _ hy5 nhd;refine ziV (n:=us.length) (fun k zs H7=>∃G n7,JD g2 tt2 te U (us.drop k) G n7 (fun G n4=>Qo g tt di2 g2 tt2 te (Jl own.length capt N) (ts.drop (i+1)) G n4 R)/\Reps X.K C.hd (fun a=>Own C N σ a\/a=D) H7 zs G/\ExtE C.hd H1 H7/\Hn X.K C.hd H7 n7/\∀a o,H6 a=some o->¬(Own C N σ a\/a=D)->H7 a=some o)
   ⟨ys,hy6,acc,n6,by simpa using r6,r25 ((Same.ext sm).trans (e5.trans e6)),e3.trans (e5.trans e6),hn6,fun _ _ h _=>h⟩ ?_ ?_
  rintro k zs H7 hk hz ⟨G,n7,c7,r7,e7,hn7,k7⟩;have et2:us[k]?=some us[k]:=av hk;rw[br hk]at c7;have S7:Stt X.K ⟨C.hd,fun a=>Own C N σ a\/a=D⟩ U Y H7 n7:=S6.onX k7 (fun a z=>z.elim (fun z=>(St1.on e7 hn7).lst z) fun z=>by subst z;exact .inl ⟨_,hz⟩) (fun a ks u z nh=>z.elim (fun z=>by have e16:ExtE C.hd H1 H6:=e3.trans (e5.trans e6);rcases St1.lst z with⟨xs,q⟩|⟨xs,q⟩|⟨b,q⟩;rw[e16 a _ q nh]at u;cases u;rw[e16 a _ q nh]at u;cases u;exact e7 a _ q nh;rw[e16 a _ q nh]at u;cases u) (fun z=>by subst z;rw[hy6]at u;cases u)) hn7;have LD:=it6 (Own ⟨C.hd,fun a=>Own C N σ a\/a=D⟩ U Y) H7 (fun a o u no=>k7 a o u fun z=>no (.inl z)) (fun a o u no=>no) (fun a z=>S7.dom z);obtain⟨go2,yl2⟩:=LD.1 k _ et2;refine⟨go2,fun y H8 hyd2=>?_⟩;obtain⟨Z,ry⟩:=yl2 y H8 hyd2;have hn8:=hn7.same Z;have S8:=S7.on (Same.ext Z) hn8;refine hgg2 _ U Y H8 n7 y us[k] _ _ S8 ry c7 fun ρ9 σ9 r9 S9 k9 hj9 hl9=>⟨Wk.of hl9.symm fun j v ej=>?_,?_⟩;by_cases hjo:j∈is2;exfalso;obtain⟨lo,nis⟩:=LW j hjo;rw[hj j nis,bE (by simpa using lo),aN]at ej;cases z:own[j]? with
  | none=>rw[z]at ej;cases ej
  | some q=>rw[z]at ej;cases ej
  rw[hj9 j hjo];exact ej;refine hgt2 _ ρ9 σ9 H8 n7 _ _ S9 r9 fun b n10 H10 r10 e10 hn10=>?_;have S10:=S9.on e10 hn10;have LN:H10 D=some (.lst zs):=e10 D _ (Z _ _ hz) nhd;have LX:∀{H'},ExtE C.hd H7 H'->Reps X.K C.hd (fun a=>Own C N σ a\/a=D) H' zs G:=fun e=>r7.mono (fun _ _ _ z=>z) fun a o no u=>e a o u fun z=>no (.inl (.inl (St.hx a z)));have kk:∀{H'},ExtE C.hd H7 H'->∀a o,H6 a=some o->¬(Own C N σ a\/a=D)->H' a=some o:=fun e a o u no=>e a o (k7 a o u no) fun z=>no (.inl (.inl (St.hx a z)));cases b with
  | false=>exact iteF ⟨zs,LN,G,n10,by simpa using r10,LX ((Same.ext Z).trans e10),e7.trans ((Same.ext Z).trans e10),hn10,kk ((Same.ext Z).trans e10)⟩
  | true =>
   refine iteT (hge _ ρ9 σ9 H10 n10 _ _ S10 (by simpa using r10) fun t n11 v H11 r11 e11 hn11 q11=>?_);have LO:H11 D=some (.lst zs):=e11 D _ LN nhd;have LF:ExtE C.hd H7 H11:=(Same.ext Z).trans (e10.trans e11);have rl:=(LX LF).length;refine⟨zs,LO,by rw[rl];exact r11.1,G++[t],n11,r11.2,?_,?_,?_,?_⟩;have q11':Rep X.K C.hd (fun a=>Own C N σ a\/a=D) H11 v t:=q11.mono (fun _ _ _ z=>.inl z) fun _ _ _ z=>z;have all:=(LX LF).append (Reps.cons q11' .nil);exact all.mono (fun _ _ _ z=>z) fun a o no u=>by rw[Jc (show a≠D from fun z=>no (.inr z))];exact u
   exact ExtE.updR hD1 (e7.trans LF);exact Hn.updR nhd (.inl ⟨_,LO⟩) hn11;exact fun a o u no=>by rw[Jc (show a≠D from fun z=>no (.inr z))];exact kk LF a o u no
  rintro zs H7 hz ⟨G,n7,c7,r7,e7,hn7,k7⟩;rw[gh]at c7;have S7:Stt X.K ⟨C.hd,fun a=>Own C N σ a\/a=D⟩ U Y H7 n7:=S6.onX k7 (fun a z=>z.elim (fun z=>(St1.on e7 hn7).lst z) fun z=>by subst z;exact .inl ⟨_,hz⟩) (fun a ks u z nh=>z.elim (fun z=>by have e16:ExtE C.hd H1 H6:=e3.trans (e5.trans e6);rcases St1.lst z with⟨xs,q⟩|⟨xs,q⟩|⟨b,q⟩;rw[e16 a _ q nh]at u;cases u;rw[e16 a _ q nh]at u;cases u;exact e7 a _ q nh;rw[e16 a _ q nh]at u;cases u) (fun z=>by subst z;rw[hy6]at u;cases u)) hn7;have LD:=it6 (Own ⟨C.hd,fun a=>Own C N σ a\/a=D⟩ U Y) H7 (fun a o u no=>k7 a o u fun z=>no (.inl z)) (fun a o u no=>no) (fun a z=>S7.dom z);exact⟨LD.2,zs,hz,G,n7,c7,r7,e7,hn7⟩
 rintro ys H2 hy ⟨acc,n2,c2,r2,e2,hn2⟩;rw[gh]at c2;have itq:=it (fun a=>Own C N σ a\/a=D) H2 (fun a o u nh=>e2 a o u nh) (fun a o u no z=>z.elim no fun z=>by subst z;rw[hD1]at u;cases u) (fun a z=>z.elim (fun z=>(St1.on e2 hn2).dom z) fun z=>by subst z;rw[hy];exact fun z=>by cases z);exact⟨itq.2,hq acc n2 D ys H2 c2 (e1.trans e2) hn2 hD hy r2⟩
end
section
variable{ρ ρ0:En}{n m:Nat}{di di2:DTA}{g g2:DTG}{tt tt2:DTT}{te:DTE}{capt:List Nat}{Rl:List ah->Nat->Prop}
instance zte [h:CompN m capt ρ ρ0]:Stp (zli m capt di g tt di2 g2 tt2 te ρ n Rl) (di ρ n fun ts n1=>Qo g tt di2 g2 tt2 te ρ0 ts [] n1 Rl):=⟨fun k=>by unfold zli;rw[h.e];exact k⟩
end
abbrev Run:=Int×Int
def NR(rs:List Run):Prop:=(∀r∈rs,r.1<r.2)/\rs.Pairwise fun a b=>a.2<b.1
def mR(x:Int)(rs:List Run):Prop:=∃r∈rs,r.1<=x/\x<r.2
def mB(x:Int)(bs:qB):Prop:=∃b∈bs,b.1<=x/\x<eB b
theorem Zg{x:Int}{r:Run}{rs:List Run}:mR x (r::rs)↔(r.1<=x/\x<r.2)\/mR x rs:=by unfold mR;constructor;rintro⟨s,o,h⟩;rcases au.mp o with rfl|o;exact .inl h;exact .inr ⟨s,o,h⟩;rintro(h|⟨s,o,h⟩);exact⟨r,by simp,h⟩;exact⟨s,by simp[o],h⟩
theorem Y5{x:Int}:¬mR x []:=fun⟨_,h,_⟩=>nomatch h
theorem zkk{x:Int}{rs ss:List Run}:mR x (rs++ss)↔mR x rs\/mR x ss:=by unfold mR;constructor;rintro⟨s,o,h⟩;rcases aC.mp o with o|o;exact .inl ⟨s,o,h⟩;exact .inr ⟨s,o,h⟩;rintro(⟨s,o,h⟩|⟨s,o,h⟩);exact⟨s,by simp[o],h⟩;exact⟨s,by simp[o],h⟩
theorem zkl{x:Int}{b:Int×Int}{bs:qB}:mB x (b::bs)↔(b.1<=x/\x<eB b)\/mB x bs:=by unfold mB;constructor;rintro⟨s,o,h⟩;rcases au.mp o with rfl|o;exact .inl h;exact .inr ⟨s,o,h⟩;rintro(h|⟨s,o,h⟩);exact⟨b,by simp,h⟩;exact⟨s,by simp[o],h⟩
theorem Y4{x:Int}:¬mB x []:=fun⟨_,h,_⟩=>nomatch h
theorem znl{x:Int}{bs cs:qB}:mB x (bs++cs)↔mB x bs\/mB x cs:=by unfold mB;constructor;rintro⟨s,o,h⟩;rcases aC.mp o with o|o;exact .inl ⟨s,o,h⟩;exact .inr ⟨s,o,h⟩;rintro(⟨s,o,h⟩|⟨s,o,h⟩);exact⟨s,by simp[o],h⟩;exact⟨s,by simp[o],h⟩
theorem zow{x:Int}{bs cs:qB}(h:bs.Perm cs):mB x bs↔mB x cs:=by unfold mB;constructor;rintro⟨s,l,q⟩;exact⟨s,h.mem_iff.mp l,q⟩;rintro⟨s,l,q⟩;exact⟨s,h.mem_iff.mpr l,q⟩
theorem NR.tail{r:Run}{rs:List Run}(h:NR (r::rs)):NR rs:=⟨fun s l=>h.1 s (by simp[l]),(bo.mp h.2).2⟩
def Qn(lo hi:Int)(h:Nat):Prop:=lo % 2 ^ h=0/\(2:Int) ^ h<=hi - lo/\¬(lo % 2 ^ (h+1)=0/\(2:Int) ^ (h+1)<=hi - lo)
theorem zcH{a b:Nat}(h:a<=b):((2:Int) ^ a)∣2 ^ b:=⟨2 ^ (b - a),by rw[<- kh];congr 1;lia⟩
theorem J9{a b:Nat}(h:a<=b):(2:Int) ^ a<=2 ^ b:=by
 obtain⟨c,e⟩:=zcH h;have pa:=Bd.Qt a;have l:=Bd.Qt b;have pc:0<c:=by rcases mL c 0 with z|z|z;have:=hG pa z;lia;subst z;lia;exact z
 rw[e];have:=dD (show(1:Int)<=c by lia) (show(0:Int)<=2 ^ a by lia);lia
theorem Uc{lo:Int}{a b:Nat}(h:a<=b)(e:lo % 2 ^ b=0):lo % 2 ^ a=0:=by have d:((2:Int) ^ b)∣lo:=bu e;exact dU (vp (zcH h) d)
theorem Qn.uniq{lo hi:Int}{h g:Nat}(a:Qn lo hi h)(b:Qn lo hi g):h=g:=by rcases ef h g with z|z|z;exfalso;exact a.2.2 ⟨Uc (show h+1<=g by lia) b.1,eR (J9 (show h+1<=g by lia)) b.2.1⟩;exact z;exfalso;exact b.2.2 ⟨Uc (show g+1<=h by lia) a.1,eR (J9 (show g+1<=h by lia)) a.2.1⟩
def Jh:Int->Int->List (Int×Int)->Prop
 | lo,hi,[]=>lo=hi
 | lo,hi,b::r=>lo<hi/\b.1=lo/\0<=b.2/\Qn lo hi b.2.toNat/\Jh (lo+2 ^ b.2.toNat) hi r
theorem Jh.le:∀{bs:qB}{lo hi:Int},Jh lo hi bs->lo<=hi
 | [],_,_,h=>by have:_=_:=h;lia
 | b::r,lo,hi,h=>by have:=h.1;lia
theorem Jh.uniq:∀{bs cs:qB}{lo hi:Int},Jh lo hi bs->Jh lo hi cs->bs=cs
 | [],[],_,_,_,_=>rfl
 | [],c::cs,lo,hi,h,k=>by have:lo=hi:=h;have:=k.1;lia
 | b::bs,[],lo,hi,h,k=>by have:lo=hi:=k;have:=h.1;lia
 | b::bs,c::cs,lo,hi,h,k=>by
  obtain⟨h1,G,C,x,l⟩:=h;obtain⟨J,L,I,o,v⟩:=k;have e:=x.uniq o;have y:b.2=c.2:=by lia
  have u:b=c:=fJ (by lia) y;subst u;rw[Jh.uniq l v]
theorem Jh.mem:∀{bs:qB}{lo hi:Int},Jh lo hi bs->∀x,mB x bs↔lo<=x/\x<hi
 | [],lo,hi,h,x=>by have:lo=hi:=h;exact⟨fun z=>absurd z Y4,fun z=>by lia⟩
 | b::r,lo,hi,h,x=>by obtain⟨h1,u,v,y,o⟩:=h;have:=Jh.mem o x;have l:=Jh.le o;have p:=Bd.Qt b.2.toNat;rw[zkl,this];unfold eB;rw[u];lia
theorem Jh.blk{bits:Int}(J:0<=bits):∀{bs:qB}{lo hi:Int},Jh lo hi bs->0<=lo->hi<=2 ^ bits.toNat->Bks bits bs
 | [],_,_,_,_,_=>fun b v=>nomatch v
 | b::r,lo,hi,h,l0,l1=>by
  obtain⟨h1,I,G,y,u⟩:=h;have p:=Bd.Qt b.2.toNat;have l:=Jh.le u;have C:=Jh.blk J u (by lia) l1;intro c hc;rcases au.mp hc with rfl|hc;have v:c.2.toNat<=bits.toNat:=by rcases cx bits.toNat c.2.toNat with z|z;exfalso;have:=J9 (show bits.toNat+1<=c.2.toNat by lia);have p2:=Bd.Qt bits.toNat;rw[bM]at this;have:=y.2.1;lia;exact z
  obtain⟨k,x⟩:=bu y.1;have L:0<=k:=by rcases gY k 0 with z|z;have:=hG p z;lia;exact z
  refine⟨G,by lia,k,L,by rw[I,x,cQ],?_⟩;have e:(2:Int) ^ bits.toNat=2 ^ (bits - c.2).toNat*2 ^ c.2.toNat:=by rw[<- kh];congr 1;lia
  have up:k*2 ^ c.2.toNat<2 ^ (bits - c.2).toNat*2 ^ c.2.toNat:=by rw[<- e,cQ,<- x];lia
  exact lV up (by lia);exact C c hc
theorem Jh.in:∀{bs:qB}{lo hi:Int},Jh lo hi bs->∀b∈bs,lo<=b.1/\eB b<=hi
 | [],_,_,_=>fun b x=>nomatch x
 | b::r,lo,hi,h=>by obtain⟨h1,v,y,C,o⟩:=h;have p:=Bd.Qt b.2.toNat;have u:=Jh.in o;have l:=Jh.le o;intro c hc;rcases au.mp hc with rfl|hc;unfold eB;rw[v];lia;have:=u c hc;lia
theorem Jh.pw:∀{bs:qB}{lo hi:Int},Jh lo hi bs->bs.Pairwise fun a b=>eB a<=b.1
 | [],_,_,_=>.nil
 | b::r,lo,hi,h=>by obtain⟨h1,v,x,y,u⟩:=h;refine .cons (fun c hc=>?_) (Jh.pw u);have:=Jh.in u c hc;unfold eB;rw[v];lia
theorem zfh:∀{bs:qB}{lo hi:Int}{k:Nat},Jh lo hi bs->lo % 2 ^ k=0->hi - lo<2 ^ k->bs.length<=k
 | [],_,_,_,_,_,_=>cw _
 | b::r,lo,hi,k,h,d,l=>by
  obtain⟨h1,y,v,o,u⟩:=h;have x:b.2.toNat<k:=by rcases cx b.2.toNat k with z|z;exact z;have:=J9 z;have:=o.2.1;lia
  have up:¬(2:Int) ^ (b.2.toNat+1)<=hi - lo:=fun z=>o.2.2 ⟨Uc (show b.2.toNat+1<=k by lia) d,z⟩;rw[bM]at up;have:=zfh (k:=b.2.toNat) u (by rw[rQ,o.1];simp) (by lia);rw[aL];lia
theorem zfg{K:Nat}:∀{bs:qB}{lo hi:Int}{k:Nat},Jh lo hi bs->lo % 2 ^ k=0->hi - lo<2 ^ K->k<=K->bs.length<=(K - k)+K
 | [],_,_,_,_,_,_,_=>cw _
 | b::r,lo,hi,k,h,d,l,hkK=>by
  obtain⟨h1,G,y,o,u⟩:=h;have p:=Bd.Qt b.2.toNat;have C:b.2.toNat<K:=by rcases cx b.2.toNat K with z|z;exact z;have:=J9 z;have:=o.2.1;lia
  rw[aL];by_cases up:(2:Int) ^ (b.2.toNat+1)<=hi - lo;have nd:¬lo % 2 ^ (b.2.toNat+1)=0:=fun z=>o.2.2 ⟨z,up⟩;have I:k<=b.2.toNat:=by rcases cx b.2.toNat k with z|z;exact absurd (Uc (show b.2.toNat+1<=k by lia) d) nd;exact z
  have d':(lo+2 ^ b.2.toNat) % 2 ^ (b.2.toNat+1)=0:=by
   obtain⟨q,eq⟩:=bu o.1;have v:(2:Int) ^ (b.2.toNat+1)=2 ^ b.2.toNat*2:=bM _ _;rw[v]at nd ⊢;have odd:q % 2=1:=by rcases tE q with z|z;exfalso;obtain⟨t,x⟩:=bu z;apply nd;apply dU;exact⟨t,by rw[eq,x,fe]⟩;exact z
   apply dU;refine⟨(q+1) / 2,?_⟩;have:q+1=2*((q+1) / 2):=by lia
   rw[eq,fe,<- this,sW,mD]
  have:=zfg (K:=K) (k:=b.2.toNat+1) u d' (by lia) (by lia);lia;rw[bM]at up;have:=zfh (k:=b.2.toNat) u (by rw[rQ,o.1];simp) (by lia);lia
theorem Jh.len{bs:qB}{lo hi:Int}(h:Jh lo hi bs)(l:0<=lo)(o:hi<=2 ^ 64):bs.length<=130:=by have:=zfg (K:=65) (k:=0) h (by simp) (by have e:(2:Int) ^ 65=2*2 ^ 64:=(by decide);lia) (by decide);lia
theorem zhU{lo hi:Int}(h:lo<hi):∃g,Qn lo hi g:=by
 have key:∀(d k:Nat),lo % 2 ^ k=0->(2:Int) ^ k<=hi - lo->(hi - lo).toNat<2 ^ (k+d)->∃g,Qn lo hi g:=by
  intro d;induction d with
  | zero =>
   intro k _ b c;exfalso;have:((2 ^ k:Nat):Int)=(2:Int) ^ k:=by rw[gF];rfl
   rw[Nat.add_zero]at c;lia
  | succ d l =>intro k a b c;by_cases z:lo % 2 ^ (k+1)=0/\(2:Int) ^ (k+1)<=hi - lo;exact l (k+1) z.1 z.2 (by rw[show k+1+d=k+(d+1) by lia];exact c);exact⟨k,a,b,z⟩
 refine key (hi - lo).toNat 0 (by simp) (by simp;lia) ?_;rw[eS];exact Nat.lt_two_pow_self
theorem zjA:∀(n:Nat) (lo hi:Int),(hi - lo).toNat<=n->lo<=hi->∃bs,Jh lo hi bs:=by
 intro n;induction n with
 | zero =>intro lo hi h l;exact⟨[],by show lo=hi;lia⟩
 | succ n u =>intro lo hi h l;by_cases z:lo<hi;obtain⟨g,G⟩:=zhU z;have p:=Bd.Qt g;have:=G.2.1;obtain⟨bs,B⟩:=u (lo+2 ^ g) hi (by lia) (by lia);exact⟨(lo,(g:Int))::bs,z,rfl,by show(0:Int)<=(g:Int);lia,by simpa using G,by simpa using B⟩;exact⟨[],by show lo=hi;lia⟩
def PatS:List Run->List (Int×Int)->Prop
 | [],ps=>ps=[]
 | r::rs,ps=>∃a b,ps=a++b/\Jh r.1 r.2 a/\PatS rs b
theorem PatS.mem:∀{rs:List Run}{ps:qB},PatS rs ps->∀x,mB x ps↔mR x rs
 | [],_,h,x=>by cases(show _=[] from h);exact⟨fun z=>absurd z Y4,fun z=>absurd z Y5⟩
 | r::rs,_,h,x=>by obtain⟨a,b,rfl,h1,l⟩:=h;rw[znl,Zg,h1.mem x,PatS.mem l x]
theorem PatS.blk{bits:Int}(l:0<=bits):∀{rs:List Run}{ps:qB},PatS rs ps->(∀r∈rs,0<=r.1/\r.2<=2 ^ bits.toNat)->Bks bits ps
 | [],_,h,_=>by cases(show _=[] from h);exact fun b u=>nomatch u
 | r::rs,_,h,w=>by obtain⟨a,b,rfl,h1,v⟩:=h;have o:=w r (by simp);intro c hc;rcases aC.mp hc with hc|hc;exact h1.blk l o.1 o.2 c hc;exact PatS.blk l v (fun s x=>w s (by simp[x])) c hc
theorem PatS.in:∀{rs:List Run}{ps:qB},PatS rs ps->∀b∈ps,∃r∈rs,r.1<=b.1/\eB b<=r.2
 | [],_,h=>by cases(show _=[] from h);exact fun b o=>nomatch o
 | r::rs,_,h=>by obtain⟨a,b,rfl,h1,l⟩:=h;intro c hc;rcases aC.mp hc with hc|hc;exact⟨r,by simp,h1.in c hc⟩;obtain⟨s,u,q⟩:=PatS.in l c hc;exact⟨s,by simp[u],q⟩
theorem PatS.pw:∀{rs:List Run}{ps:qB},PatS rs ps->NR rs->ps.Pairwise fun a b=>eB a<=b.1
 | [],_,h,_=>by cases(show _=[] from h);exact .nil
 | r::rs,_,h,nr=>by obtain⟨a,b,rfl,h1,o⟩:=h;rw[eW];refine⟨h1.pw,PatS.pw o nr.tail,fun x hx y u=>?_⟩;have:=h1.in x hx;obtain⟨s,v,q⟩:=PatS.in o y u;have:=(bo.mp nr.2).1 s v;lia
def CanP(S:Int->Prop)(ps:qB):Prop:=∃rs,NR rs/\(∀x,mR x rs↔S x)/\PatS rs ps
theorem CanP.mem{S:Int->Prop}{ps:qB}(h:CanP S ps)(x:Int):mB x ps↔S x:=by obtain⟨rs,h1,o,l⟩:=h;rw[l.mem,o]
theorem CanP.ptc{S:Int->Prop}{ps:qB}{bits:Int}(v:0<=bits)(h:CanP S ps)(w:∀x,S x->0<=x/\x<2 ^ bits.toNat):Ptc bits ps:=by obtain⟨rs,h1,u,o⟩:=h;refine⟨o.blk v fun r l=>?_,o.pw h1⟩;have lt:=h1.1 r l;have a:=w r.1 ((u _).mp ⟨r,l,aV _,lt⟩);have b:=w (r.2 - 1) ((u _).mp ⟨r,l,by lia,by lia⟩);lia
section
variable{X:Cx}{a:bg}{da:DTE}{ρ:En}{n:Nat}{R:qN}
theorem zkg:MtR X "int.bit_length" (fun x xs H Q=>∃i,x=.int i/\xs=[]/\Q (.int (fZ i)) H):=by intro pins s σ H x xs v o Q I l rs h;obtain⟨i,rfl,rfl,q⟩:=h;obtain⟨t,rfl⟩:=l;cases rs;exact call_int_bit_length ⟨.int _,H,I.tok _,⟨_,rfl⟩,q⟩
def zlj(d:DTE):DTE:=fun ρ n R=>d ρ n fun t l=>lInt t fun i=>R (.int (fZ i)) l
theorem zf2{p2 o:Pos}(h:DL X a da)(L:attributeBase a "bit_length" X.env (eval a X.env)=eval a X.env:=by rfl) (y:(p2.endLine == o.line)=true:=by rfl):DE X (.Call (.Attribute a "bit_length" p2) [] [] o) (zlj da):=by
 obtain⟨U,pa,h⟩:=h;refine⟨_,znf PySem.F.plainAttrs_int slot_int_bit_length type_int_bit_length zkg pa L y,fun C ρ σ H n Q R S hd G=>?_⟩;refine h C ρ σ H n _ _ S hd fun t N v J r I h1 x=>?_;cases t with
 | int i =>rw[x.intI];exact⟨rfl,i,rfl,rfl,G _ N _ J r I h1 (.int _)⟩
 | _=>exact r.elim
instance zsE:Stp (zlj da ρ n R) (da ρ n fun t n1=>lInt t fun i=>R (.int (fZ i)) n1):=⟨fun h=>h⟩
end
theorem zdO{i:Int}(h:0<i):(fZ i:Int) - 1=(i.toNat.log2:Int):=by
 unfold fZ;have:(i == 0)=false:=by simp;lia
 rw[this];have e:i.natAbs=i.toNat:=by lia
 rw[e];simp
theorem zkr{i:Int}(h:0<i):(2:Int) ^ i.toNat.log2<=i:=by
 have:=Nat.log2_self_le (n:=i.toNat) (by lia);have e:((2 ^ i.toNat.log2:Nat):Int)=(2:Int) ^ i.toNat.log2:=by rw[gF];rfl
 lia
theorem zkn{i:Int}(h:0<i):i<(2:Int) ^ (i.toNat.log2+1):=by
 have:=Nat.lt_log2_self (n:=i.toNat);have e:((2 ^ (i.toNat.log2+1):Nat):Int)=(2:Int) ^ (i.toNat.log2+1):=by rw[gF];rfl
 lia
theorem zkv(t:Nat):∀x:Nat,x % 2 ^ t=0->¬x % 2 ^ (t+1)=0->x - (x &&& (x - 1))=2 ^ t:=by
 induction t with
 | zero =>
  intro x _ h;have v:x % 2=1:=by
   have:¬x % 2=0:=by simpa using h
   lia
  have e:x &&& (x - 1)=x - 1:=by
   apply oX;intro i;rw[oh];cases i with
   | zero =>
    have:(x - 1).testBit 0=false:=by rw[nA];simp;lia
    rw[this,Bool.and_false]
   | succ i =>
    have:x / 2=(x - 1) / 2:=by lia
    rw[gZ,gZ,this,Bool.and_self]
  rw[e];simp;lia
 | succ t l =>
  intro x h1 u;have ev:x % 2=0:=by have:2∣2 ^ (t+1):=⟨2 ^ t,by rw[ly,rR]⟩;exact iQ (Nat.dvd_trans this (iR h1))
  have hx:x=2*(x / 2):=by lia
  have o:(x / 2) % 2 ^ t=0:=by
   obtain⟨q,e⟩:=iR h1;apply iQ;refine⟨q,?_⟩;rw[ly]at e;have:x=2*(2 ^ t*q):=by rw[e];rw[rR (2 ^ t) 2,vq]
   lia
  have p2:¬(x / 2) % 2 ^ (t+1)=0:=fun z=>by obtain⟨q,e⟩:=iR z;apply u;apply iQ;refine⟨q,?_⟩;rw[ly,rR (2 ^ (t+1)) 2,vq,<- e];exact hx
  have:=l (x / 2) o p2;have e:x &&& (x - 1)=2*(x / 2 &&& (x / 2 - 1)):=by
   apply oX;intro i;rw[oh];cases i with
   | zero =>
    have a:x.testBit 0=false:=by rw[nA];simp;lia
    rw[a,lG,nA];simp
   | succ i =>
    have y:0<x / 2:=by rcases lW (x / 2) with z|z;rw[z]at p2;simp at p2;exact z
    have b:(x - 1) / 2=x / 2 - 1:=by lia
    rw[gZ,gZ,gZ,b,Nat.mul_div_cancel_left _ (by decide:0<2),oh]
  rw[e,ly];have le:(x / 2 &&& (x / 2 - 1))<=x / 2:=tF;lia
theorem zpl{b:Int}(h:0<b){t:Nat}(h1:b % 2 ^ t=0)(u:¬b % 2 ^ (t+1)=0):gP b (-b)=2 ^ t:=by
 have e:gP b (-b)=b - ((b.toNat &&& (b.toNat - 1):Nat):Int):=by
  have h0:decide (0<=b)=true:=decide_eq_true (by lia);have l:decide (0<=-b)=false:=decide_eq_false (by lia);show(match decide (0<=b),decide (0<=-b) with
   | true,true=>((b.toNat &&& (-b).toNat:Nat):Int)
   | true,false=>b - ((b.toNat &&& (gn (-b)).toNat:Nat):Int)
   | false,true=>(-b) - (((-b).toNat &&& (gn b).toNat:Nat):Int)
   | false,false=>gn (((gn b).toNat|||(gn (-b)).toNat:Nat):Int))=_
  rw[h0,l];have:(gn (-b)).toNat=b.toNat - 1:=by
   have:gn (-b)=b - 1:=by show -(-b) - 1=b - 1;lia
   rw[this];lia
  rw[this]
 have cast:∀k:Nat,b % (2:Int) ^ k=((b.toNat % 2 ^ k:Nat):Int):=fun k=>by rw[Int.natCast_emod,gF,Int.toNat_of_nonneg (by lia)];rfl
 rw[cast]at h1 u;have:=zkv t b.toNat (by lia) (by lia);have le:(b.toNat &&& (b.toNat - 1))<=b.toNat:=tF;rw[e];have v:((2 ^ t:Nat):Int)=(2:Int) ^ t:=by rw[gF];rfl
 lia
theorem zsH{b:Int}(h:0<b):∃t:Nat,b % 2 ^ t=0/\¬b % 2 ^ (t+1)=0:=by obtain⟨g,G⟩:=zhU (lo:=b) (hi:=b+b+1) (by lia);refine⟨g,G.1,fun z=>?_⟩;have d:=bu z;have:=Int.le_of_dvd h d;exact G.2.2 ⟨z,by lia⟩
theorem zhO{xs:qD}{x:ah}:ixN (xs++[x]).length (-1)=some xs.length:=by unfold ixN;simp;lia
theorem zmz{xs:qD}{x:ah}{Q:ah->Prop}(h:Q x):oIx (.list (xs++[x])) (.int (-1)) Q:=by
 have e:atI (xs++[x]) (-1)=some x:=by unfold atI;rw[zhO];simp
 rw[zqM e];exact h
end L2
namespace Bd
open PySem L2
abbrev Deal:=Int×List ((Int×Int)×Str)×List ((Int×Int)×Str)
end Bd
namespace L2
open PySem PySem.Spec PyProof.Rows
section
variable{X:Cx}{tg iter:bg}{d:DTE}
def iSeq(K:qF)(o:TE):TI:=fun σ H R=>o σ H fun x l=>∃a,x=.ref a/\(((∃xs,SqL K l a xs)/\R (Itl K a) l)\/((∃xs,SqT K l a xs)/\R (Itt K a) l))
theorem zql{l:bg}{J:TE}(N:PE X l J):PI X tg l (iSeq X.K J):=by
 intro pins s σ H R I h;refine thn (N pins s σ H _ I h) fun v s1 ⟨x,L,u,U,y⟩=>?_;obtain⟨a,e,y⟩:=y;subst e;cases U;rcases y with⟨⟨xs,G⟩,q⟩|⟨⟨xs,G⟩,q⟩;obtain⟨its,S,p,hz⟩:=u.list G;refine gJ p.isList ?_;refine⟨s1.heap.objs.size,[s1.heap.objs.size],_,_,L,rfl,u.kept (t':=s1.toks) fun b o e=>ag _ e,zfb a _,⟨_,ax _ rfl,rfl,rfl⟩,fun b C=>?_,q⟩;have e:b=s1.heap.objs.size:=by simpa using C
 subst e;exact u.fpOk (aD _) (u.hok.fresh (aD _));obtain⟨its,S,p,hz⟩:=u.tuple G;refine ik (show s1.heap.IsTuple a its.toArray from p) ?_;refine⟨s1.heap.objs.size,[s1.heap.objs.size],_,_,L,rfl,u.kept (t':=s1.toks) fun b o e=>ag _ e,zeb a _,⟨_,ax _ rfl,rfl,rfl⟩,fun b C=>?_,q⟩;have e:b=s1.heap.objs.size:=by simpa using C
 subst e;exact u.fpOk (aD _) (u.hok.fresh (aD _))
def dItA(d:DTE):DTA:=fun o n R=>d o n fun t l=>JG t fun ts=>R ts l
theorem znx(h:DE X iter d):DI X tg iter (dItA d):=by
 obtain⟨J,pa,h⟩:=h;refine⟨_,zql pa,fun C G σ H n Q R S hd o=>?_⟩;refine h C G σ H n _ _ S hd fun t u v H' r x y q=>?_;cases t with
 | tuple ts =>obtain⟨p,vs,rfl,h1,it⟩:=znm (P:=fun a=>¬Own C G σ a) (fun _ z=>z) q;exact⟨p,rfl,.inr ⟨⟨vs,h1⟩,o ts u _ H' r x y it⟩⟩
 | list ts =>obtain⟨p,vs,rfl,h1,no,I⟩:=q.lstI;exact⟨p,rfl,.inl ⟨⟨vs,SqL.of h1⟩,o ts u _ H' r x y (zkF h1 no (fun _ z=>z) I)⟩⟩
 | _=>exact r.elim
end
section
variable{ρ:En}{n:Nat}{d:DTE}{Rl:List ah->Nat->Prop}
instance zup:Stp (dItA d ρ n Rl) (d ρ n fun t n'=>JG t fun ts=>Rl ts n'):=⟨fun h=>h⟩
end
theorem Q8{bits:Int}{p q:Int×Int}(P:IsBk bits p.1 p.2)(Q:IsBk bits q.1 q.2){x:Int}(u:p.1<=x/\x<eB p)(o:q.1<=x/\x<eB q):(p.1<=q.1/\eB q<=eB p/\q.2<=p.2)\/(q.1<=p.1/\eB p<=eB q/\p.2<=q.2):=by unfold eB at *;rcases wy q.2.toNat p.2.toNat with l|l;rcases zgh P.n Q.n l with z|z|z;left;have:=(zkM P.n Q.n).mp z;have:=P.1;have:=Q.1;lia;lia;lia;rcases zgh Q.n P.n l with z|z|z;right;have:=(zkM Q.n P.n).mp z;have:=P.1;have:=Q.1;lia;lia;lia
theorem Zm{bits i h:Int}(B:IsBk bits i h):i % 2 ^ h.toNat=0:=by obtain⟨_,_,k,_,rfl,_⟩:=B;exact Int.mul_emod_left _ _
theorem Jh.great:∀{bs:qB}{lo hi:Int},Jh lo hi bs->∀b∈bs,Qn b.1 hi b.2.toNat/\lo<=b.1
 | [],_,_,_=>fun b u=>nomatch u
 | b::r,lo,hi,h=>by obtain⟨h1,o,x,v,l⟩:=h;have p:=Bd.Qt b.2.toNat;intro c hc;rcases au.mp hc with rfl|hc;rw[o];exact⟨v,aV _⟩;have:=Jh.great l c hc;exact⟨this.1,by lia⟩
theorem Jh.max{bits:Int}(U:0<=bits){bs:qB}{lo hi:Int}(S:Jh lo hi bs)(l0:0<=lo)(l1:hi<=2 ^ bits.toNat){p q:Int×Int}(y:p∈bs)(Q:IsBk bits q.1 q.2)(w:lo<=q.1/\eB q<=hi)(i:q.1<=p.1/\eB p<=eB q):q=p:=by
 have B:=S.blk U l0 l1;have P:=B p y;have pp:=Bd.Qt p.2.toNat;have pq:=Bd.Qt q.2.toNat;have nest:=Q8 P Q (x:=p.1) ⟨aV _,by unfold eB;lia⟩ ⟨i.1,by unfold eB at *;lia⟩;have hle:p.2<=q.2:=by
  rcases nest with⟨a,b,c⟩|⟨a,b,c⟩;have u:p.1=q.1:=by lia
  have I:eB p=eB q:=by lia
  unfold eB at I;rcases gY q.2 p.2 with z|z;have p0:=P.1;have q0:=Q.1;have:=J9 (show q.2.toNat+1<=p.2.toNat by lia);rw[bM]at this;lia;exact z;exact c
 have p0:=P.1;have q0:=Q.1;by_cases e:p.2=q.2;have u:(2:Int) ^ p.2.toNat=2 ^ q.2.toNat:=by rw[e]
 have:q.1=p.1:=by unfold eB at *;lia
 exact fJ this e.symm;exfalso;have v:p.2.toNat+1<=q.2.toNat:=by lia
 have dq:=Zm Q;have L:=Uc v dq;have G:=(S.great p y).1;by_cases ev:p.1 % 2 ^ (p.2.toNat+1)=0;apply G.2.2;refine⟨ev,?_⟩;obtain⟨a,l⟩:=bu ev;have de:eB q % 2 ^ (p.2.toNat+1)=0:=by unfold eB;rw[rQ,L,dU (zcH v)];simp
 obtain⟨c,J⟩:=bu de;have lt:p.1<eB q:=by have:=i.2;unfold eB at *;lia
 rw[l,J]at lt;have pos:=Bd.Qt (p.2.toNat+1);have ac:a<c:=mo lt (by lia);have:=dD (show a+1<=c by lia) (show(0:Int)<=2 ^ (p.2.toNat+1) by lia);rw[sW,mD,<- l,<- J]at this;lia;have LG:(p.1 - 2 ^ p.2.toNat) % 2 ^ (p.2.toNat+1)=0:=by
  obtain⟨k,ek⟩:=bu (Zm P);have I:(2:Int) ^ (p.2.toNat+1)=2 ^ p.2.toNat*2:=bM _ _;rw[I]at ev ⊢;have odd:k % 2=1:=by rcases tE k with z|z;exfalso;obtain⟨t,et⟩:=bu z;apply ev;apply dU;exact⟨t,by rw[ek,et,fe]⟩;exact z
  apply dU;refine⟨(k - 1) / 2,?_⟩;have:k - 1=2*((k - 1) / 2):=by lia
  rw[ek,fe,<- this,Int.mul_sub,mD]
 have lowq:q.1<=p.1 - 2 ^ p.2.toNat:=by
  obtain⟨a,l⟩:=bu LG;obtain⟨c,J⟩:=bu L;have pos:=Bd.Qt (p.2.toNat+1);have I:(2:Int) ^ (p.2.toNat+1)=2 ^ p.2.toNat*2:=bM _ _;have lt:q.1<p.1 - 2 ^ p.2.toNat+2 ^ (p.2.toNat+1):=by lia
  rw[l,J]at lt;have:(2:Int) ^ (p.2.toNat+1)*c<2 ^ (p.2.toNat+1)*(a+1):=by rw[sW,mD];exact lt
  have ca:=mo this (by lia);have:=dD (show c<=a by lia) (show(0:Int)<=2 ^ (p.2.toNat+1) by lia);rw[<- l,<- J]at this;exact this
 obtain⟨c,hc,c1,c2⟩:=(S.mem (p.1 - 2 ^ p.2.toNat)).mpr ⟨by lia,by have:=S.in p y;unfold eB at this;lia⟩;have C:=B c hc;have pc:=Bd.Qt c.2.toNat;have cp:eB c<=p.1:=by obtain⟨Z,h1,rfl⟩:=bh hc;obtain⟨i2,h2,rfl⟩:=bh y;rcases ef Z i2 with z|z|z;exact aZ.mp S.pw Z i2 h1 h2 z;subst z;lia;have:=aZ.mp S.pw i2 Z h2 h1 z;unfold eB at this;lia
 have LB:IsBk bits (p.1 - 2 ^ p.2.toNat) (p.2+1):=by
  have hq1:=Q.2.1;obtain⟨a,l⟩:=bu LG;have u:(p.2+1).toNat=p.2.toNat+1:=by lia
  have pos:=Bd.Qt (p.2.toNat+1);have a0:0<=a:=by rcases gY a 0 with z|z;have:=hG pos z;have:=(Q.bounds U).1;lia;exact z
  refine⟨by lia,by lia,a,a0,by rw[u,l,cQ],?_⟩;have e:(2:Int) ^ bits.toNat=2 ^ (bits - (p.2+1)).toNat*2 ^ (p.2.toNat+1):=by rw[<- kh];congr 1;lia
  have up:a*2 ^ (p.2.toNat+1)<2 ^ (bits - (p.2+1)).toNat*2 ^ (p.2.toNat+1):=by rw[<- e,cQ,<- l];have:=(P.bounds U).2;lia
  exact lV up (by lia)
 have u:(p.2+1).toNat=p.2.toNat+1:=by lia
 have n3:=Q8 (p:=c) (q:=(p.1 - 2 ^ p.2.toNat,p.2+1)) C LB (x:=p.1 - 2 ^ p.2.toNat) ⟨c1,c2⟩ ⟨aV _,by show _<_+2 ^ (p.2+1).toNat;have:=Bd.Qt (p.2+1).toNat;lia⟩;have eL:eB (p.1 - 2 ^ p.2.toNat,p.2+1)=p.1+2 ^ p.2.toNat:=by show p.1 - 2 ^ p.2.toNat+2 ^ (p.2+1).toNat=_;rw[u,bM];lia
 rcases n3 with⟨Y,z2,R⟩|⟨Y,z2,R⟩;lia;have Y:p.1 - 2 ^ p.2.toNat<=c.1:=Y;have R:c.2<=p.2+1:=R;have cb:c.1=p.1 - 2 ^ p.2.toNat:=by lia
 have c0:=C.1;have ch:c.2<=p.2:=by
  rcases gY p.2 c.2 with z|z;have:c.2=p.2+1:=by lia
  unfold eB at cp;rw[this,u,bM]at cp;lia;exact z
 have Gc:=(S.great c hc).1;apply Gc.2.2;refine⟨?_,?_⟩;rw[cb];exact Uc (show c.2.toNat+1<=p.2.toNat+1 by lia) LG;have:=J9 (show c.2.toNat+1<=p.2.toNat+1 by lia);have I:(2:Int) ^ (p.2.toNat+1)=2 ^ p.2.toNat*2:=bM _ _;have:=S.in p y;unfold eB at this;lia
theorem NR.one{rs:List Run}(l:NR rs){a b:Int}(h:a<b)(w:∀x,a<=x->x<b->mR x rs):∃r∈rs,r.1<=a/\b<=r.2:=by obtain⟨r,o,h1,C⟩:=w a (aV _) h;refine⟨r,o,h1,?_⟩;rcases gY r.2 b with z|z;exfalso;obtain⟨s,v,L,I⟩:=w r.2 (by lia) z;obtain⟨i,hi,rfl⟩:=bh o;obtain⟨j,u,rfl⟩:=bh v;have J:=l.1 _ o;have G:=l.1 _ v;rcases ef i j with y|y|y;have:=aZ.mp l.2 i j hi u y;lia;subst y;lia;have:=aZ.mp l.2 j i u hi y;lia;exact z
theorem PatS.from:∀{rs:List Run}{ps:qB},PatS rs ps->∀p∈ps,∃r∈rs,∃bs,Jh r.1 r.2 bs/\p∈bs
 | [],_,h=>by cases(show _=[] from h);exact fun b o=>nomatch o
 | s::rs,_,h=>by obtain⟨a,b,rfl,h1,v⟩:=h;intro p l;rcases aC.mp l with l|l;exact⟨s,by simp,a,h1,l⟩;obtain⟨r,u,bs,B,o⟩:=PatS.from v p l;exact⟨r,by simp[u],bs,B,o⟩
theorem CanP.max{bits:Int}(U:0<=bits){S:Int->Prop}{ps:qB}(h:CanP S ps)(w:∀x,S x->0<=x/\x<2 ^ bits.toNat){p q:Int×Int}(J:p∈ps)(Q:IsBk bits q.1 q.2)(R:∀x,q.1<=x->x<eB q->S x)(i:q.1<=p.1/\eB p<=eB q):q=p:=by
 obtain⟨rs,l,me,P⟩:=h;obtain⟨r,u,bs,B,I⟩:=P.from p J;have lt:=l.1 r u;have N:=w r.1 ((me _).mp ⟨r,u,aV _,lt⟩);have Y:=w (r.2 - 1) ((me _).mp ⟨r,u,by lia,by lia⟩);have pin:=B.in p I;have pp:=J7 p;obtain⟨s,L,s1,s2⟩:=l.one (a:=q.1) (b:=eB q) (J7 q) fun x h1 o=>(me x).mpr (R x h1 o);have G:r=s:=by obtain⟨v,h1,rfl⟩:=bh u;obtain⟨C,o,rfl⟩:=bh L;rcases ef v C with y|y|y;have:=aZ.mp l.2 v C h1 o y;lia;subst y;rfl;have:=aZ.mp l.2 C v o h1 y;lia
 subst G;exact B.max U N.1 (by lia) I Q ⟨s1,s2⟩ i
theorem zfH:∀{ps bs:qB},(ps.Pairwise fun a b=>eB a<=b.1)->(∀p∈ps,∃b∈bs,p.1<=b.1/\b.1<eB p)->ps.length<=bs.length
 | [],_,_,_=>cw _
 | p::ps,bs,pw,h=>by
  obtain⟨b,u,y,C⟩:=h p (by simp);have l:=bo.mp pw;have:=zfH (ps:=ps) (bs:=bs.erase b) l.2 fun q o=>by obtain⟨c,hc,x,v⟩:=h q (by simp[o]);refine⟨c,(oY ?_).mpr hc,x,v⟩;rintro rfl;have:=l.1 q o;lia
  have e:=mW u;have:=nV u;rw[aL];lia
theorem CanP.le{bits:Int}(C:0<=bits){bs ps:qB}(B:Bks bits bs)(h:CanP (fun x=>mB x bs) ps):ps.length<=bs.length:=by
 have w:∀x,mB x bs->0<=x/\x<2 ^ bits.toNat:=fun x ⟨b,l,h1,v⟩=>by have:=(B b l).bounds C;unfold eB at v;lia
 have P:=h.ptc C w;refine zfH P.2 fun p y=>?_;have pp:=J7 p;obtain⟨b,l,h1,v⟩:=(h.mem p.1).mp ⟨p,y,aV _,pp⟩;rcases Q8 (P.1 p y) (B b l) (x:=p.1) ⟨aV _,pp⟩ ⟨h1,v⟩ with z|z;exact⟨b,l,z.1,by have:=J7 b;lia⟩;have:=h.max C w y (B b l) (fun x G I=>⟨b,l,G,I⟩) ⟨z.1,z.2.1⟩;subst this;exact⟨b,l,aV _,pp⟩
end L2
namespace L2
open PySem Bd
theorem zpq{bits i h:Int}(B:IsBk bits i h)(y:h<bits):IsBk bits (i / 2 ^ (h+1).toNat*2 ^ (h+1).toNat) (h+1)/\i / 2 ^ (h+1).toNat*2 ^ (h+1).toNat<=i/\i+2 ^ h.toNat<=i / 2 ^ (h+1).toNat*2 ^ (h+1).toNat+2 ^ (h+1).toNat:=by
 have h0:=B.1;have e:(h+1).toNat=h.toNat+1:=by lia
 have l:(2:Int) ^ (h+1).toNat=2*2 ^ h.toNat:=by rw[e,bM,cQ]
 have a:=B.abt y;have p:=Qt h.toNat;have u:=Zm B;have v:i / 2 ^ (h+1).toNat*2 ^ (h+1).toNat=i - i % (2*2 ^ h.toNat):=by rw[l];have:=Int.mul_ediv_add_emod i (2*2 ^ h.toNat);rw[cQ]at this;lia
 rw[v,l];refine⟨a,?_,?_⟩;have:=ie i (show(2*2 ^ h.toNat:Int)≠0 by lia);lia;generalize (2:Int) ^ h.toNat=P at *;have m:=gA i (show(0:Int)<2*P by lia);have x:P∣i:=bu u;have C:P∣i % (2*P):=by rw[Int.emod_def];exact Int.dvd_sub x (vp ⟨2,by lia⟩ (Int.dvd_mul_right _ _))
 obtain⟨c,hc⟩:=C;have:c<2:=by by_cases z:c<2;exact z;have:=dD (show(2:Int)<=c by lia) (cP p);lia
 have:P*c<=P*1:=dD (by lia) (cP p);lia
theorem CanP.nohalf{bits:Int}(u:0<=bits){S:Int->Prop}{ps:qB}(h:CanP S ps)(w:∀x,S x->0<=x/\x<2 ^ bits.toNat):∀q∈ps.zip ps.tail,¬(cY q.1.1 (2 ^ q.1.2.toNat)=q.2.1/\q.1.2=q.2.2):=by
 rintro⟨⟨i,g⟩,⟨j,k⟩⟩ C ⟨I,l⟩;dsimp only at I l;subst l;have P:=h.ptc u w;have ch:eB (i,g)<=j:=(zmX (bits:=bits)).mpr P.2 _ C;have v:=(cS C).1;have J:(j,g)∈ps:=List.mem_of_mem_tail (cS C).2;have A:IsBk bits i g:=P.1 _ v;have B:IsBk bits j g:=P.1 _ J;have x4:=A.x4;have p:=Qt g.toNat;unfold eB at ch;dsimp only at ch;rw[I]at x4;have ev:i / 2 ^ g.toNat % 2=0:=by by_cases z:i / 2 ^ g.toNat % 2=0;exact z;rw[if_neg z]at x4;lia
 rw[if_pos ev]at x4;have g0:0<=g:=A.1;have Y:=A.bounds u;have bB:=B.bounds u;have gl:g<bits:=by
  by_cases z:g<bits;exact z;have:g=bits:=by have:=A.2.1;lia
  subst this;lia
 obtain⟨Q,L,R⟩:=zpq A gl;have e:(g+1).toNat=g.toNat+1:=by lia
 have l:(2:Int) ^ (g+1).toNat=2*2 ^ g.toNat:=by rw[e,bM,cQ]
 have Z:=Zm A;have fl:i / 2 ^ (g+1).toNat*2 ^ (g+1).toNat=i:=by
  have U:i % (2*2 ^ g.toNat)=0:=by obtain⟨_,_,k,_,rfl,_⟩:=A;rw[kT _ (by lia)]at ev;rw[zhC _ p,ev,Int.zero_mul]
  rw[l];exact Int.ediv_mul_cancel_of_emod_eq_zero U
 rw[fl]at Q L R;have mx:=h.max u w v (q:=(i,g+1)) Q (fun x G y=>by unfold eB at y;dsimp only at G y;rw[l]at y;by_cases z:x<i+2 ^ g.toNat;exact(h.mem x).mp ⟨_,v,G,z⟩;exact(h.mem x).mp ⟨_,J,by dsimp only;lia,by unfold eB;dsimp only;lia⟩) ⟨aV _,by unfold eB;dsimp only;rw[l];lia⟩;have:=congrArg Prod.snd mx;dsimp only at this;lia
variable{as bs cs:List Run}{a b:Nat}
end L2
namespace L2
open PySem PySem.Spec PyProof.Rows
theorem ztt{P:aJ}{w:a7}{k:Key}{u:af}(r:RelV (kV k) u):(Ju P w).is k u=true:=by
 cases k with
 | inl i=>obtain⟨t,e⟩:=(show ∃t,u=iY i t from r);subst e;exact zgG P w i t
 | inr x=>obtain⟨t,e⟩:=(show ∃t,u=sr x t from r);subst e;exact zgF P w x t
theorem zfO{P:aJ}{w:a7}:∀{u:List Key}{v:List af},Vals (u.map kV) v->ItemsAre (Ju P w) u v
 | [],_,r=>by rw[gx]at r;cases r;exact .nil
 | k::u,_,r=>by
  rw[bp]at r;cases r with
  | cons h t=>exact .cons (ztt h) (zfO t)
abbrev KT(H:Hp):List (List Key×V)->List (List Key×aj×af)->Prop:=bR fun p q=>p.1=q.1/\H q.2.1=some (.tup (p.1.map kV))/\RelV p.2 q.2.2
section
variable{X:Cx}{pins:qO}{σ:St}{H:Hp}{s:aq}{a:aj}{y v:V}{u r:af}{o:Option V}{A:aX}{E:qV}
theorem Inv.big(I:Inv X pins σ H s):sysModules<s.heap.objs.size:=by have h:mainGlobals<s.heap.objs.size:=(I.mod.glob.keeps I.bk).lt;exact lA (by decide) h
theorem zlf{h':aW}{t':Nat}{C:HO}(I:Inv X pins σ H s)(L:Mut (H a))(J:cN a s.heap h')(he:∃q,h'.get? a=some q)(new:Jx X.prog X.w (upd H a C) h' a C) :
  Inv X pins σ (upd H a C) { s with heap:=h',toks:=t' } :=
 I.write (x:=a) (e:=a) L (.inl rfl) (fun b q G z=>(J.2 b G).trans z) he new
end
def NoSl(i:bg):Prop:=∀l o,subscripted i false l o=operate [l,o] (getItem l o)
theorem znK{prog:aJ}{w:a7}{A:aX}{E:qV}{s:aq}{env:Env}{value slice:bg}{pos:Pos}{T id:String}{Q:qV}
  (U:typeLookup (.type T) "__getitem__" = pure (some (.builtin id))) (R:NoSl slice)
  (h:wpAny (model prog w) A (eval value env) (fun o I=>wpAny (model prog w) A (eval slice env) (fun i v=>v.TypeIs o T/\wpAny (model prog w) A (getItem o i) Q E v) E I) E s) :
  wpAny (model prog w) A (eval (.Subscript value slice pos) env) Q E s:=by
 refine tR (cA h (fun o I J=>cA J (fun i v C=>?_) fun _ _ x=>x) fun _ _ x=>x);obtain⟨N,C⟩:=C;unfold subscriptTail;refine aa ?_;rw[getitemInPython_of_ne N.not_modules];refine aa (tG N U ?_);have fin:wpAny (model prog w) A (subscripted slice false o i) (fun r G=>wpAny (model prog w) A (letTemporaryGo value o r >>= fun _=>pure r) Q E G) E v:=by rw[R o i];exact wpAny_operating (cA C (fun r G L=>aa (wpAny_letTemporaryGo (ae L))) fun _ _ x=>x)
 first
  | exact ae (aa fin)
  | exact aa (ae (aa fin))
  | exact aa fin
end L2
namespace L2
open PySem PySem.Spec PyProof PyProof.Rows
abbrev KD:=List (Key×ah)
section
variable{D:JL}{ρ ρ':En}{n i j:Nat}{d dk dv:DTE}{R:qN}{ks:KD}
instance{ks:KD}:CapC (some (.dct ks)) (some (.rdo ks)):=⟨rfl⟩
instance{ks:KD}:CapC (some (.rdo ks)) (some (.rdo ks)):=⟨rfl⟩
end
theorem zb6:entryFor table "dict.update.loop" = some dh.«dict.update.loop»:=by kernel_rfl
theorem ziR:typeLookup (.type "tuple") "keys" = pure none:=by rw[kO,gH];kernel_rfl
theorem zmI:typeLookup (.type "tuple") "__getattr__" = pure none:=by rw[kO,gH];kernel_rfl
section
variable{prog:aJ}{w:a7}{A:aX}{E:qV}{Ky:Type}[DecidableEq Ky]{knd:pG prog w Ky}
def KpH(d it:aj)(h h':aW):Prop:=∀b o,b≠d->b≠it->h.get? b=some o->h'.get? b=some o
end
def rkI:af->Int
 | .int i _=>i
 | _=>0
section
variable{prog:aJ}{w:a7}{A:aX}{E:qV}{s:aq}{Ky:Type}[DecidableEq Ky]{knd:pG prog w Ky}
theorem zhR:∀(vs:List af),(∀v∈vs,∃i t,v=.int i t)->∃ns,fX vs ns
 | [],_=>⟨[],.nil⟩
 | v::vs,h=>by obtain⟨i,t,rfl⟩:=h v (by simp);obtain⟨ns,r⟩:=zhR vs fun v u=>h v (by simp[u]);exact⟨i::ns,.cons _ _ r⟩
theorem ziO{vs:List af}(C:∀v∈vs,∃i t,v=.int i t):Kinds prog w A s rkI vs:=fun y=>by
 refine⟨oneType',fun E Q q=>?_,fun p q E Q mp J h=>?_⟩;obtain⟨l,x,rest,rfl⟩:∃l x rest,vs=l::x::rest:=by
  match vs,y with
  | [],y=>simp at y
  | [_],y=>simp at y
  | l::x::rest,_=>exact⟨l,x,rest,rfl⟩
 obtain⟨ns,r⟩:=zhR _ C;rw[keyKind_ints r];exact ae q;have mem:∀z∈(pairsOf vs).toList,z.1∈vs:=fun z hz=>by
  have:z∈vs.zip vs:=by simpa[pairsOf] using hz
  exact(cS this).1
 obtain⟨i,t,I⟩:=C _ (mem p mp);obtain⟨j,u,G⟩:=C _ (mem q J);rw[I,G]at h ⊢;rw[keyLt'_oneType];exact oneLt_int h
end
theorem zfw{α u:Type}{P:α->u->Prop}:∀{l:List α}{m:List u},l.length=m.length->(∀(j:Nat) a b,l[j]?=some a->m[j]?=some b->P a b)->bR P l m
 | [],[],_,_=>.nil
 | a::l,b::m,h,k=>.cons (k 0 a b rfl rfl) (zfw (by simpa using h) fun j a b h1 v=>k (j+1) a b h1 v)
 | [],_::_,h,_=>by simp at h
 | _::_,[],h,_=>by simp at h
theorem zjN{k:Nat}{A:aX}(r:Room k A):A.units+1<cLine:=by have:=r.un;lia
section
variable{X:Cx}{x:Str}{pos p p1:Pos}
theorem zjP{K:qF}{hd:Option aj}{O:aj->Prop}{H:Hp}:∀u:List Int,Reps K hd O H (u.map V.int) (u.map cg)
 | []=>.nil
 | j::u=>.cons (.int _) (zjP u)
end
def MaxP(bits:Int)(S:Int->Prop)(qs:qB):Prop:=Ptc bits qs/\(∀x,mB x qs↔S x)/\∀q∈qs,∀c:Int×Int,IsBk bits c.1 c.2->(∀x,c.1<=x->x<eB c->S x)->c.1<=q.1->eB q<=eB c->c=q
theorem zed{bits:Int}:∀{ps qs:qB},(ps.Pairwise fun a b=>eB a<=b.1)->(qs.Pairwise fun a b=>eB a<=b.1)->(∀p,p∈ps↔p∈qs)->ps=qs
 | [],[],_,_,_=>rfl
 | [],q::qs,_,_,e=>by have:=(e q).mpr (by simp);simp at this
 | p::ps,[],_,_,e=>by have:=(e p).mp (by simp);simp at this
 | p::ps,q::qs,h,k,e=>by
  have h1:=bo.mp h;have o:=bo.mp k;have pp:=J7 p;have u:=J7 q;have l:p=q:=by rcases au.mp ((e p).mp (by simp)) with z|z;exact z;rcases au.mp ((e q).mpr (by simp)) with y|y;exact y.symm;have a:=h1.1 q y;have b:=o.1 p z;lia
  subst l;rw[zed (bits:=bits) h1.2 o.2 fun r=>?_];constructor;intro z;rcases au.mp ((e r).mp (by simp[z])) with y|y;subst y;have:=h1.1 r z;lia;exact y;intro z;rcases au.mp ((e r).mpr (by simp[z])) with y|y;subst y;have:=o.1 r z;lia;exact y
theorem MaxP.eq{bits:Int}(G:0<=bits){S T:Int->Prop}{ps qs:qB}(h:CanP T ps)(k:MaxP bits S qs)(e:∀x,S x↔T x)(w:∀x,S x->0<=x/\x<2 ^ bits.toNat):ps=qs:=by have I:∀x,T x->0<=x/\x<2 ^ bits.toNat:=fun x hx=>w x ((e x).mpr hx);have P:=h.ptc G I;obtain⟨Q,me,mx⟩:=k;have inS:∀p∈ps,∀x,p.1<=x->x<eB p->S x:=fun p o x h1 C=>(e x).mpr ((h.mem x).mp ⟨p,o,h1,C⟩);have u:∀q∈qs,∀x,q.1<=x->x<eB q->T x:=fun q l x h1 C=>(e x).mp ((me x).mp ⟨q,l,h1,C⟩);refine zed (bits:=bits) P.2 Q.2 fun p=>⟨fun o=>?_,fun o=>?_⟩;obtain⟨q,l,v,y⟩:=(me p.1).mpr (inS p o p.1 (aV _) (J7 p));rcases Q8 (P.1 p o) (Q.1 q l) (x:=p.1) ⟨aV _,J7 p⟩ ⟨v,y⟩ with⟨a,b,_⟩|⟨a,b,_⟩;have:=mx q l p (P.1 p o) (inS p o) a b;rw[this];exact l;have:=h.max G I o (Q.1 q l) (u q l) ⟨a,b⟩;rw[<- this];exact l;obtain⟨q,l,v,y⟩:=(h.mem p.1).mpr (u p o p.1 (aV _) (J7 p));rcases Q8 (P.1 q l) (Q.1 p o) (x:=p.1) ⟨v,y⟩ ⟨aV _,J7 p⟩ with⟨a,b,_⟩|⟨a,b,_⟩;have:=mx p o q (P.1 q l) (inS q l) a b;rw[<- this];exact l;have:=h.max G I l (Q.1 p o) (u p o) ⟨a,b⟩;rw[this];exact l
theorem zr0{bits:Int}(y:0<=bits){bs:qB}(B:Bks bits bs){x:Int}(h:mB x bs):0<=x/\x<2 ^ bits.toNat:=by obtain⟨b,v,h1,l⟩:=h;have:=(B b v).bounds y;unfold eB at l;lia
theorem ztq{bits:Int}(v:0<=bits)(u:bits<=64){S:Int->Prop}{rs:qB}(o:NR rs)(e:∀x,mR x rs↔S x)(w:∀x,S x->0<=x/\x<2 ^ bits.toNat):∀r∈rs,0<=r.1/\r.1<=r.2/\r.2<=2 ^ 64:=fun r l=>by have lt:=o.1 r l;have a:=w r.1 ((e _).mp ⟨r,l,aV _,lt⟩);have b:=w (r.2 - 1) ((e _).mp ⟨r,l,by lia,by lia⟩);have:=Bd.zhu (k:=bits.toNat) (by lia);lia
section
variable{prog:aJ}{w:a7}{A:aX}{E:qV}{s:aq}
theorem zd7{a:aj}{o:Obj}{u:Tok}{P:Fin->aq->Prop}(v:s.heap.get? a=some o)(hc:o.cls=.type "tuple") (l:∃its n,o.data=.seq its n) (hd:o.dict=none) (C:A.handled=none)
  (h:∀h' tk e,oj s.heap h' e (.ref a) "keys" -> E (.ref e) { s with heap:=h',toks:=tk }):wpAny (model prog w) A (dh.«object.__getattribute__» ⟨[.ref a,.str "keys" u],[]⟩) P E s:=by
 obtain⟨x,g,d,tk,os⟩:=s;have I:∀(t:Nat),pM ⟨x,g,d,t,os⟩ (.ref a) "tuple":=fun _=>⟨o,v,hc⟩;have G:=ziR;unfold dh.«object.__getattribute__»
 repeat (any_goals (first|assumption|wp_step))
 rw[hc,G]
 repeat (any_goals (first|assumption|wp_step))
 obtain⟨its,n,l⟩:=l;rw[l];dsimp only;unfold instanceDict
 repeat (any_goals (first|assumption|wp_step))
 rw[hd]
 repeat (any_goals (first|assumption|wp_step))
 simp only[hc,gT,Bool.true_or,if_true]
 repeat (any_goals (first|assumption|wp_step))
 rw[hc];dsimp only
 repeat (any_goals (first|assumption|wp_step))
 exact wpAny_raiseAttrError C h (attrMsg_fits (by decide +kernel) (by size_fits))
theorem zdJ{a:aj}{o:Obj}{u:Tok}{R:kD->aq->Prop}(v:s.heap.get? a=some o)(hc:o.cls=.type "tuple") (x:∃its n,o.data=.seq its n) (hd:o.dict=none) (C:A.handled=none)
  (h:∀h' tk e,oj s.heap h' e (.ref a) "keys" -> R (.error (.ref e)) { s with heap:=h',toks:=tk }):codeAny (model prog w) A (.call (.builtin "tuple.__getattribute__") ⟨[.ref a,.str "keys" u],[]⟩) R s :=
 codeAny_call_builtin fz.plain F.entry_tuple_ga (fz.check _ _ _ _ _ _ _ _ (show s.TypeIs (.ref a) "tuple" from⟨_,v,hc⟩) (F.args_tuple_getattribute_2 _ _) (zd7 v hc x hd C h))
theorem zeU{a:aj}{o:Obj}{u:Tok}{Q:qV}(l:s.heap.get? a=some o)(hc:o.cls=.type "tuple") (G:∃its n,o.data=.seq its n) (hd:o.dict=none) (x:A.handled=none)
  (h:∀h' tk e,oj s.heap h' e (.ref a) "keys" -> E (.ref e) { s with heap:=h',toks:=tk }):wpAny (model prog w) A (getAttrBy (.ref a) (.str "keys" u) false) Q E s:=by
 obtain⟨v,g,d,tk,os⟩:=s;have J:(⟨v,g,d,tk,os⟩:aq).TypeIs (.ref a) "tuple":=⟨o,l,hc⟩;have f2:=fz.lookup;have N:=fz.bind (.ref a);have f1:=p5;have L:=zmI
 repeat (any_goals (first|assumption|wp_step))
 refine zdJ l hc G hd x fun h' C e hx=>?_;obtain⟨t',R,he⟩:=hx.there
 repeat (any_goals (first|assumption|wp_step))
 exact h _ _ _ hx
theorem zdK{a:aj}{o:Obj}{Q:Option af->aq->Prop}(u:s.heap.get? a=some o)(hc:o.cls=.type "tuple") (C:∃its n,o.data=.seq its n) (hd:o.dict=none) (v:A.handled=none)
  (h:∀h' tk,(∀b l,s.heap.get? b=some l->h'.get? b=some l)->Q none { s with heap:=h',toks:=tk }):wpAny (model prog w) A (getAttr? (.ref a) "keys") Q E s:=by
 unfold getAttr? getAttrBy?;obtain⟨G,g,d,tk,os⟩:=s;have f1:=p5
 repeat (any_goals (first|assumption|(with_reducible refine zeU u hc C hd v fun h' x e hx=>?_)|wp_step))
 obtain⟨t',I,he⟩:=hx.there
 repeat (any_goals (first|assumption|wp_step))
 exact h _ _ hx.keeps
end
section
variable{prog:aJ}{w:a7}{A:aX}{E:qV}
def PrT(prog:aJ)(w:a7)(h:aW)(x:af)(z:List Key×aj×af):Prop:=∃p:aj,x=.ref p/\rh h p #[.ref z.2.1,z.2.2]/\i8 (Ju prog w) h z.1 z.2.1
theorem YI{h:aW}{k:List Key}{a b:aj}{T:String}(r:i8 (Ju prog w) h k a)(v:∃o,h.get? b=some o/\o.cls=.type T)(u:T ≠ "tuple"):a≠b:=by
 rintro rfl;obtain⟨o,_,_,e,c,_⟩:=r;obtain⟨x,l,c'⟩:=v;rw[e]at l;cases l;rw[c]at c';injection c' with c'
 exact u c'.symm
theorem Zj{h h':aW}{k:List Key}{a:aj}(r:i8 (Ju prog w) h k a)(kp:∀o,h.get? a=some o->h'.get? a=some o):i8 (Ju prog w) h' k a:=by obtain⟨o,its,n,e,c⟩:=r;exact⟨o,its,n,kp o e,c⟩
theorem tup_ne{h:aW}{a b:aj}{xs:Array af}{T:String}(r:rh h a xs)(v:∃o,h.get? b=some o/\o.cls=.type T)(u:T ≠ "tuple"):a≠b:=by
 rintro rfl;obtain⟨o,e,c,_⟩:=r;obtain⟨x,l,c'⟩:=v;rw[e]at l;cases l;rw[c]at c';injection c' with c'
 exact u c'.symm
theorem PrT.keep{h h':aW}{x:af}{z:List Key×aj×af}(d it:aj)(hd:∃o,h.get? d=some o/\o.cls=.type "dict") (hi:∃o,h.get? it=some o/\o.cls=.type "tuple_iterator") (r:PrT prog w h x z) (kp:KpH d it h h'):PrT prog w h' x z:=by obtain⟨p,e,l,tk⟩:=r;refine⟨p,e,?_,Zj tk fun o=>kp _ o (YI tk hd (by decide)) (YI tk hi (by decide))⟩;have v:=tup_ne l hd (by decide);have u:=tup_ne l hi (by decide);obtain⟨o,g,c⟩:=l;exact⟨o,kp p o v u g,c⟩
theorem zk2{h h':aW}{d it:aj}{xs:List (List Key×aj×af)}(hd:h.DictOfH (tupleKind (Ju prog w)) d xs)(hi:∃o,h.get? it=some o/\o.cls=.type "tuple_iterator") (kp:∀b o,b≠it->h.get? b=some o->h'.get? b=some o) (u:d≠it):h'.DictOfH (tupleKind (Ju prog w)) d xs:=by obtain⟨o,es,ep,v,hc,hd,he,l,C⟩:=hd;exact⟨o,es,ep,kp d o u v,hc,hd,he,fun x hx=>Zj (l x hx) fun o e=>kp _ o (YI (l x hx) hi (by decide)) e,C⟩
theorem zk3{h:aW}{d:aj}{xs:List (List Key×aj×af)}(hd:h.DictOfH (tupleKind (Ju prog w)) d xs):∃o,h.get? d=some o/\o.cls=.type "dict":=by obtain⟨o,es,ep,l,hc,_⟩:=hd;exact⟨o,l,hc.1⟩
theorem zjn{A:aX}{xs:List af}{kw:List (Str×af)}:(A.under (.builtin "dict.update.loop" ⟨xs,kw⟩)).units=A.units+1:=by first|rfl|simp[Around.under,Code.cUnits,Code.frames,Code.isFrame]
theorem zfa{d it l:aj}{items:Array af}{res:af}(hA:A.handled=none)(hu:A.units+1<cLine)(L:d≠it)(nl:l≠d)(nli:l≠it):∀(ps:List (List Key×aj×af)) (i:Nat) (xs:List (List Key×aj×af)) (s:aq) (t:Tok) {R:kD->aq->Prop},
  s.heap.IsTuple l items->s.heap.IsTupleIter it l i->s.heap.DictOfH (tupleKind (Ju prog w)) d xs->xs.length+ps.length<=sizeLine->((xs++ps).map (·.1)).Nodup->bR (PrT prog w s.heap) (items.toList.drop i) ps ->
  (∀h' tk,KpH d it s.heap h'->h'.DictOfH (tupleKind (Ju prog w)) d (xs++ps)->R (.ok (.ret res)) { s with heap:=h',toks:=tk }) ->
  codeAny (model prog w) A (.builtin "dict.update.loop" ⟨[.ref d,.ref it,.int i t,res],[]⟩) R s
 | [],i,xs,s,t,R,hl,hi,hd,hz,hn,hp,h=>by
  have e:items[i]?=none:=by generalize hq:items.toList.drop i=q at hp;cases hp;have:=List.drop_eq_nil_iff.mp hq;exact gC (by simpa using this)
  refine dJ zb6 ?_;show wpAny _ _ (pyNext (.ref it) >>= _) _ _ s;refine aa (nG hA hi hl e fun h' hx=>?_);show wpAny _ _ (mX d [] >>= fun _=>ret res) _ _ _;unfold mX;rw[lT];rw[df]at h;obtain⟨oi,gi,ci,_⟩:=id hi;exact aa (ae (ae (h h' s.toks (fun b o _ n ho=>hx b o n ho) (zk2 hd ⟨oi,gi,ci⟩ (fun b o n e=>hx b o n e) L))))
 | (k,a,v)::ps,i,xs,s,t,R,hl,hi,hd,hz,hn,hp,h=>by
  generalize hq:items.toList.drop i=q at hp;cases hp with
  | cons r rs =>
   rename_i x xs';have S:∃o,s.heap.get? it=some o/\o.cls=.type "tuple_iterator":=by obtain⟨oi,gi,ci,_⟩:=id hi;exact⟨oi,gi,ci⟩
   obtain⟨p,rfl,tp,ki⟩:=r;have np:=tup_ne tp (zk3 hd) (by decide);have npi:=tup_ne tp S (by decide);obtain⟨o,ho,oc,n,od⟩:=id tp;have U:i<items.toList.length:=by by_cases z:i<items.toList.length;exact z;rw[gy (by lia)]at hq;cases hq
   rw[br U]at hq;obtain⟨e1,e2⟩:=h7 hq;have e:items[i]?=some (.ref p):=by rw[<- e1,<- bP];exact av U
   refine dJ zb6 ?_;show wpAny _ _ (pyNext (.ref it) >>= _) _ _ s;refine aa (mZ hi hl e fun h1 hi1 J=>?_);refine aa (bU ?_);have Z:h1.get? p=some o:=(J.2 p npi).trans ho;have hT:(⟨h1,s.gens,s.drawn,s.toks,s.os⟩:aq).TypeIs (.ref p) "tuple":=⟨o,Z,oc⟩;refine aa (wpAny_tryCatch ?_);unfold wz;refine aa (dY hT ?_);rw[if_pos (by rfl)];refine aa (eX Z od (ae ?_));show wpAny _ _ (holding [.ref a,v] (dictSet d (.ref a) v)) _ _ _;have kp1:KpH d it s.heap h1:=fun b G _ n C=>(J.2 b n).trans C;have hd1:=zk2 hd S (fun b G n C=>(J.2 b n).trans C) L;have ki1:i8 (Ju prog w) h1 k a:=Zj ki fun G C=>(J.2 a (YI ki S (by decide))).trans C;rw[aL]at hz;have kn:k∉xs.map (·.1):=by rw[dM,iS]at hn;exact fun z=>hn.2.2 k z k (by simp) rfl
   have ak:atKey xs k=none:=by unfold atKey;rw[nW,p7];intro x hx z;exact kn (cE.mpr ⟨x,hx,by simpa using z⟩)
   refine bU (wpAny_dictSet_heap (s:=⟨h1,s.gens,s.drawn,s.toks,s.os⟩) (knd:=tupleKind (Ju prog w)) (by show Around.units _<cLine;rw[zjn];exact hu) ki1 hd1 (fun h2 hd2 hs2=>?_) (by lia));have kp2:KpH d it h1 h2:=fun b G n _ C=>(hs2.2 b n).trans C;refine ae ⟨gz _ (by decide +kernel),?_⟩;have kp:KpH d it s.heap h2:=fun b G n1 Y C=>kp2 b G n1 Y (kp1 b G n1 Y C);rw[storedH_new ak]at hd2;refine zfa (items:=items) hA hu L nl nli ps (i+1) (xs++[(k,a,v)]) _ 0 ?_ ?_ hd2 ?_ ?_ ?_ fun h' tk kp' hd'=>?_;obtain⟨ol,hol,r⟩:=hl;exact⟨ol,kp l ol nl nli hol,r⟩;obtain⟨oi,hoi,r⟩:=hi1;exact⟨oi,(hs2.2 it (dW L)).trans hoi,r⟩;rw[aS,eI];lia;rw[aY];exact hn;rw[e2];exact Paired.mapP rs fun _ _ r=>r.keep d it (zk3 hd) S kp;rw[aY]at hd';exact h h' tk (fun b G n1 Y C=>kp' b G n1 Y (kp b G n1 Y C)) hd'
theorem ze3{s:aq}{l:aj}{o:Obj}{its:Array af}{n:Nat}{ps:List (List Key×aj×af)}{Q:qV}(ho:s.heap.get? l=some o)(hc:o.cls=.type "tuple") (Z:o.data=.seq its n) (hd:o.dict=none) (hA:A.handled=none) (hu:A.units+64<cLine)
  (hp:bR (PrT prog w s.heap) its.toList ps) (hz:ps.length<=sizeLine) (hn:(ps.map (·.1)).Nodup)
  (h:∀h' tk,(∀b v,s.heap.get? b=some v->h'.get? b=some v)->h'.DictOfH (tupleKind (Ju prog w)) s.heap.objs.size ps->Q (.ref s.heap.objs.size) { s with heap:=h',toks:=tk }) :
  wpAny (model prog w) A (call (.type "dict") [.ref l]) Q E s:=by
 refine callType_codes (Q₁:=fun obj C=>obj=.ref s.heap.objs.size/\C={ s with heap:=s.heap.push { cls:=.type "dict",data:=.dict #[] } }) F.kt_called_dict (F.kt_typeCall_dict_1 _) F.entry_dict_init (kt_code_dict_new _ ⟨rfl,rfl⟩) ?_;rintro obj C ⟨rfl,rfl⟩;have L8:(s.heap.push { cls:=.type "dict",data:=.dict #[] }).DictOfH (tupleKind (Ju prog w)) s.heap.objs.size []:=sJ s.heap;have I:(s.heap.push { cls:=.type "dict",data:=.dict #[] }).get? l=some o:=ag _ ho;have L:=L8.typeIs (s:={ s with heap:=s.heap.push { cls:=.type "dict",data:=.dict #[] } });refine⟨L,F.args_dict_init_2 _ _,?_⟩;unfold dh.«dict.__init__»;refine aa ?_;unfold vt;refine aa (ou L ?_);show wpAny _ _ (pure (s.heap.objs.size,[aO l])) _ _ _;refine ae ?_;show wpAny _ _ (nB "dict.__init__" s.heap.objs.size (.ref l) [] .none) _ _ _;unfold nB;refine aa (dY (T:="tuple") ⟨o,I,hc⟩ ?_);rw[if_pos (by rfl)];refine aa (zdK I hc ⟨its,n,Z⟩ hd hA fun h1 tk1 k1=>?_);rw[if_pos (show(none:Option af).isNone=true from rfl)];refine aa (b7 ?_);have G:=k1 l o I;have hl1:h1.IsTuple l its:=⟨o,G,hc,n,Z⟩;refine aa (ik hl1 ?_);refine ae ⟨gz _ (by decide +kernel),?_⟩;obtain⟨od,es,ep,R,U⟩:=L8;have L9:=k1 _ od R;have l1:=aw L9;have l2:=aw ho;have l3:=aw G;have S:∀b v,s.heap.get? b=some v->(h1.push { cls:=.type "tuple_iterator",data:=.fields #[.ref l,.int 0 0] }).get? b=some v:=fun b v J=>ag _ (k1 b v (ag _ J));refine zfa (A:=A.in1) (items:=its) (xs:=[]) (i:=0) (ps:=ps) (show A.in1.handled=none from hA) (show A.units+1+1<cLine by lia) (aA l1) (aA l2) (aA l3) _ 0 ?_ ?_ ?_ (by simpa using hz) (by simpa using hn) ?_ fun h' tk kp Y=>?_;exact⟨o,ag _ G,hc,n,Z⟩;exact⟨_,ax _ rfl,rfl,rfl⟩;exact⟨od,es,ep,ag _ L9,U.1,U.2.1,U.2.2.1,by simp,by simp⟩;rw[oM];refine Paired.mapP hp fun x z ⟨p,e,tp,tk⟩=>⟨p,e,?_,Zj tk fun v=>S _ v⟩;obtain⟨v,hob,r⟩:=tp;exact⟨v,S p v hob,r⟩;exact⟨rfl,h h' tk (fun b v J=>kp b v (aA (aw J)) (aA (lA (aw J) l1)) (S b v J)) Y⟩
end
section
variable{X:Cx}
theorem UY{pins:qO}{σ:St}{H:Hp}{s:aq}{b:aj}{k:List Key}(I:Inv X pins σ H s)(h:SqT X.K H b (k.map kV)):i8 (Ju X.prog X.w) s.heap k b:=by obtain⟨its,r,⟨o,e,c,n,d⟩,_⟩:=I.tuple h;exact⟨o,its.toArray,n,e,c,d,by simpa using zfO r⟩
theorem ziA{α l:Type}{F:α->l->Prop}{l₁:List α}{l₂:List l}(r:bR F l₁ l₂){a:α}(h:a∈l₁):∃b∈l₂,F a b:=by
 induction r with
 | nil=>cases h
 | cons f t o =>rcases au.mp h with rfl|h;exact⟨_,cM,f⟩;obtain⟨b,u,g⟩:=o h;exact⟨b,b8 _ u,g⟩
theorem ZO{α l:Type}{F:α->l->Prop}{l₁:List α}{l₂:List l}(r:bR F l₁ l₂){b:l}(h:b∈l₂):∃a∈l₁,F a b:=by
 induction r with
 | nil=>cases h
 | cons f t o =>rcases au.mp h with rfl|h;exact⟨_,cM,f⟩;obtain⟨b,u,g⟩:=o h;exact⟨b,b8 _ u,g⟩
end
end L2
namespace Bd
open PySem L2
def Dq(K:qF)(mg:qM)(x:Str)(st:eK)(ps:List Str):Prop:=∃f fd,Def K mg x st ps f fd
def Fq(P:aJ)(w:a7)(K:qF)(mg:qM)(base:aW)(x:Str)(st:eK)(ps:List Str)(k:Nat)(l:Sp):Prop:=∃f fd,Def K mg x st ps f fd/\FnOk P w K mg base CX0 k f fd ps l
end Bd
namespace L2
open PySem PySem.Spec PyProof.Rows
section
variable{X:Cx}{x:Str}{st:eK}{ps:List Str}{k n m:Nat}{g:GD}{e:bg}{es:List bg}{ds:DTA}{p pos:Pos}
theorem Jf(F:Bd.Fq X.prog X.w X.K X.mg X.base x st ps k (spD X.K m g))(y:Room n X.A)(h:DB X (e::es) ds)(u:k<=n:=by decide)(I:(e::es).length=m:=by rfl)(v:Gl X x:=by rfl)
  (o:(x == ("__debug__":Str))=false:=by rfl):DE X (.Call (.Name x p) (e::es) [] pos) (dFn g ds):=by
 obtain⟨f,fd,D,G⟩:=F;exact zt0 D G (y.mono u) h I v o
theorem zrU(F:Bd.Fq X.prog X.w X.K X.mg X.base x st ps k (spD X.K m g))(y:Room n X.A)(h:DBL X (e::es) ds)(u:k<=n:=by decide)(I:(e::es).length=m:=by rfl)(v:Gl X x:=by rfl)
  (o:(x == ("__debug__":Str))=false:=by rfl):DE X (.Call (.Name x p) (e::es) [] pos) (dFnL g ds):=by
 obtain⟨f,fd,D,G⟩:=F;exact zrV D G (y.mono u) h I v o
end
section
variable{X:Cx}{hx s kx x:Str}{st:eK}{ps:List Str}{k n:Nat}{p p1 p2 p3 pos pos':Pos}{sts:List eK}{u:DTS}
theorem zkW{i j:Nat}(F:Bd.Fq X.prog X.w X.K X.mg X.base hx st ps k (YO X.K))(hr:Room n X.A)(hN:X.N.Nodup)(hi:X.N[i]?=some x)(I:Loc X.env.scope x)(hu:DSs X sts u)(hk:k<=n:=by decide)(R:i≠0:=by decide)(v:j≠0:=by decide)(Y:j≠i:=by decide)
  (h0:X.N[0]?=some s:=by rfl) (Z:X.N[j]?=some kx:=by rfl) (S:Vis X.env.scope s:=by walk_at "V") (L:Vis X.env.scope kx:=by walk_at "V")
  (y:(s == ("__debug__":Str))=false:=by rfl) (LS:(s == ("__classdict__":Str))=false:=by rfl) (J:(kx == ("__debug__":Str))=false:=by rfl) (LU:(kx == ("__classdict__":Str))=false:=by rfl) (hg:Gl X hx:=by rfl) (U:(hx == ("__debug__":Str))=false:=by rfl)
  (hs:swapsWith (.Call (.Name hx p) [.Name s p1,.Name kx p2] [] p3) (some (.Name x pos')) pos.line X.env=pure false:=by rfl) (hf:X.fn x=true\/X.env.scope.names.lookup x=some .local:=by walk_at "F") :
  DSs X (.Assign [.Name x pos'] (.Call (.Name hx p) [.Name s p1,.Name kx p2] [] p3) pos::sts) (Ud i j u):=by
 obtain⟨f,fd,D,G⟩:=F;exact zmO D G (hr.mono hk) hN hi I hu R v Y h0 Z S L y LS J LU hg U hs hf
end
end L2
namespace Bd
open PySem L2
section
variable{K:qF}{h:aW}{mg:qM}{x:Str}{st:eK}{ps:List Str}
abbrev BndA(x:Str)(st:eK)(ps:List Str):Prop:=∀(kV doc pm:af) (an:Option aj) (cdv ct:af) (us:List af),us.length=ps.length->bindArgs (eQ x x (Qp st) (JV st) (Jw st) .none kV doc pm an cdv ct) ⟨us,[]⟩=pure (ps.zip us)
theorem lenS{l:List af}{n:Nat}(h:l.length=n+1):∃a t,l=a::t/\t.length=n:=by
 cases l with
 | nil=>cases h
 | cons a t=>exact⟨a,t,rfl,Nat.succ.inj h⟩
theorem len1{l:List af}(h:l.length=1):∃a,l=[a]:=by obtain⟨a,t,rfl,e⟩:=lenS h;exact⟨a,by rw[List.eq_nil_of_length_eq_zero e]⟩
theorem len2{l:List af}(h:l.length=2):∃a b,l=[a,b]:=by obtain⟨a,t,rfl,e⟩:=lenS h;obtain⟨b,rfl⟩:=len1 e;exact⟨a,b,rfl⟩
theorem len3{l:List af}(h:l.length=3):∃a b c,l=[a,b,c]:=by obtain⟨a,t,rfl,e⟩:=lenS h;obtain⟨b,c,rfl⟩:=len2 e;exact⟨a,b,c,rfl⟩
end
end Bd
namespace L2
open PySem PySem.Spec PyProof PyProof.Rows
def Qh(h:aW)(d:aj)(es:Array iD)(ep:Nat):Prop:=∃o,h.get? d=some o/\o.ExactDict/\o.data=.dict es ep
theorem Qh.keep(r:Qh h d es ep)(k:∀o,h.get? d=some o->h'.get? d=some o):Qh h' d es ep:=by obtain⟨o,e,x⟩:=r;exact⟨o,k o e,x⟩
theorem Qh.lt(r:Qh h d es ep):d<h.objs.size:=by obtain⟨o,e,x⟩:=r;exact aw e
def itO(f0:af)(f:Bool)(d:aj)(i n ep:Nat)(u v:af):Obj:=⟨.type "dict_itemiterator",none,.fields #[f0,.bool f,.ref d,.int i 0,.int n 0,.int ep 0,u,v],#[]⟩
def QE(h:aW)(it d:aj)(i n ep:Nat):Prop:=∃f0 f l u,h.get? it=some (itO f0 f d i n ep l u)/\(f0=.none\/∃a:Nat,f0=rawInt a)
theorem QE.keep(r:QE h it d i n ep)(k:∀o,h.get? it=some o->h'.get? it=some o):QE h' it d i n ep:=by obtain⟨f0,f,l,u,e,x⟩:=r;exact⟨f0,f,l,u,k _ e,x⟩
section
variable{prog:aJ}{w:a7}{A:aX}{E:qV}{s:aq}
theorem zpn(h:∀x,Q x s):wpAny (model prog w) A (loadIfAlive a) Q E s:=fun _ _ _=>h _
theorem zrD(h0:f0=.none\/∃a:Nat,f0=rawInt a)(v:s.heap.get? it=some (itO f0 f d i n ep f6 f7))(y:Q true s)
  (hf:∀u,u.get? it=some (itO f0 true d i n ep f6 f7)->cN it s.heap u->Q false { s with heap:=u }):wpAny (model prog w) A (fg (.ref it)) Q E s:=by
 unfold fg;refine aa (cu v rfl (x:=f0) rfl ?_);rcases h0 with rfl|⟨a,rfl⟩;exact ae y;refine aa (zpn fun x=>?_);cases x with
 | none=>exact ae y
 | some o =>
  rw[if_neg (show ¬((some o).isNone=true) from bf)];refine aa (cu v rfl (x:=.bool f) rfl ?_);cases f with
  | true =>rw[if_neg (show ¬((iZ true != .bool true)=true) by decide)];exact ae (hf s.heap v (mI _ _))
  | false =>rw[if_pos (show(iZ false != .bool true)=true by decide)];exact aa (cj v (by simp) fun u C s3=>ae (hf u C s3))
theorem zl4(hi:QE s.heap it d i es.size ep)(hm:Qh s.heap d es ep)(hx:es[i]?=some e)
  (hQ:∀h',QE h' it d (i+1) es.size ep->h'.get? s.heap.objs.size=some ⟨.type "tuple",none,.seq #[e.key,e.val] 0,#[]⟩->h'.objs.size=s.heap.objs.size+1->(∀b o,b≠it->s.heap.get? b=some o->h'.get? b=some o)->Q (some (.ref s.heap.objs.size)) { s with heap:=h' }) :
  wpAny (model prog w) A (pyNext (.ref it)) Q E s:=by
 obtain⟨C,g,N,tk,os⟩:=s;obtain⟨f0,f,U,R,hit,h0⟩:=hi;obtain⟨od,Y,xod,S⟩:=hm;have ty:pM ⟨C,g,N,tk,os⟩ (.ref it) "dict_itemiterator":=⟨_,hit,rfl⟩;have il:it<C.objs.size:=aw hit;have lt:i<es.size:=(Array.getElem?_eq_some_iff.mp hx).1;unfold pyNext;refine aa (fT ?_);refine cm (name:=aM "__next__") ty cJ ?_;refine bK cJ ty hW ?_ (g6 _);refine aa (ae (aa (aa ?_)));refine aa (eO ty (ae (aa (lX hit rfl ?_))));have ow:gG "dict_itemiterator" = true:=by decide
 simp only[ow,if_true];show wpAny _ _ (if (aO d == dO)=true then _ else _) _ _ _;have nd:¬((aO d == dO)=true):=bf;rw[if_neg nd];refine aa (ae (aa (mO Y S ?_)));rw[if_neg (by simp)];refine aa (ae (aa (om Y S ?_)));rw[if_neg (by simp)];refine ae ?_;simp only[show ¬((i:Int)<0) from by lia,if_false,bQ,hx];refine aa (aa (eO ty (ae (aa (iT ty ?_)))));show wpAny _ _ (setField (.ref it) 3 (rawInt ((i:Int)+1)) >>= _) _ _ ⟨C,g,N,tk,os⟩;refine aa (cj hit (by simp) fun h1 e1 s1=>?_);have I:cN it C h1:=s1;have G:h1.get? it=some (itO f0 f d (i+1) es.size ep U R):=by
  have:((i+1:Nat):Int)=(i:Int)+1:=by lia
  unfold itO;rw[this];simpa[rawInt] using e1
 have L:pM ⟨h1,g,N,tk,os⟩ (.ref it) "dict_itemiterator":=⟨_,G,rfl⟩;refine aa (bU (aa (iT L (aa (iT L ?_)))));show wpAny _ _ (iU (.ref it) 6 e.key e.val) _ _ ⟨h1,g,N,tk,os⟩;unfold iU;refine aa (lQ ?_);have z1:h1.objs.size=C.objs.size:=I.1;obtain⟨v,u⟩:∃v,v=h1.push ⟨.type "tuple",none,.seq #[e.key,e.val] 0,#[]⟩:=⟨_,rfl⟩;have e2:v.get? it=some (itO f0 f d (i+1) es.size ep U R):=by rw[u];exact ag _ G
 have t2:v.get? C.objs.size=some ⟨.type "tuple",none,.seq #[e.key,e.val] 0,#[]⟩:=by rw[u,<- z1];exact ax _ rfl
 have z2:v.objs.size=C.objs.size+1:=by rw[u,cZ,z1]
 have k2:∀b o,b≠it->C.get? b=some o->v.get? b=some o:=fun b o nb J=>by rw[u];exact ag _ (I.extBut b o nb J)
 rw[z1];show wpAny _ _ (fg (.ref it) >>= _) _ _ ⟨h1.push ⟨.type "tuple",none,.seq #[e.key,e.val] 0,#[]⟩,g,N,tk,os⟩;rw[<- u];clear u e1 G s1 I L z1;clear h1;have kept:∀l:aW,l.objs.size=v.objs.size->(∀b o,b≠it->v.get? b=some o->l.get? b=some o)->QE l it d (i+1) es.size ep->Q (some (.ref C.objs.size)) ⟨l,g,N,tk,os⟩:=fun l z3 Z r3 =>
  hQ l r3 (Z _ _ (cW il) t2) (z3.trans z2) fun b o nb J=>Z b o nb (k2 b o nb J)
 have last:∀(l:aW) (f':Bool),l.objs.size=v.objs.size->(∀b o,b≠it->v.get? b=some o->l.get? b=some o)->l.get? it=some (itO f0 f' d (i+1) es.size ep U R)->Q (some (.ref C.objs.size)) ⟨l,g,N,tk,os⟩:=fun l f' z3 Z r3 =>
  kept l z3 Z ⟨f0,f',U,R,r3,h0⟩
 refine aa (zrD h0 e2 ?_ fun l e3 s3=>?_);simp only[if_true];refine aa (cu e2 rfl (x:=U) rfl (aa (cu e2 rfl (x:=R) rfl ?_)));refine aa (cj e2 (by simp) fun l e3 s3=>aa (cj e3 (by simp) fun h4 e4 s4=>?_));refine aa (cj e4 (by simp) fun h5 e5 s5=>aa (cj e5 (by simp) fun h6 e6 s6=>?_));refine aa (oU (ae (ae ⟨_,rfl,ae (kept h6 ?_ ?_ ?_)⟩)));have a3:l.objs.size=v.objs.size:=s3.1;have a4:h4.objs.size=l.objs.size:=s4.1;have a5:h5.objs.size=h4.objs.size:=s5.1;have a6:h6.objs.size=h5.objs.size:=s6.1;lia;exact fun b o nb J=>s6.extBut b o nb (s5.extBut b o nb (s4.extBut b o nb (s3.extBut b o nb J)));exact⟨_,false,_,_,e6,.inr ⟨_,rfl⟩⟩;exact ae (ae ⟨_,rfl,ae (last l _ s3.1 (fun b o nb J=>s3.extBut b o nb J) e3)⟩)
end
section
variable{prog:aJ}{w:a7}{A:aX}{E:qV}{s:aq}
theorem znX(G:A.handled=none)(hi:QE s.heap it d i es.size ep)(N:Qh s.heap d es ep)(hx:es[i]?=none)
  (J:∀h',(∀b o,b≠it->s.heap.get? b=some o->h'.get? b=some o)->Q none { s with heap:=h' }):wpAny (model prog w) A (pyNext (.ref it)) Q E s:=by
 obtain⟨f0,f,U,S,hit,h0⟩:=hi;obtain⟨R,v,I,l⟩:=N;have ty:s.TypeIs (.ref it) "dict_itemiterator":=⟨_,hit,rfl⟩;unfold pyNext;refine aa (fT ?_);refine cm (name:=aM "__next__") ty cJ ?_;refine bK cJ ty hW ?_ (g6 _);refine aa (ae (aa (aa ?_)));refine aa (eO ty (ae (aa (lX hit rfl ?_))));have L:gG "dict_itemiterator" = true:=by decide
 simp only[L,if_true];show wpAny _ _ (if (aO d == dO)=true then _ else _) _ _ _;have nd:¬((aO d == dO)=true):=bf;rw[if_neg nd];refine aa (ae (aa (mO v l ?_)));rw[if_neg (by simp)];refine aa (ae (aa (om v l ?_)));rw[if_neg (by simp)];refine ae ?_;simp only[show ¬((i:Int)<0) from by lia,if_false,bQ,hx];refine aa (aa (eO ty (ae ?_)));show wpAny _ _ (setField (.ref it) 2 .none >>= _) _ _ s;refine aa (eY hit rfl (by simp) ?_);show wpAny _ _ (newExc (.type "StopIteration") [] >>= _) _ _ _;refine aa ?_;simp only[newExc,newTuple];refine aa (bG ?_ (by size_fits));refine aa (m:=firstArgMember _ _) (mN (a:=dO) (by first|rfl|(simp only[firstArgMember];rfl)) ?_);refine bG ?_ (by size_fits);simp only[raiseNew];refine aa (pJ ?_);have C:A.in1.handled=none:=G;rw[C];refine aa (ae (sU ?_));refine aa (i7 (T:="StopIteration") (b:=true) ⟨_,ax _ rfl,rfl⟩ oV (ae (J _ ?_)));exact(((eF ..).extBut.push _).push _)
theorem zl3(y:s.heap.IsItemsView v d)(L:Qh s.heap d es ep)(G:Q (.ref s.heap.objs.size) { s with heap:=s.heap.push (itO .none false d 0 es.size ep .none .none) }) :
  wpAny (model prog w) A (pyIter (.ref v)) Q E s:=by
 obtain⟨R,I,U,C⟩:=id y;obtain⟨S,u,N,l⟩:=L;refine mP y.typeIs kP ?_;refine bK kP y.typeIs PySem.F.entry_dict_items_iter ?_ (PySem.F.args_dict_items_iter_1 _);unfold dh.«dict_items.__iter__»;refine aa (ae (aa ?_));unfold uE;refine aa (cu I C (x:=.ref d) rfl (ae (aa ?_)));unfold sM;refine aa (mO u l (aa (om u l ?_)));have J:gG "dict_itemiterator" = true:=by decide
 simp only[J,if_true];refine bG (ae ⟨_,rfl,"dict_itemiterator",_,⟨_,ax _ rfl,rfl⟩,cJ.lookup,?_⟩) ?_;simpa[rawInt,h8,itO] using G;simp[sizeOk,h8,eT]
theorem zjS(G:(d == sysModules)=false)(I:Qh s.heap d es ep)(h:P (.done (.ret (.ref s.heap.objs.size))) { s with heap:=s.heap.push ⟨.type "dict_items",none,.fields #[.ref d],#[]⟩ }) :
  wpAny (model prog w) A (dh.«dict.items» ⟨[.ref d],[]⟩) P E s:=by
 obtain⟨x,u,v,C⟩:=I;have ty:s.TypeIs (.ref d) "dict":=⟨x,u,v.1⟩;unfold dh.«dict.items»;refine aa ?_;unfold yp;refine aa (ou ty ?_);show wpAny _ _ (pure d) _ _ s;refine ae ?_;show wpAny _ _ (oz d >>= _) _ _ s;unfold oz;rw[G,if_neg (by decide)];exact aa (ae (aa (bG (ae h))))
structure RawG(es:Array iD)(lo:aj)(h:aW)(as:List aj):Prop where
 above:∀a∈as,lo<a
 pairs:∀(j:Nat) (a:aj),as[j]?=some a->∃e,es[j]?=some e/\h.get? a=some ⟨.type "tuple",none,.seq #[e.key,e.val] 0,#[]⟩
theorem zhq{S I d:aj}{es:Array iD}{ep:Nat}{R:kD->aq->Prop}(hA:A.handled=none)(C:S<I)(nS:d≠S)(nI:d≠I)(hn:es.size<=sizeLine)(res:af){h1:aW}
  (hR:∀h' tk acc c as,(∀b o,b≠S->b≠I->h1.get? b=some o->h'.get? b=some o)->h'.get? S=some ⟨.type "list",none,.seq acc c,#[]⟩->as.length=es.size->RawG es I h' as->acc.toList=as.map aO->R (.ok (.ret res)) { s with heap:=h',toks:=tk }) :
  ∀(k i:Nat) (h:aW) (tk c:Nat) (acc:Array af) (as:List aj),es.size - i=k->i<=es.size->QE h I d i es.size ep->Qh h d es ep->(∀b o,b≠S->b≠I->h1.get? b=some o->h.get? b=some o) ->
   h.get? S=some ⟨.type "list",none,.seq acc c,#[]⟩->acc.toList=as.map aO->as.length=i->RawG es I h as->I<h.objs.size ->
   codeAny (model prog w) A (.builtin "list.extend.loop" ⟨[.ref S,.ref I,res],[]⟩) R { s with heap:=h,toks:=tk }
 | 0,i,h,tk,c,acc,as,hk,hi,it,D,kp,hS,ea,al,G,Is=>by refine dJ my ?_;rw[gU cK _];show wpAny _ A.in1 (pyNext (.ref I) >>= _) _ _ _;refine aa (znX (s:={ s with heap:=h,toks:=tk }) (A:=A.in1) hA it D (gC (by lia)) fun h' x=>ae ?_);refine hR h' tk acc c as (fun b o U J e=>x b o J (kp b o U J e)) (x S _ (aA C) hS) (by lia) ⟨G.above,fun j a v=>?_⟩ ea;obtain⟨e,e1,Y⟩:=G.pairs j a v;exact⟨e,e1,x a _ (cW (G.above a (aP v))) Y⟩
 | k+1,i,h,tk,c,acc,as,hk,hi,it,D,kp,hS,ea,al,G,Is=>by
  have lt:i<es.size:=by lia
  have sa:acc.size=i:=by rw[<- cC,ea,aR,al]
  have ne:=aA C;refine dJ my ?_;rw[gU cK _];show wpAny _ A.in1 (pyNext (.ref I) >>= _) _ _ _;refine aa (zl4 (s:={ s with heap:=h,toks:=tk }) it D (aT lt) fun h' it' t' z' N=>?_);dsimp only at t' z' N ⊢;have S':=N S _ ne hS;have lS:S<h.objs.size:=aw hS;obtain⟨u,Z⟩:∃u,u=h'.update S (bS (·.push (aO h.objs.size))):=⟨_,rfl⟩;have up:∀b o,b≠S->h'.get? b=some o->u.get? b=some o:=fun b o nb e=>by rw[Z];exact(bz _ _ (dW nb)).trans e
  obtain⟨c',Su⟩:∃c',u.get? S=some ⟨.type "list",none,.seq (acc.push (aO h.objs.size)) c',#[]⟩:=⟨_,by rw[Z];exact bO (bS (·.push (aO h.objs.size))) S' rfl⟩;show wpAny _ A.in1 (updateSeq S (·.push (aO h.objs.size)) >>= _) _ _ _;refine aa (ig S' rfl (ae ⟨kf cK _,?_⟩) (by lia) (by rw[tH];lia));rw[<- Z];have tu:=up _ _ (cW lS) t';refine zhq hA C nS nI hn res hR k (i+1) u tk c' (acc.push (aO h.objs.size)) (as++[h.objs.size]) (by lia) lt (it'.keep fun o e=>up I o (dW ne) e) (D.keep fun o e=>up d o nS (N d o nI e)) (fun b o U J e=>up b o U (N b o J (kp b o U J e))) Su ?_ (by simp[al]) ⟨?_,?_⟩ (lA Is (aw tu));rw[gN,ea,dM];rfl;intro a L;rcases aC.mp L with L|L;exact G.above a L;cases aF.mp L;exact Is;intro j b v;rcases cx j as.length with z|z;rw[bE z]at v;obtain⟨e,e1,Y⟩:=G.pairs j b v;have ab:=G.above b (aP v);exact⟨e,e1,up b _ (cW (lA C ab)) (N b _ (cW ab) Y)⟩;rw[bw z]at v;have:j - as.length=0:=by rcases lW (j - as.length) with y|y;exact y;rw[ck (by simp;lia)]at v;cases v
  rw[this]at v;cases v;have:j=i:=by lia
  subst this;exact⟨_,aT lt,tu⟩
end
section
variable{prog:aJ}{w:a7}{A:aX}{E:qV}{s:aq}
theorem zl5(hA:A.handled=none)(G:s.heap.IsItemsView v d)(U:Qh s.heap d es ep)(hn:es.size<=sizeLine)(nv:S≠v)(nd:d≠S)(hS:s.heap.get? S=some ⟨.type "list",none,.seq #[] 0,#[]⟩)
  (h:∀h' tk acc c as,(∀b o,b≠S->s.heap.get? b=some o->h'.get? b=some o)->h'.get? S=some ⟨.type "list",none,.seq acc c,#[]⟩->as.length=es.size->RawG es s.heap.objs.size h' as->acc.toList=as.map aO->R (.ok (.ret (.ref S))) { s with heap:=h',toks:=tk }) :
  codeAny (model prog w) A (.builtin "list.__iadd__" ⟨[.ref S,.ref v],[]⟩) R s:=by
 have Z:S<s.heap.objs.size:=aw hS;have ld:=U.lt;obtain⟨ov,gv,cv,dv⟩:=id G;refine dJ nu ?_;show wpAny (model prog w) _ (cX (.ref S) (.ref v) (.ref S)) _ _ s;rw[gU nC _];obtain⟨u,J⟩:∃u,u=s.heap.push (itO .none false d 0 es.size ep .none .none):=⟨_,rfl⟩;have ui:u.get? s.heap.objs.size=some (itO .none false d 0 es.size ep .none .none):=by rw[J];exact ax _ rfl
 have x:∀b o,s.heap.get? b=some o->u.get? b=some o:=fun b o e=>by rw[J];exact ag _ e
 have loop:∀(h:aW) (c tk:Nat),(∀b o,b≠S->u.get? b=some o->h.get? b=some o)->h.get? S=some ⟨.type "list",none,.seq #[] c,#[]⟩->codeAny (model prog w) A (.builtin "list.extend.loop" ⟨[.ref S,.ref s.heap.objs.size,.ref S],[]⟩) R { s with heap:=h,toks:=tk }:=fun h1 c tk N I=>by
  have Y:=N _ _ (cW Z) ui;exact zhq (es:=es) (ep:=ep) (s:=s) (h1:=s.heap) hA Z nd (aA ld) hn (.ref S) (fun h' L acc c as k' S' l' G' a'=>h h' L acc c as (fun b o nb e=>k' b o nb (aA (aw e)) e) S' l' G' a') es.size 0 h1 tk c #[] [] (wt _) (cw _)
   ⟨_,_,_,_,Y,.inl rfl⟩ (U.keep fun o e=>N d o nd (x d o e)) (fun b o n1 _ e=>N b o n1 (x b o e)) I rfl rfl ⟨(fun _ ha=>nomatch ha),(fun j a hj=>by simp at hj)⟩ (aw Y)
 unfold cX;refine aa (dY (T:="dict_items") G.typeIs ?_);have c1:fV (.ref S) (.ref v)=false:=by simp[fV,nv]
 have c2:(a8 "dict_items" == a8 "list" ||a8 "dict_items" == a8 "tuple")=false:=by decide
 rw[c1,pN,c2,if_neg (by decide)];refine aa (zl3 G U ?_);rw[<- J];have C:=x S _ hS;refine aa (bU (PySem.W.kdx_hint ⟨ov,x v ov gv,cv⟩ ?_));refine fE (fun _=>aa (b7 (aa ?_))) (fun _=>ae ⟨kf cK _,loop u 0 _ (fun b o _ e=>e) C⟩);show wpAny _ _ (updateSeq S (·.push .none) >>= fun _=>updateSeq S (·.pop)) _ _ _;refine aa (ig C rfl ?_);have S2:=bO (bS (·.push dO)) C rfl;refine ig (hz:=by seq_fits) S2 rfl ?_;have S3:=bO (bS (·.pop)) S2 rfl;refine ae ⟨kf cK _,loop _ _ _ (fun b o nb e=>?_) S3⟩;rw[bz _ _ (dW nb),bz _ _ (dW nb)];exact e
theorem zgw(S:A.handled=none)(J:s.heap.IsItemsView v d)(I:Qh s.heap d es ep)(Z:es.size<=sizeLine)
  (h:∀h' tk (as:List aj),(∀b o,s.heap.get? b=some o->h'.get? b=some o)->s.heap.objs.size<=h'.objs.size->as.length=es.size->RawG es s.heap.objs.size h' as->Q (as.map aO) { s with heap:=h',toks:=tk }):wpAny (model prog w) A (collect (.ref v)) Q E s:=by
 unfold collect;refine aa (oP (dJ km ?_));show wpAny (model prog w) _ (newList [] >>= fun x=>again (.builtin "list.__iadd__" ⟨[x,.ref v],[]⟩)) _ _ s;have ld:=I.lt;obtain⟨Y,y,L,U⟩:=id J;have lv:=aw y;refine aa (ff (ae ⟨gz _ (by decide +kernel),?_⟩));refine zl5 (es:=es) (ep:=ep) (d:=d) S ⟨Y,ag _ y,L,U⟩ (I.keep fun o e=>ag _ e) Z (cW lv) (aA ld) (ax _ rfl) fun h' tk acc c as kp C l G N=>?_;refine aa (m:=load s.heap.objs.size) (lF C ?_);show wpAny (model prog w) A (pure acc.toList) Q E _;rw[N];refine ae (h h' tk as (fun b o e=>kp b o (aA (aw e)) (ag _ e)) (fc (aw C)) l ⟨fun a R=>?_,G.pairs⟩);have:=G.above a R;dsimp only at this;rw[cZ]at this;exact Nat.lt_of_succ_lt this
end
section
variable{prog:aJ}{w:a7}{A:aX}{E:qV}{s:aq}
def RlIn(h:aW)(u:af)(r:(Int×Int)×Int):Prop:=∃(a p:aj) (o:Obj) (t:Tok) (n:Nat),u=.ref a/\h.get? a=some o/\o.cls=.type "tuple" /\ o.data=.seq #[.ref p,.int r.2 t] n/\PrIn h (.ref p) r.1.1 r.1.2
def rkL:List af->aW->Int
 | [p,.int s _],h=>rkC h p*2+s
 | _,_=>0
def rkR(h:aW)(u:af):Int:=match u with
 | .ref a=>match h.get? a with
  | some o=>match o.data with
   | .seq xs _=>rkL xs.toList h
   | _=>0
  | none=>0
 | _=>0
def rkn(r:(Int×Int)×Int):Int:=(r.1.1*1000+r.1.2)*2+r.2
theorem RlIn.rk{h:aW}{u:af}{r:(Int×Int)×Int}(p:RlIn h u r):rkR h u=rkn r:=by obtain⟨a,q,o,t,n,rfl,l,_,x,v⟩:=p;simp only[rkR,l,x,rkL,v.rk,rkn]
theorem RlIn.kept{h h':aW}{u:af}{r:(Int×Int)×Int}(p:RlIn h u r)(kp:∀b o,h.get? b=some o->h'.get? b=some o):RlIn h' u r:=by obtain⟨a,q,o,t,n,y,l,C,x,v⟩:=p;exact⟨a,q,o,t,n,y,kp _ _ l,C,x,v.kept kp⟩
theorem PrIn.tk{h:aW}{p:aj}{b k:Int}(x:PrIn h (.ref p) b k):i8 (Ju prog w) h [.inl b,.inl k] p:=by obtain⟨a,o,t,t',n,y,u,C,v⟩:=x;cases y;exact⟨o,_,n,u,C,v,.cons (zdL b t) (.cons (zdL k t') .nil)⟩
theorem zoX{p q:aj}{b k o l:Int}(u:A.units<cLine)(x:PrIn s.heap (.ref p) b k)(y:PrIn s.heap (.ref q) o l):pS A s (.ref p) (.ref q) (decide (b=o/\k=l)):=fun prog w E Q h=>by
 refine wpAny_eqBool_tuple (knd:=Ju prog w) u x.tk y.tk ?_;have:decide (([kb b,kb k]:List Key)=[kb o,kb l])=decide (b=o/\k=l):=by rw[decide_eq_decide];constructor;intro z;cases z;exact⟨rfl,rfl⟩;rintro⟨rfl,rfl⟩;rfl
 rw[this];exact h
theorem zox{p q:aj}{b k C v:Int}(I:A.units<cLine)(x:PrIn s.heap (.ref p) b k)(y:PrIn s.heap (.ref q) C v):LtAt prog w A s false (.ref p) (.ref q) (HT.lexLt [b,k] [C,v]):=fun E Q h=>by obtain⟨a,o,t,t',n,S,U,G,J⟩:=x;obtain⟨Z,N,u,u',R,f0,f1,f2,Y⟩:=y;cases S;cases f0;rw[oneLt'_eq];simp only[aU,if_false];refine aa (show wpAny (model prog w) A (compareOp .Lt (.ref p) (.ref q)) _ E s from HT.zej ⟨o,U,G,n,J⟩ ⟨N,f1,f2,R,Y⟩ (.cons _ _ (.cons _ _ .nil)) (.cons _ _ (.cons _ _ .nil)) I ?_);exact dX h
theorem ziP{vs:List af}{Q:fq->aq->Prop}(h1:1<=vs.length)(Z:∀v∈vs,∃r,RlIn s.heap v r)(h:Q (tuples' false) s):wpAny (model prog w) A (keyKind' vs.toArray) Q E s:=by
 rw[keyKind'_eq,iM,map_eq_pure_bind];refine aa (aa (Yd (P:=fun _ r=>∃(p:aj) (o:Obj),r=some (.ref p)/\s.heap.get? p=some o/\o.cls=.type "tuple") vs (fun v I Q' J=>?_) fun rs C=>ae ?_));obtain⟨r,a,p,o,t,n,rfl,G,e2,e3,a',o',t1,t2,n',e4,e5,e6,e7⟩:=Z v I;cases e4;rw[zhZ];refine aa (dY (T:="tuple") ⟨o,G,e2⟩ ?_);rw[if_neg (by decide)];exact aa (fO G e3 (ae (J _ ⟨p,o',rfl,e5,e6⟩)));have al:∀r∈rs,∃(p:aj) (o:Obj),r=some (.ref p)/\s.heap.get? p=some o/\o.cls=.type "tuple":=fun r N=>by obtain⟨_,_,h⟩:=ZO C N;exact h
 have ln:rs.length=vs.length:=(fP C).symm;have Y:(rs.toArray.all fun x=>x.isSome)=true:=by rw[i6,dw];intro x hx;obtain⟨p,o,rfl,_⟩:=al x hx;rfl
 rw[if_pos Y];refine aa (b7 ?_);rw[tB];have R:rs.toArray.filterMap id=(rs.filterMap id).toArray:=by simp
 rw[R,iM,map_eq_pure_bind];refine aa (aa (aa (Yd (P:=fun _ r=>r=a8 "tuple") _ (fun v I Q' J=>?_) fun ts L=>ae ?_)));obtain⟨x,hx,e⟩:=gq.mp I;obtain⟨p,o,rfl,g,c⟩:=al x hx;cases e;exact dY (T:="tuple") ⟨o,g,c⟩ (J _ rfl);have u:∀r∈ts,r=a8 "tuple":=fun r N=>by obtain⟨_,_,h⟩:=ZO L N;exact h
 cases ts with
 | nil=>exact ae (ae h)
 | cons S U =>
  have G:S=a8 "tuple":=u S (.head _);subst G;have LM:(((a8 "tuple")::U).toArray.all fun x=>x == a8 "tuple")=true:=by rw[i6,dw];intro x hx;rw[u x hx];rfl
  have h0:((a8 "tuple")::U).toArray[0]?=some (a8 "tuple"):=by simp
  rw[h0];simp only[LM,if_true];refine ae (ae ?_);exact h
theorem zoy{a b c d:Int}:HT.lexLt [a,b] [c,d]=decide (a<c\/(a=c/\b<d)):=by
 have e:HT.lexLt [a,b] [c,d]=if a=c then(if b=d then false else decide (b<d)) else decide (a<c):=rfl
 rw[e];split;rename_i h;subst h;split;symm;rw[decide_eq_false_iff_not];lia;rw[decide_eq_decide];lia;rw[decide_eq_decide];lia
theorem zgK{vs:List af}{h0:aW}(N:A.units<cLine)(y:∀v∈vs,∃r,RlIn s.heap v r/\rkR h0 v=rkn r/\0<=r.1.2/\r.1.2<1000/\0<=r.2/\r.2<=1):Kinds prog w A s (rkR h0) vs:=fun h2=>by
 refine⟨tuples' false,fun E Q q=>ziP (by lia) (fun v S=>?_) q,fun p q E Q mp mq h=>?_⟩;obtain⟨r,h,_⟩:=y v S;exact⟨r,h⟩;have mem:∀z∈(pairsOf vs).toList,z.1∈vs:=fun z hz=>by
  have:z∈vs.zip vs:=by simpa[pairsOf] using hz
  exact(cS this).1
 obtain⟨⟨⟨b,k⟩,g⟩,⟨a,x,o,t,n,Z,e1,e2,U,R⟩,r1,k0,k1,g0,g1⟩:=y _ (mem p mp);obtain⟨⟨⟨l,u⟩,g'⟩,⟨a',x',o',t',n',f0,f1,f2,f3,f4⟩,Y,G,J,I,C⟩:=y _ (mem q mq);rw[r1,Y]at h;rw[Z,f0];refine zfL e1 U f1 f3 (zoX N R f4) (iu g t g' t') (fun _=>zox N R f4) (fun _=>zhF g g' t t') ?_;have lx:HT.lexLt [b,k] [l,u]=decide (b<l\/(b=l/\k<u)):=zoy;have n1:rkn ((b,k),g)=(b*1000+k)*2+g:=rfl;have n2:rkn ((l,u),g')=(l*1000+u)*2+g':=rfl;have:(if decide (b=l/\k=u)=true then(if (g == g')=true then false else decide (g<g')) else HT.lexLt [b,k] [l,u])=decide (rkn ((b,k),g)<rkn ((l,u),g')):=by rw[lx];simp only[beq_iff_eq,decide_eq_true_eq];dsimp only at k0 k1 G J g0 g1 I C;split;split;symm;rw[decide_eq_false_iff_not];lia;rw[decide_eq_decide];lia;rw[decide_eq_decide];lia
 rw[this];exact h
end
theorem zhm{α:Type}{P:α->af->Prop}{rk:af->Int}{f:α->Int}{vs:List af}{as:List α}{y:bV}(Y:bR P as vs)(hr:∀a v,P a v->rk v=f a)(pm:(arrOf y).Perm (pairsOf vs))(up:Up rk (arrOf y) vs.length) :
  ∃bs:List α,bs.Perm as/\bs.Pairwise (fun a b=>f a<=f b)/\bR P bs ((arrOf y).map (·.2)).toList:=by
 have u:(arrOf y).toList.Perm (vs.zip vs):=by have:=c9.mp pm;simpa[pairsOf] using this
 have hl:as.length=vs.length:=fP Y;have each:∀x∈as.zip vs,P x.1 x.2:=by
  clear pm up u hl;induction Y with
  | nil=>intro x hx;simp at hx
  | cons h t N =>intro x hx;rcases au.mp (by simpa using hx) with rfl|hx;exact h;exact N x hx
 have I:((arrOf y).toList.map (·.2)).Perm ((as.zip vs).map (·.2)):=by refine(u.map _).trans ?_;rw[fi (aD _),fi (by lia)]
 obtain⟨C,R,p2⟩:=Ux I;have J:∀x∈C,P x.1 x.2:=fun x hx=>each x (R.mem_iff.mp hx);have Ly:∀z∈(arrOf y).toList,z.1=z.2:=fun z hz=>by have:z∈vs.zip vs:=u.mem_iff.mp hz;obtain⟨i,hi,rfl⟩:=bh this;simp
 have S:(arrOf y).size=vs.length:=by have:=u.length_eq;simpa using this
 refine⟨C.map (·.1),?_,?_,?_⟩;have:=R.map (·.1);rwa [gX (by lia)]at this;rw[cz,aZ];intro i j hi hj U;have lw:C.length=vs.length:=by have:=congrArg fI p2;simpa[S] using this
 have gw:∀k (Z:k<C.length),rkAt rk (arrOf y) k=f C[k].1:=fun k Z=>by
  have G:k<(arrOf y).size:=by lia
  have e1:(arrOf y).toList[k]'(by simpa using G)=(arrOf y)[k]:=by simp
  have e2:C[k].2=(arrOf y)[k].2:=by
   have:(C.map (·.2))[k]'(by simpa using Z)=((arrOf y).toList.map (·.2))[k]'(by simpa using G):=by simp only[p2]
   simpa using this
  have e3:(arrOf y)[k].1=(arrOf y)[k].2:=Ly _ (by rw[<- e1];exact dS _);unfold rkAt;rw[aT G];simp only[gE,fh];rw[e3,<- e2];exact hr _ _ (J _ (dS _))
 have:=up i j U (by lia);rwa [gw i hi,gw j hj]at this;rw[sE,<- p2];clear R p2 I pm up;induction C with
 | nil=>exact .nil
 | cons a l N=>exact .cons (J a (.head _)) (N fun x hx=>J x (.tail _ hx))
def UO:af->V
 | .none=>.non
 | .bool b=>.bl b
 | .int i _=>.int i
 | .str x _=>.str x
 | .bytes b _=>.byt b
 | .float b _=>.flt b
 | .ref a=>.ref a
 | .type n=>.ty n
 | _=>.non
theorem zhp{v:V}{u:af}(h:RelV v u):UO u=v:=by
 cases v with
 | non=>cases(show u=_ from h);rfl
 | bl b=>cases(show u=_ from h);rfl
 | int i=>obtain⟨t,rfl⟩:=(show ∃t,u=_ from h);rfl
 | str i=>obtain⟨t,rfl⟩:=(show ∃t,u=_ from h);rfl
 | byt i=>obtain⟨t,rfl⟩:=(show ∃t,u=_ from h);rfl
 | flt i=>obtain⟨t,rfl⟩:=(show ∃t,u=_ from h);rfl
 | ref a=>cases(show u=_ from h);rfl
 | ty n=>cases(show u=_ from h);rfl
section
variable{X:Cx}{pins:qO}{σ:St}{H:Hp}{s:aq}
def layT(h':aW)(n:Nat)(as:List aj)(H:Hp):Hp:=fun b=>if n<=b/\b∈as then(match h'.get? b with|some o=>(match o.data with|.seq its _=>some (.tup (its.toList.map UO))|_=>none)|none=>none) else H b
theorem zhH{h':aW}{n:Nat}{as:List aj}{H:Hp}{b:aj}(h:b<n):layT h' n as H b=H b:=by unfold layT;rw[if_neg (fun z=>absurd z.1 (Aa.mpr h))]
theorem Inv.lays{h':aW}{t':Nat}{as:List aj}{l:aj}{vs:List V}(I:Inv X pins σ H s)(k:∀b u,s.heap.get? b=some u->h'.get? b=some u)
  (new:∀a∈as,s.heap.objs.size<=a->∃(xs:List V) (its:List af) (n:Nat),h'.get? a=some ⟨.type "tuple",none,.seq its.toArray n,#[]⟩/\Vals xs its/\xs.length<=sizeLine) (J:s.heap.objs.size<=l)
  (nl:vs.length<=sizeLine/\∃(its:List af) (n:Nat),Vals vs its/\h'.get? l=some (seqObj "list" its.toArray n)) :
  Inv X pins σ (upd (layT h' s.heap.objs.size as H) l (.lst vs)) { s with heap:=h',toks:=t' }:=by
 have old:∀b,b<s.heap.objs.size->upd (layT h' s.heap.objs.size as H) l (.lst vs) b=H b:=fun b v=>by rw[Jc (aA (aB v J))];exact zhH v
 have keep:∀b o,H b=some o->upd (layT h' s.heap.objs.size as H) l (.lst vs) b=some o:=fun b o e=>by rw[old b ((I.hok b o e).lt)];exact e
 refine I.un ⟨fun b u q _ _ _=>k b u q,fun b u q _ _ _=>⟨u.slots,k b u q⟩,fun b u q n _=>by rw[old b (aw q)];exact n,fun b u q _=>⟨u,k b u q⟩,fun b xs q=>keep b _ q,fun b o u q=>keep b _ q,fun b ps q=>keep b _ q⟩ ?_;intro b o e;by_cases y:b=l;subst y;rw[Jo]at e;cases e;obtain⟨z,its,n,r,g⟩:=nl;exact⟨z,its,n,r,g⟩;rw[Jc y]at e;by_cases z:s.heap.objs.size<=b/\b∈as;obtain⟨xs,its,n,g,r,l⟩:=new b z.2 z.1;have:layT h' s.heap.objs.size as H b=some (.tup (its.map UO)):=by unfold layT;rw[if_pos z,g]
 rw[this]at e;cases e;have C:its.map UO=xs:=by
  clear g l this;induction r with
  | nil=>rfl
  | cons h t G=>rw[bp,G,zhp h]
 rw[C];exact⟨l,its,r,_,g,rfl,⟨n,rfl⟩,rfl⟩;have x:H b=some o:=by
  have:layT h' s.heap.objs.size as H b=H b:=by unfold layT;rw[if_neg z]
  rw[<- this];exact e
 exact(I.hok b o x).stay (fun c u _ q=>k c u q) (fun c q=>keep c _ q) (fun c xs q=>keep c _ q) fun c L xs q=>keep c _ q
end
section
variable{prog:aJ}{w:a7}{A:aX}{E:qV}{s:aq}{rk:af->Int}
theorem zgH{h:aW}{vs:List af}{b:aj}{o:Obj}(u:h.get? b=some o):(midH (h.push (seqObj "list" vs.toArray 0)) h.objs.size vs).get? b=some o:=by have l:b<h.objs.size:=aw u;unfold midH;rw[cf _ _ _ (by rw[eo,cH,eo];lia),cf _ _ _ (by rw[cH,eo];lia),hU _ _ _ _ (aA l),cf _ _ _ (aA l)];exact u
theorem zfi{vs:List af}{P:qV}(l:vs.length<100000)(C:Kinds prog w A { s with heap:=midH (s.heap.push (seqObj "list" vs.toArray 0)) s.heap.objs.size vs } rk vs)
  (h:∀h' (y:bV) (e:Nat),(∀b o,s.heap.get? b=some o->h'.get? b=some o)->(arrOf y).Perm (pairsOf vs)->Up rk (arrOf y) vs.length->h'.get? s.heap.objs.size=some (seqObj "list" ((arrOf y).map (·.2)) e)->P .none { s with heap:=h' }) :
  wpAny (model prog w) A (dh.«list.sort» ⟨[.ref s.heap.objs.size],[]⟩) (fun f s'=>∃v,f=.done (.ret v)/\P v s') E { s with heap:=s.heap.push (seqObj "list" vs.toArray 0) }:=by
 have x:(s.heap.push (seqObj "list" vs.toArray 0)).get? s.heap.objs.size=some (seqObj "list" vs.toArray 0):=ax _ rfl;refine zhG (s:={ s with heap:=s.heap.push (seqObj "list" vs.toArray 0) }) x l C fun y G p2=>⟨_,rfl,?_⟩;obtain⟨e,he⟩:=sortedHeap_at (out:=(arrOf y).map (·.2)) x;refine h _ y e (fun b o u=>?_) G p2 he;have lt:=aw u;rw[sortedHeap_old (aA lt) (by rw[eo];exact rS lt),cf _ _ _ (aA lt)];exact u
end
section
variable{prog:aJ}{w:a7}{A:aX}{E:qV}{s:aq}{rk:aW->af->Int}
theorem zis{x:af}{C:aW->Nat->List af->Prop}{Q:qV}(Y:∀(v:aX) (S:qV) (L:List af->aq->Prop),v.handled=A.handled->(∀h' tk vs,C h' tk vs->L vs { s with heap:=h',toks:=tk })->wpAny (model prog w) v (collect x) L S s)
  (J:∀h' tk vs,C h' tk vs->vs.length<100000)
  (U:∀h' tk vs (v:aX),C h' tk vs->v.units<=A.units+16->Kinds prog w v { s with heap:=midH (h'.push (seqObj "list" vs.toArray 0)) h'.objs.size vs,toks:=tk } (rk h') vs)
  (h:∀h' tk vs G (y:bV) (e:Nat),C h' tk vs->(∀b o,h'.get? b=some o->G.get? b=some o)->(arrOf y).Perm (pairsOf vs)->Up (rk h') (arrOf y) vs.length->G.get? h'.objs.size=some (seqObj "list" ((arrOf y).map (·.2)) e)->Q (.ref h'.objs.size) { s with heap:=G,toks:=tk }) :
  wpAny (model prog w) A (call (.builtin "sorted") [x]) Q E s:=by
 have Z:100000<=sizeLine:=by decide
 refine g9 oQ nR nT (rN _) ?_;unfold dh.«sorted»;refine aa (m:=checkCount "sorted" 1 1 _) (ae (aa (Y _ _ _ rfl fun h' tk vs c=>?_)));have I:=J h' tk vs c;refine aa (ff (hsz:=by show vs.toArray.size<=_;rw[aG];lia) ?_);have R:(h'.push (seqObj "list" vs.toArray 0)).get? h'.objs.size=some (seqObj "list" vs.toArray 0):=ax _ rfl;refine aa (bU (bK lR ⟨_,R,rfl⟩ kI ?_ (oR _)));refine zfi (s:={ s with heap:=h',toks:=tk }) I (U h' tk vs _ c (by show A.units+1+1<=_;lia)) fun G y e kp N p2 he=>?_;exact ae ⟨_,rfl,h h' tk vs G y e c kp N p2 he⟩
end
def VWO(v a:aj):HO:=.ext fun h=>h.get? v=some ⟨.type "dict_items",none,.fields #[.ref a],#[]⟩
def zR(z:(Int×Int)×aj×V):(Int×Int)×Int:=(z.1,match z.2.2 with|.int s=>s|_=>0)
def ZRl(K:qF)(H:Hp)(z:(Int×Int)×aj×V):Prop:=SqT K H z.2.1 [.int z.1.1,.int z.1.2]/\0<=z.1.2/\z.1.2<1000/\∃s,z.2.2=.int s/\0<=s/\s<=1
section
variable{X:Cx}
theorem zsP{pins:qO}{σ:St}{H:Hp}{s:aq}{q:aj}{b k:Int}(I:Inv X pins σ H s)(h:SqT X.K H q [.int b,.int k]):PrIn s.heap (.ref q) b k:=by
 obtain⟨is,rs,⟨o,f1,f2,n,v⟩,_⟩:=I.tuple h;cases rs with
 | cons a1 a2 =>
  cases a2 with
  | cons u l =>cases l;obtain⟨t,rfl⟩:=a1;obtain⟨t',rfl⟩:=u;exact⟨q,o,t,t',n,rfl,f1,f2,v⟩
theorem zgb(hc:X.calm=true)(Y:X.A.units+64<cLine):JI X (.builtin "sorted") (fun xs H Q=>∃(v a:aj) (zs:ZT) (ep:Nat),xs=[.ref v]/\H v=some (VWO v a)/\H a=some (ZDO a zs ep)/\zs.length<100000/\(∀z∈zs,ZRl X.K H z) /\
  ∀(J:List (((Int×Int)×aj×V)×aj)) (l:aj) (H':Hp),(J.map (·.1)).Perm zs->J.Pairwise (fun a b=>rkn (zR a.1)<=rkn (zR b.1))->Same H H'->H l=none->(∀x∈J,H x.2=none/\H' x.2=some (.tup [.ref x.1.2.1,x.1.2.2]))->H' l=some (.lst (J.map fun x=>.ref x.2))->Q (.ref l) H'):=by
 intro pins s σ H xs us Q I r h;obtain⟨v,a,zs,ep,rfl,hv,ha,hz,hr,q⟩:=h;obtain⟨u,rfl,ru⟩:=r.one;cases(show u=aO v from ru);obtain⟨gv,_⟩:=I.hok v _ hv;obtain⟨⟨hs,lz,nd,o,es,g1,g2,g3,pr⟩,_⟩:=I.hok a _ ha;have el:es.size=zs.length:=by have:=fP pr;simpa using this.symm
 have cell:∀(h':aW) (as:List aj) (d:Nat),(∀b o,s.heap.get? b=some o->h'.get? b=some o)->as.length=es.size->RawG es d h' as->bR (fun(x:((Int×Int)×aj×V)×aj) (u:af)=>u=.ref x.2/\ZRl X.K H x.1/\d<x.2/\RlIn h' u (zR x.1)/\∃w,h'.get? x.2=some ⟨.type "tuple",none,.seq #[.ref x.1.2.1,w] 0,#[]⟩/\RelV x.1.2.2 w) (zs.zip as) (as.map aO):=fun h' as d kp l G=>by
  refine zfw (by simp;lia) fun j x u hx Y=>?_;obtain⟨x1,x2⟩:=mm.mp hx;rw[aN,x2]at Y;cases Y;obtain⟨e,e1,e2⟩:=G.pairs j _ x2;have jl:j<zs.length:=(aH.mp x1).1;have ez:entZ x.1 e:=by
   have key:∀{l:ZT} {m:List iD},bR entZ l m->∀(j:Nat) z e,l[j]?=some z->m[j]?=some e->entZ z e:=by
    intro l m p;induction p with
    | nil=>intro j z e h;simp at h
    | cons h t Z =>
     intro j z e h1 S;cases j with
     | zero=>cases h1;cases S;exact h
     | succ j=>exact Z j z e (by simpa using h1) (by simpa using S)
   exact key pr j _ _ x1 (by simpa using e1)
  have zr:=hr x.1 (aP x1);obtain⟨sq,k0,k1,sg,N,s0,s1⟩:=id zr;obtain⟨_,ek,ev⟩:=ez;rw[ek]at e2;refine⟨rfl,zr,G.above _ (aP x2),?_,e.val,e2,ev⟩;rw[N]at ev;obtain⟨t,et⟩:=ev;rw[et]at e2;refine⟨x.2,x.1.2.1,_,t,0,rfl,e2,rfl,?_,(zsP I sq).kept kp⟩;unfold zR;rw[N]
 refine zis (A:=X.A) (x:=.ref v) (rk:=rkR) (C:=fun h' tk vs=>∃as,vs=as.map aO/\(∀b o,s.heap.get? b=some o->h'.get? b=some o)/\s.heap.objs.size<=h'.objs.size/\as.length=es.size/\RawG es s.heap.objs.size h' as) ?_ ?_ ?_ ?_;intro A' E' Q' hA hq;exact zgw (es:=es) (ep:=ep) (hA.trans (I.ok.hd hc)) ⟨_,gv,rfl,rfl⟩ ⟨o,g1,g2,g3⟩ (by rw[el];exact lz) fun h' tk as kp sz l G=>hq h' tk _ ⟨as,rfl,kp,sz,l,G⟩;rintro h' tk vs ⟨as,rfl,kp,sz,l,G⟩;rw[aR,l,el];exact hz;rintro h' tk vs A' ⟨as,rfl,kp,sz,l,G⟩ hA';refine zgK (by lia) fun u Y=>?_;obtain⟨x,_,_,⟨_,k0,k1,sg,N,s0,s1⟩,_,rl,_⟩:=ZO (cell h' as _ kp l G) Y;refine⟨zR x.1,rl.kept fun b o e=>zgH e,rl.rk,k0,k1,?_⟩;unfold zR;rw[N];exact⟨s0,s1⟩;rintro h' tk vs S y e ⟨as,rfl,kp,sz,l,G⟩ kp2 pm up he;obtain⟨J,p1,p2,p3⟩:=zhm (f:=fun x=>rkn (zR x.1)) (cell h' as _ kp l G) (fun x u hx=>hx.2.2.2.1.rk) pm up;have lw:(J.map (·.1)).Perm zs:=by have:=p1.map (·.1);rwa [gX (by lia)]at this
 have each:∀x∈J,ZRl X.K H x.1/\s.heap.objs.size<x.2/\∃w,h'.get? x.2=some ⟨.type "tuple",none,.seq #[.ref x.1.2.1,w] 0,#[]⟩/\RelV x.1.2.2 w:=fun x hx=>by obtain⟨u,_,_,h1,S,_,h3⟩:=ziA p3 hx;exact⟨h1,S,h3⟩
 have ev:((arrOf y).map (·.2)).toList=J.map fun x=>aO x.2:=by
  have:∀{l:List (((Int×Int)×aj×V)×aj)} {m:List af},bR (fun(x:((Int×Int)×aj×V)×aj) (u:af)=>u=.ref x.2/\ZRl X.K H x.1/\s.heap.objs.size<x.2/\RlIn h' u (zR x.1)/\∃w,h'.get? x.2=some ⟨.type "tuple",none,.seq #[.ref x.1.2.1,w] 0,#[]⟩/\RelV x.1.2.2 w) l m->m=l.map fun x=>aO x.2:=by
   intro l m p;induction p with
   | nil=>rfl
   | cons h t Z=>rw[bp,<- Z,h.1]
  exact this p3
 have lh:∀x∈J,x.2<h'.objs.size:=fun x hx=>by obtain⟨_,_,w,g,_⟩:=each x hx;exact aw g
 have two:∀a b:V,[a,b].length<=sizeLine:=fun _ _=>by show 2<=sizeLine;decide
 have I1:=I.lays (t':=tk) (h':=S) (as:=J.map (·.2)) (l:=h'.objs.size) (vs:=J.map fun x=>V.ref x.2) (fun b o U=>kp2 b o (kp b o U)) (fun b U _=>by
  obtain⟨x,hx,rfl⟩:=cE.mp U;obtain⟨_,_,w,g,R⟩:=each x hx;exact⟨[.ref x.1.2.1,x.1.2.2],[.ref x.1.2.1,w],0,kp2 _ _ g,.cons rfl (.cons R .nil),two _ _⟩) sz ⟨by
   have a1:=lw.length_eq;have a2:100000<=sizeLine:=by decide
   rw[aR]at a1 ⊢;lia,J.map (fun x=>aO x.2),e,by
    clear ev he p3 p2 p1 lw each lh;induction J with
    | nil=>exact .nil
    | cons x J Z=>exact .cons rfl Z,by rw[he,<- ev]⟩
 refine⟨.ref h'.objs.size,_,I1,rfl,q J _ _ lw p2 (fun b o U=>?_) (I.hok.fresh sz) (fun x hx=>⟨I.hok.fresh (fc (each x hx).2.1),?_⟩) Jo⟩;have lt:=(I.hok b o U).lt;rw[Jc (aA (aB lt sz)),zhH lt];exact U;obtain⟨_,h1,w,g,R⟩:=each x hx;rw[Jc (aA (lh x hx))];unfold layT;rw[if_pos ⟨fc h1,f9 hx⟩,kp2 _ _ g];show some (HO.tup [.ref x.1.2.1,UO w])=_;rw[zhp R]
end
def zput(zs:ZT)(k:Int×Int)(b:aj)(v:V):ZT:=if (zs.any fun z=>decide (z.1=k))=true then zs.map (fun z=>if z.1=k then(z.1,z.2.1,v) else z) else zs++[(k,b,v)]
def putT(l:KT2)(k:Int×Int)(t:ah):KT2:=if (l.any fun z=>decide (z.1=k))=true then l.map (fun z=>if z.1=k then(z.1,t) else z) else l++[(k,t)]
def valT(l:KT2)(k:Int×Int):Option ah:=(l.find? fun z=>decide (z.1=k)).map (·.2)
def kL(k:Int×Int):List Key:=[.inl k.1,.inl k.2]
theorem UX{k l:Int×Int}:kL k=kL l↔k=l:=by constructor;intro h;unfold kL at h;injection h with h1 h2;injection h2 with h2 _;injection h1 with h1;injection h2 with h2;exact fJ h1 h2;rintro rfl;rfl
def ZX(z:(Int×Int)×aj×V)(x:List Key×aj×af):Prop:=x.1=kL z.1/\x.2.1=z.2.1/\RelV z.2.2 x.2.2
theorem zm2{zs:ZT}{xs:List (List Key×aj×af)}(r:bR ZX zs xs)(k:Int×Int):(atKey xs (kL k)).isSome=zs.any fun z=>decide (z.1=k):=by
 induction r with
 | nil=>rfl
 | @cons z x zs xs h t ih =>
  by_cases e:z.1=k;have:x.1=kL k:=by rw[h.1,e]
  simp[atKey,fF,this,e];have:¬x.1=kL k:=fun l=>e (UX.mp (h.1.symm.trans l));have u:atKey (x::xs) (kL k)=atKey xs (kL k):=by simp[atKey,fF,this]
  rw[u,ih,vv,decide_eq_false e,pN]
theorem zpB{zs:ZT}{xs:List (List Key×aj×af)}(r:bR ZX zs xs)(k:Int×Int){b:aj}{v:V}{u:af}(y:RelV v u):bR ZX (zput zs k b v) (storedH xs (kL k) b u):=by
 unfold zput storedH;rw[zm2 r k];by_cases e:(zs.any fun z=>decide (z.1=k))=true;rw[if_pos e,if_pos e];clear e;induction r with
 | nil=>exact .nil
 | @cons z x zs xs h t ih =>refine .cons ?_ ih;unfold putAt;dsimp only;by_cases e:z.1=k;rw[if_pos e,if_pos (by rw[h.1,e])];exact⟨h.1,h.2.1,y⟩;rw[if_neg e,if_neg (fun C=>e (UX.mp (h.1.symm.trans C)))];exact h
 rw[if_neg e,if_neg e];exact Paired.snoc r ⟨rfl,rfl,y⟩
theorem zgq{zs:ZT}{xs:List (List Key×aj×af)}(r:bR ZX zs xs):xs.map (·.1)=(zs.map (·.1)).map kL:=by
 induction r with
 | nil=>rfl
 | cons h t l=>rw[bp,bp,bp,l,h.1]
theorem zhy{l:qB}:(l.map kL).Nodup↔l.Nodup:=by
 induction l with
 | nil=>simp
 | cons a l v =>
  rw[bp,dI,dI,v];have:kL a∈l.map kL↔a∈l:=by constructor;intro h;obtain⟨b,x,e⟩:=cE.mp h;rwa [<- UX.mp e];exact f9
  rw[this]
theorem zlE(zs:ZT)(k:Int×Int)(b:aj)(v:V):(zput zs k b v).length<=zs.length+1:=by unfold zput;split;rw[aR];exact fK _;simp
section
variable{P:aJ}{w:a7}
theorem ztZ{z:(Int×Int)×aj×V}{x:List Key×aj×af}(h:ZX z x):entZ z (entryOfKey (tupleKind (Ju P w)) x):=by obtain⟨h1,o,l⟩:=h;refine⟨?_,?_,l⟩;show tupleKeyHash (Ju P w) x.1=_;rw[h1];rfl;show aO x.2.1=_;rw[o]
theorem zlF{zs:ZT}{es:List iD}(r:bR entZ zs es):∃xs:List (List Key×aj×af),bR ZX zs xs/\es=xs.map (entryOfKey (tupleKind (Ju P w))):=by
 induction r with
 | nil=>exact⟨[],.nil,rfl⟩
 | @cons z e zs es h t ih =>obtain⟨xs,y,x⟩:=ih;obtain⟨h1,u,v⟩:=h;refine⟨(kL z.1,z.2.1,e.val)::xs,.cons ⟨rfl,rfl,v⟩ y,?_⟩;rw[bp,<- x];congr 1;cases e;dsimp only at h1 u;rw[h1,u];rfl
theorem zrJ{zs:ZT}{xs:List (List Key×aj×af)}(r:bR ZX zs xs):bR entZ zs (xs.map (entryOfKey (tupleKind (Ju P w)))):=by
 induction r with
 | nil=>exact .nil
 | cons h t u=>exact .cons (ztZ h) u
end
section
variable{X:Cx}{pins:qO}{σ:St}{H:Hp}{s:aq}{a:aj}{zs:ZT}{ep:Nat}{A:aX}{E:qV}
theorem zjd(I:Inv X pins σ H s)(h:H a=some (ZDO a zs ep))(J:∀z∈zs,SqT X.K H z.2.1 [.int z.1.1,.int z.1.2]):(a == sysModules)=false/\zs.length<=sizeLine/\∃xs,bR ZX zs xs/\s.heap.DictOfH (tupleKind (Ju X.prog X.w)) a xs:=by obtain⟨⟨v,u,nd,o,es,g1,g2,g3,pr⟩,_⟩:=I.hok a _ h;obtain⟨xs,l,C⟩:=zlF (P:=X.prog) (w:=X.w) pr;refine⟨v,u,xs,l,o,es,ep,g1,g2,g3,C,fun x hx=>?_,?_⟩;obtain⟨z,hz,G,y,_⟩:=ZO l hx;have:=UY (k:=kL z.1) I (J z hz);rw[G,y];exact this;rw[zgq l];exact zhy.mpr nd
theorem zjc{H':Hp}{h':aW}{xs:List (List Key×aj×af)}(v:(a == sysModules)=false)(u:zs.length<=sizeLine)(r:bR ZX zs xs)(x:h'.DictOfH (tupleKind (Ju X.prog X.w)) a xs):∃ep,Jx X.prog X.w H' h' a (ZDO a zs ep):=by obtain⟨o,es,ep,g1,g2,g3,L,_,l⟩:=x;refine⟨ep,⟨v,u,?_,o,es,g1,g2,g3,?_⟩,⟨o,g1⟩,?_⟩;rw[zgq r]at l;exact zhy.mp l;rw[L];exact zrJ r;rintro h1 N ⟨G,I,C,o,es,y,J⟩ k;exact⟨G,I,C,o,es,k o y,J⟩
theorem zjg{k:Int×Int}{b:aj}{v:V}{r:af}{Q:Unit->aq->Prop}(U:A.units+1<cLine)(I:Inv X pins σ H s)(h:H a=some (ZDO a zs ep))(hk:∀z∈zs,SqT X.K H z.2.1 [.int z.1.1,.int z.1.2])(S:SqT X.K H b [.int k.1,.int k.2])(hl:zs.length<sizeLine)(R:RelV v r)
  (Y:∀s' o,Inv X pins σ (upd H a (ZDO a (zput zs k b v) o)) s'->Q () s'):wpAny (model X.prog X.w) A (setItem (.ref a) (.ref b) r) Q E s:=by
 obtain⟨L,J,xs,G,N⟩:=zjd I h hk;have Z:xs.length<=sizeLine:=by rw[<- fP G];exact J
 refine wpAny_setItem_heap (hsz:=Z) (lY U) (UY (k:=kL k) I S) N fun h' u C=>?_;have he:∃q,h'.get? a=some q:=let ⟨q,_,_,e,_⟩:=u;⟨q,e⟩;have x:(zput zs k b v).length<=sizeLine:=by have:=zlE zs k b v;lia
 have ok:∀H':Hp,∃o,Jx X.prog X.w H' h' a (ZDO a (zput zs k b v) o):=fun H'=>zjc L x (zpB G k R) u;obtain⟨o,y⟩:=ok H;exact Y _ o (zlf I (by rw[h];exact ip) C he y)
end
section
variable{K:qF}{hd:Option aj}{O:aj->Prop}{H:Hp}{zs:ZT}{ks:KT2}
theorem Jj.sq(r:Jj K hd O H zs ks):∀z∈zs,SqT K H z.2.1 [.int z.1.1,.int z.1.2]:=by
 intro z hz;induction zs generalizing ks with
 | nil=>cases hz
 | cons y zs u =>
  cases r with
  | cons h1 C r =>
   rcases au.mp hz with rfl|hz;obtain⟨a,vs,e,sq,o⟩:=h1.tupI;cases e;cases o with
   | cons x l =>
    cases l with
    | cons v x4 =>cases x4;rw[x.intI,v.intI]at sq;exact sq
   exact u r hz
theorem Jj.length(r:Jj K hd O H zs ks):zs.length=ks.length:=by
 induction zs generalizing ks with
 | nil=>cases r;rfl
 | cons y zs l =>
  cases r with
  | cons h1 o r=>rw[aL,aL,l r]
theorem Jj.keys(r:Jj K hd O H zs ks):zs.map (·.1)=ks.map (·.1):=by
 induction zs generalizing ks with
 | nil=>cases r;rfl
 | cons y zs l =>
  cases r with
  | cons h1 o r=>rw[bp,bp,l r]
theorem Jj.snoc{k:Int×Int}{q:aj}{v:V}{d:ah}(h:Rep K hd O H (.ref q) (.tuple [.int k.1,.int k.2]))(x:Rep K hd O H v d){zs:ZT}{ks:KT2}(r:Jj K hd O H zs ks):Jj K hd O H (zs++[(k,q,v)]) (ks++[(k,d)]) :=
 r.ind (P:=fun zs ks=>Jj K hd O H (zs++[(k,q,v)]) (ks++[(k,d)])) (.cons h x .nil) fun a b _ r=>.cons a b r
theorem Jj.put(r:Jj K hd O H zs ks)(k:Int×Int){b:aj}{v:V}{t:ah}(J:Rep K hd O H (.ref b) (.tuple [.int k.1,.int k.2]))(x:Rep K hd O H v t):Jj K hd O H (zput zs k b v) (putT ks k t):=by
 have G:(zs.any fun z=>decide (z.1=k))=ks.any fun z=>decide (z.1=k):=by
  have I:(zs.any fun z=>decide (z.1=k))=(zs.map (·.1)).any fun z=>decide (z=k):=by rw[iP];rfl
  have L:(ks.any fun z=>decide (z.1=k))=(ks.map (·.1)).any fun z=>decide (z=k):=by rw[iP];rfl
  rw[I,L,r.keys]
 unfold zput putT;rw[G];split;clear G;rename_i e;clear e;induction zs generalizing ks with
 | nil=>cases r;exact .nil
 | cons y zs C =>
  cases r with
  | @cons k' q v' d zs ks h1 h2 r =>rw[bp,bp];dsimp only;by_cases e:k'=k;rw[if_pos e,if_pos e];exact .cons h1 x (C r);rw[if_neg e,if_neg e];exact .cons h1 h2 (C r)
 exact Jj.snoc J x r
theorem Rep.bkI{v:V}{a b:Int}(h:Rep K hd O H v (.tuple [.int a,.int b])):∃q,v=.ref q/\SqT K H q [.int a,.int b]:=by
 obtain⟨q,vs,rfl,sq,x⟩:=h.tupI;cases x with
 | cons C o =>
  cases o with
  | cons y x4 =>cases x4;rw[C.intI,y.intI]at sq;exact⟨q,rfl,sq⟩
end
section
variable{X:Cx}{e e1 e2:bg}{x:Str}{pos:Pos}{d d1 d2:DTE}
def zsJ:TE:=fun _ H Q=>∀p,H p=none->∀ep,Q (.ref p) (upd H p (ZDO p [] ep))
theorem zod:PE X (.Dict [] [] pos) zsJ:=fun pins s σ H Q I h=>by have u:(s.heap.objs.size == sysModules)=false:=beq_eq_false_iff_ne.mpr (dW (aA I.big));obtain⟨ep,ok⟩:=zjc (X:=X) (H':=H) (zs:=[]) u (cw _) .nil (sJ s.heap);exact wpAny_Dict_empty ⟨.ref s.heap.objs.size,_,I.laid (a:=s.heap.objs.size) (o:=ZDO s.heap.objs.size [] ep) (t':=s.toks) (fun _ _ q=>ag _ q) (aD _) ok,rfl,h _ (I.hok.fresh (aD _)) ep⟩
def zp5(i:Nat):DTS:=fun D l n=>D.nx (l.set i (some (.dtt []))) n
theorem zo1{i:Nat}{u dp:Pos}(G:X.N.Nodup)(hi:X.N[i]?=some x)(hx:Loc X.env.scope x)(y:swapsWith (.Dict [] [] dp) (some (.Name x u)) pos.line X.env=pure false:=by rfl)(hf:X.fn x=true\/X.env.scope.names.lookup x=some .local:=by walk_at "F") :
  DS X (.Assign [.Name x u] (.Dict [] [] dp) pos) (zp5 i):=by
 refine⟨_,Qs G hi hx zod y hf,fun C L σ H n D J S hd g=>?_⟩;intro p v ep;have e1:ExtE C.hd H (upd H p (ZDO p [] ep)):=ExtE.new v;have I:Hn X.K C.hd (upd H p (ZDO p [] ep)) n:=S.hnd.same (JB v);exact g.nx _ _ _ n hd (S.putNew e1 I v ⟨[],ep,Jo,.nil⟩) (zdM e1 v)
def ztf(K:qF)(u ty G:TE):TS:=fun D σ H=>G σ H fun v I=>u σ I fun x C=>ty σ C fun y l=>∃a zs ep k b,x=.ref a/\y=.ref b/\l a=some (ZDO a zs ep)/\(∀z∈zs,SqT K l z.2.1 [.int z.1.1,.int z.1.2])/\SqT K l b [.int k.1,.int k.2]/\zs.length<sizeLine/\∀o,D.nx σ (upd l a (ZDO a (zput zs k b v) o))
theorem zn4{o i value:bg}{G ty J:TE}{l:Pos}(hu:X.A.units+1<cLine)(N:PE X o G)(hi:PE X i ty)(U:PE X value J)(hs:swapsWith value (some (.Subscript o i l)) pos.line X.env=pure false) :
  PS X (.Assign [.Subscript o i l] value pos) (ztf X.K G ty J):=by
 intro pins s σ H D I h;refine wpAny_Assign_Subscript (thn (U pins s σ H _ I h) fun r s1 ⟨v,H1,I1,rv,L⟩=>thn (N pins s1 σ H1 _ I1 L) fun u s2 ⟨x,H2,I2,rx,Z⟩=>thn (hi pins s2 σ H2 _ I2 Z) fun iv s3 ⟨y,H3,Y,R,a,zs,ep,k,b,ex,ey,g,hk,hb,hl,q3⟩=>?_) hs;subst ex ey;cases(show u=aO a from rx);cases(show iv=aO b from R);exact zjg hu Y g hk hb hl rv fun s4 C I4=>⟨σ,_,I4,q3 C⟩
def lBlk(y:ah)(R:Int×Int->Prop):Prop:=∃k:Int×Int,y=.tuple [.int k.1,.int k.2]/\R k
def znS(i:Nat)(v o:DTE):DTS:=fun D l n=>o l n fun t C=>match l[i]? with
 | some (some (.dtt ks))=>v l C fun y u=>lBlk y fun k=>ks.length<16777216/\D.nx (l.set i (some (.dtt (putT ks k t)))) u
 | _=>False
theorem zo0(i:Nat){p1 l:Pos}(hr:X.A.units+1<cLine)(h1:DE X e1 d1)(R:DE X e2 d2)(hN:X.N[i]?=some x:=by rfl)(hv:Vis X.env.scope x:=by walk_at "V")(hd:(x == ("__debug__":Str))=false:=by rfl)
  (I:(x == ("__classdict__":Str))=false:=by rfl) (hs:swapsWith e2 (some (.Subscript (.Name x p1) e1 l)) pos.line X.env=pure false:=by rfl) :
  DS X (.Assign [.Subscript (.Name x p1) e1 l] e2 pos) (znS i d1 d2):=by
 obtain⟨t1,pa1,h1⟩:=h1;obtain⟨t2,U,R⟩:=R;refine⟨_,zn4 hr (Qr hN hv hd I) pa1 U hs,fun C ρ σ H n D D' S hd g=>?_⟩;refine R C ρ σ H n _ _ S hd fun t n1 v H1 r e1 hn1 q=>?_;have Z:=S.on e1 hn1;split at r;rename_i G et;obtain⟨p,zs,ep,s1,s2,s3,s4⟩:=Z.dtt i G et;refine⟨.ref p,s1,?_⟩;refine h1 C ρ σ H1 n1 _ _ Z r fun y n2 w H2 r2 e2 hn2 q2=>?_;have S2:=Z.on e2 hn2;obtain⟨p',J,L,u1,u2,Y,u4⟩:=S2.dtt i G et;rw[s1]at u1;cases u1;obtain⟨k,rfl,hl,r2⟩:=r2;obtain⟨b,rfl,sb⟩:=q2.bkI;have q':=e2.rep S.hx q;refine⟨p,J,L,k,b,rfl,rfl,u2,Y.sq,sb,by rw[Y.length];exact hl,fun e3=>?_⟩;obtain⟨S3,k3⟩:=S2.chgC (c':=.dtt (putT G k t)) rfl rfl et s1 fun O' H' a b hp=>⟨_,_,hp,(Y.put k q2 q').mono a b⟩;exact g.nx _ _ _ n2 r2 S3 ((e1.keep.trans e2.keep).trans k3);exact r.elim
end
section
variable{D:JL}{ρ ρ':En}{n i j:Nat}{d dk dv:DTE}{R:qN}{ks:KT2}
instance zt5:Stp (zp5 i D ρ n) (SetK i (some (.dtt [])) D.nx ρ n):=⟨fun h=>h⟩
instance zt4 [h:GetN ρ i (some (.dtt ks))]:Stp (znS i dk dv D ρ n) (dv ρ n fun t n1=>dk ρ n1 fun y n2=>lBlk y fun k=>ks.length<16777216/\SetK i (some (.dtt (putT ks k t))) D.nx ρ n2):=⟨fun k=>by unfold znS;rw[h.e];exact k⟩
instance zuq {a b:Int}{Q:Int×Int->Prop}:Stp (lBlk (.tuple [.int a,.int b]) Q) (Q (a,b)):=⟨fun h=>⟨(a,b),rfl,h⟩⟩
end
def rD(rs:List ((Int×Int)×Int)):List ah:=rs.map fun r=>.tuple [.tuple [.int r.1.1,.int r.1.2],.int r.2]
theorem znb{rs:List ((Int×Int)×Int)}:(rD rs).length=rs.length:=by simp[rD]
def RlOk(r:(Int×Int)×Int):Prop:=0<=r.1.2/\r.1.2<1000/\0<=r.2/\r.2<=1
section
variable{X:Cx}{e:bg}{x:Str}{d:DTE}{pos p p1 p2 p3:Pos}{k:Nat}
def zpN(i:Nat):TE:=fun σ H Q=>∃a zs ep,σ[i]?=some (some (.ref a))/\H a=some (ZDO a zs ep)/\∀v,H v=none->Q (.ref v) (upd H v (VWO v a))
theorem zpF{H':Hp}{h:aW}{v a:aj}(g:h.get? v=some ⟨.type "dict_items",none,.fields #[.ref a],#[]⟩):Jx X.prog X.w H' h v (VWO v a):=⟨g,⟨_,g⟩,fun h1 o g1 k=>k _ g1⟩
theorem zmc{i:Nat}(S:X.N[i]?=some x)(J:Vis X.env.scope x)(hd:(x == ("__debug__":Str))=false:=by rfl) (y:(x == ("__classdict__":Str))=false:=by rfl)
  (La:attributeBase (.Name x p1) "items" X.env (eval (.Name x p1) X.env)=eval (.Name x p1) X.env:=by rfl) (Y:(p2.endLine == p3.line)=true:=by rfl):PE X (.Call (.Attribute (.Name x p1) "items" p2) [] [] p3) (zpN i):=by
 intro pins s σ H Q I h;obtain⟨a,zs,ep,e1,R,q⟩:=h;refine m7 La Y (thn (Qr S J hd y pins s σ H (fun v H'=>v=.ref a/\H'=H) I ⟨.ref a,e1,rfl,rfl⟩) fun u s1 ⟨v,H1,G,r1,ev,Z⟩=>?_);subst ev Z;cases(show u=aO a from r1);obtain⟨⟨L,lz,nd,o,es,g1,g2,g3,pr⟩,_⟩:=G.hok a _ R;have ty:s1.TypeIs (.ref a) "dict":=⟨o,g1,g2.1⟩;refine⟨"dict","dict.items",PySem.F.plainAttrs_dict,nD,PySem.F.type_dict_items,ty,fun b U=>?_,iK rfl (ph ?_)⟩;cases U;exact⟨o,g1,g2.2.1⟩;refine bK nD ty PySem.F.entry_dict_items ?_ (PySem.F.args_dict_items_1 _);refine zjS (es:=es) (ep:=ep) L ⟨o,g1,g2,g3⟩ ⟨_,rfl,?_⟩;have hf:=G.hok.fresh (aD _);exact⟨.ref s1.heap.objs.size,_,G.laid (a:=s1.heap.objs.size) (o:=VWO s1.heap.objs.size a) (t':=s1.toks) (fun _ _ q=>ag _ q) (aD _) (zpF (ax _ rfl)),rfl,q _ hf⟩
def YB(i:Nat):DTA:=fun o n R=>match o[i]? with
 | some (some (.dtt ks))=>∃rs:List ((Int×Int)×Int),ks=rs.map (fun r=>(r.1,.int r.2))/\rs.length<100000/\(∀r∈rs,RlOk r)/\∀l:List ((Int×Int)×Int),l.Perm rs->l.Pairwise (fun a b=>rkn a<=rkn b)->R (rD l) n
 | _=>False
theorem zdt{K:qF}{hd:Option aj}{O:aj->Prop}{H:Hp}:∀{zs:ZT}{rs:List ((Int×Int)×Int)},Jj K hd O H zs (rs.map fun r=>(r.1,.int r.2))->zs.map zR=rs/\∀z∈zs,z.2.2=.int (zR z).2/\Rep K hd O H (.ref z.2.1) (.tuple [.int z.1.1,.int z.1.2])
 | _,[],r=>by cases r;exact⟨rfl,(fun z hz=>nomatch hz)⟩
 | _,⟨k,s⟩::rs,r=>by
  cases r with
  | cons h1 v r =>obtain⟨o,y⟩:=zdt r;have ev:=v.intI;subst ev;refine⟨by rw[bp,o];rfl,fun z hz=>?_⟩;rcases au.mp hz with rfl|hz;exact⟨rfl,h1⟩;exact y z hz
theorem zkY(i:Nat)(hc:X.calm=true)(hr:Room k X.A)(hm:X.mg "sorted" = none) (hN:X.N[i]?=some x:=by rfl) (U:Vis X.env.scope x:=by walk_at "V") (hd:(x == ("__debug__":Str))=false:=by rfl)
  (hcd:(x == ("__classdict__":Str))=false:=by rfl) (hs:starEach [.Call (.Attribute (.Name x p1) "items" p2) [] [] p3] X.env=[(false,eval (.Call (.Attribute (.Name x p1) "items" p2) [] [] p3) X.env)]:=by rfl) (hg:Gl X "sorted":=by rfl)
  (La:attributeBase (.Name x p1) "items" X.env (eval (.Name x p1) X.env)=eval (.Name x p1) X.env:=by rfl) (Lb:(p2.endLine == p3.line)=true:=by rfl) :
  DN X (.Call (.Name "sorted" p) [.Call (.Attribute (.Name x p1) "items" p2) [] [] p3] [] pos) (YB i):=by
 refine⟨_,QT (zgb hc (by have:=hr.un;lia)) hm oS (JW (zmc hN U hd hcd La Lb) Qi hs) hg,fun C ρ σ H n Q R S hd hq=>?_⟩;unfold YB at hd;split at hd;rename_i ks et;obtain⟨rs,rfl,lr,rok,hR⟩:=hd;obtain⟨a,zs,ep,s1,s2,s3,s4⟩:=S.dtt i _ et;obtain⟨zr,zv⟩:=zdt s3;have lz:zs.length=rs.length:=by rw[<- zr];simp
 refine⟨a,zs,ep,s1,s2,fun v U=>?_⟩;have na:a≠v:=fun z=>by subst z;rw[s2]at U;cases U
 have sm:Same H (upd H v (VWO v a)):=JB U;refine⟨v,a,zs,ep,rfl,Jo,by rw[Jc na];exact s2,by rw[lz];exact lr,fun z hz=>?_,fun Z l H' pm pw sH nl tw hl=>?_⟩;obtain⟨z1,z2⟩:=zv z hz;have ok:=rok (zR z) (by rw[<- zr];exact f9 hz);obtain⟨q,eq,sq⟩:=(z2.same sm).bkI;cases eq;exact⟨sq,ok.1,ok.2.1,_,z1,ok.2.2⟩;have J:Same H H':=sm.trans sH;have pr:(Z.map fun w=>zR w.1).Perm rs:=by have:=pm.map zR;rw[cD,zr]at this;exact this
 have L:H l=none:=by
  cases z:H l with
  | none=>rfl
  | some o=>rw[sm l o z]at nl;cases nl
 refine hq (rD (Z.map fun w=>zR w.1)) n l _ H' (hR _ pr (by rw[cz];exact pw)) J.ext (S.hnd.same J) L hl ?_;have key:∀G:List (((Int×Int)×aj×V)×aj),(∀w∈G,w∈Z)->Reps X.K C.hd (fun b=>Own C ρ σ b\/b=l) H' (G.map fun w=>V.ref w.2) (rD (G.map fun w=>zR w.1)):=by
  intro G;induction G with
  | nil=>intro _;exact .nil
  | cons w G ih =>
   intro hw;have mw:=hw w (.head _);have mz:w.1∈zs:=pm.mem_iff.mp (f9 mw);obtain⟨z1,z2⟩:=zv w.1 mz;obtain⟨t1,t2⟩:=tw w mw;have h0:H w.2=none:=by
    cases z:H w.2 with
    | none=>rfl
    | some o=>rw[sm _ o z]at t1;cases t1
   refine .cons (.tup t2 (fun z=>?_) (.cons ?_ (.cons ?_ .nil))) (ih fun y hy=>hw y (.tail _ hy));rcases z with z|z;exact S.free h0 z;rw[z,hl]at t2;cases t2;exact z2.mono (fun b o Y z=>z.elim id fun z=>by subst z;rw[L]at Y;cases Y) fun b o _ Y=>J b o Y;rw[z1];exact .int _
 exact key Z fun _ h=>h;exact hd.elim
instance zr_ {i:Nat}{ρ:En}{n:Nat}{R:List ah->Nat->Prop}{ks:KT2}[h:GetN ρ i (some (.dtt ks))]:Stp (YB i ρ n R) (∃rs:List ((Int×Int)×Int),ks=rs.map (fun r=>(r.1,.int r.2))/\rs.length<100000/\(∀r∈rs,RlOk r)/\∀rs':List ((Int×Int)×Int),rs'.Perm rs->rs'.Pairwise (fun a b=>rkn a<=rkn b)->R (rD rs') n):=⟨fun k=>by unfold YB;rw[h.e];exact k⟩
end
def KZp(K:qF)(H:Hp)(x:V)(z:(Int×Int)×aj×V):Prop:=∃a,x=.ref a/\SqT K H a [.ref z.2.1,z.2.2]/\SqT K H z.2.1 [.int z.1.1,.int z.1.2]
section
variable{X:Cx}
theorem zj4{pins:qO}{σ:St}{H:Hp}{s:aq}(I:Inv X pins σ H s):∀{vs:List V}{its:List af}{zs:ZT},Vals vs its->bR (KZp X.K H) vs zs ->
  ∃ps:List (List Key×aj×af),bR ZX zs ps/\bR (PrT X.prog X.w s.heap) its ps
 | [],_,_,r,h=>by cases r;cases h;exact⟨[],.nil,.nil⟩
 | v::vs,_,_,r,h=>by
  cases r with
  | cons R N =>
   cases h with
   | @cons _ z _ zs h1 h2 =>
    obtain⟨a,rfl,sq,sk⟩:=h1;obtain⟨ps,U,L⟩:=zj4 I N h2;obtain⟨x,J,it,_⟩:=I.tuple sq;cases J with
    | cons y C =>
     cases C with
     | cons S G =>cases G;rename_i u w;cases(show _=aO a from R);cases(show _=aO z.2.1 from y);exact⟨(kL z.1,z.2.1,w)::ps,.cons ⟨rfl,rfl,S⟩ U,.cons ⟨a,rfl,it,UY (k:=kL z.1) I sk⟩ L⟩
end
def prT(q:(Int×Int)×ah):ah:=.tuple [.tuple [.int q.1.1,.int q.1.2],q.2]
theorem zhn{K:qF}{hd:Option aj}{O:aj->Prop}{H:Hp}:∀{vs:List V}{u:KT2},Reps K hd O H vs (u.map prT)->∃zs:ZT,bR (KZp K H) vs zs/\Jj K hd O H zs u
 | _,[],r=>by cases r;exact⟨[],.nil,.nil⟩
 | _,a::u,r=>by
  cases r with
  | cons h r =>
   obtain⟨zs,I,y⟩:=zhn r;obtain⟨b,L,rfl,sq,J⟩:=h.tupI;cases J with
   | cons x G =>
    cases G with
    | cons C x4 =>cases x4;obtain⟨q,rfl,v⟩:=x.bkI;exact⟨(a.1,q,_)::zs,.cons ⟨b,rfl,sq,v⟩ I,.cons x C y⟩
end L2
namespace L2
open PySem
abbrev RL:=List ((Int×Int)×Int)
def kR(rs:RL):KT2:=rs.map fun r=>(r.1,.int r.2)
def putR(rs:RL)(k:Int×Int)(s:Int):RL:=if (rs.any fun z=>decide (z.1=k))=true then rs.map (fun z=>if z.1=k then(z.1,s) else z) else rs++[(k,s)]
theorem zn1{rs:RL}{k:Int×Int}{s:Int}:putT (kR rs) k (.int s)=kR (putR rs k s):=by
 have l:((kR rs).any fun z=>decide (z.1=k))=rs.any fun z=>decide (z.1=k):=by unfold kR;rw[iP];rfl
 unfold putT putR;rw[l];split;unfold kR;rw[cD,cD];refine e9 fun z _=>?_;dsimp only[pO];split <;> rfl;unfold kR;rw[dM];rfl
theorem zqS{rs:RL}:(kR rs).length=rs.length:=by simp[kR]
def Rls0(bits:Int)(rs:RL):Prop:=(∀r∈rs,IsBk bits r.1.1 r.1.2/\0<=r.2/\r.2<=1)/\(rs.map (·.1)).Nodup
theorem zjV{rs:RL}{k:Int×Int}{s:Int}:(putR rs k s).map (·.1)=if (rs.any fun z=>decide (z.1=k))=true then rs.map (·.1) else rs.map (·.1)++[k]:=by unfold putR;split;rw[cD];refine e9 fun z _=>?_;dsimp only[pO];split <;> rfl;rw[dM];rfl
theorem zl7{rs:RL}{k:Int×Int}{s:Int}:(putR rs k s).length<=rs.length+1:=by unfold putR;split;rw[aR];exact fK _;simp
theorem Rls0.put{bits:Int}{rs:RL}(h:Rls0 bits rs){k:Int×Int}{s:Int}(o:IsBk bits k.1 k.2)(s0:0<=s)(s1:s<=1):Rls0 bits (putR rs k s):=by refine⟨fun r l=>?_,?_⟩;unfold putR at l;split at l;obtain⟨z,hz,rfl⟩:=cE.mp l;have:=h.1 z hz;split;exact⟨this.1,s0,s1⟩;exact this;rcases aC.mp l with l|l;exact h.1 r l;cases aF.mp l;exact⟨o,s0,s1⟩;rw[zjV];split;exact h.2;rename_i x;rw[iS];refine⟨h.2,by simp,fun a v b u=>?_⟩;cases aF.mp u;rintro rfl;obtain⟨z,hz,rfl⟩:=cE.mp v;exact x (sN.mpr ⟨z,hz,by simp⟩)
def bkLt(a b:Int×Int):Prop:=a.1<b.1\/(a.1=b.1/\a.2<b.2)
def Rls(bits:Int)(rs:RL):Prop:=(∀r∈rs,IsBk bits r.1.1 r.1.2/\0<=r.2/\r.2<=1)/\rs.Pairwise fun a b=>bkLt a.1 b.1
theorem Rls0.ok{bits:Int}{rs:RL}(o:bits<=64)(h:Rls0 bits rs):∀r∈rs,RlOk r:=fun r l=>by have:=h.1 r l;have h1:=this.1.1;have u:=this.1.2.1;exact⟨h1,by lia,this.2⟩
theorem Rls0.sort{bits:Int}{rs l:RL}(G:bits<=64)(h:Rls0 bits rs)(pm:l.Perm rs)(pw:l.Pairwise fun a b=>rkn a<=rkn b):Rls bits l:=by refine⟨fun r v=>h.1 r (pm.mem_iff.mp v),?_⟩;have nd:(l.map (·.1)).Nodup:=(pm.map _).nodup_iff.mpr h.2;rw[List.nodup_iff_pairwise_ne,cz]at nd;have al:∀r∈l,RlOk r:=fun r v=>h.ok G r (pm.mem_iff.mp v);refine(pw.and nd).imp_of_mem fun {a b} ha hb ⟨h1,h2⟩=>?_;have y:=al a ha;have x:=al b hb;unfold rkn at h1;unfold RlOk at y x;obtain⟨a1,a2,L,J⟩:=y;obtain⟨C,S,R,I⟩:=x;unfold bkLt;have ne:¬(a.1.1=b.1.1/\a.1.2=b.1.2):=fun z=>h2 (fJ z.1 z.2);by_cases e:a.1.1=b.1.1;right;refine⟨e,?_⟩;have:a.1.2≠b.1.2:=fun z=>ne ⟨e,z⟩;lia;left;lia
end L2
namespace Bd
open PySem PySem.W PySem.Calls L2 PyProof.Rows
structure ZZ where
 P:aJ
 w:a7
 K:qF
 mg:Str->Option af
 base:aW
def FQ(Z:ZZ)(x:Str)(st:eK)(ps:List Str)(k:Nat)(l:Sp):Prop:=Fq Z.P Z.w Z.K Z.mg Z.base x st ps k l
theorem okQ{Z:ZZ}{x:Str}{st:eK}{ps N:List Str}{k m:Nat}{g:GD}(D:Dq Z.K Z.mg x st ps)(S:Qk N ps (Jw st))(C:m=ps.length)
  (u:∀(f:aj) (l:af) (A:aX) (outer:List Env) (s:aq) (H:Hp) (E:XK),Room k (A.deeper (envOfC x (Jw st) s.heap.objs.size f l))->∃d,DSs (cxOf CX0 Z.P Z.w Z.K Z.mg Z.base N x (Jw st) f l A outer s H E).nox (JV st) d /\
   ∀ts n R,ts.length=m->g ts n R->d { nx:=fun _ v=>R .none v,rt:=R } (JS N ts) n):FQ Z x st ps (k+1) (spD Z.K m g):=by
 obtain⟨f,fd,D⟩:=D;exact⟨f,fd,D,D.okD S C fun l A outer s H E y=>u f l A outer s H E y⟩
theorem bnd1{x:Str}{st:eK}{a:Str}(h:∀(kV doc pm:af) (an:Option aj) (l ct u:af),bindArgs (eQ x x (Qp st) (JV st) (Jw st) .none kV doc pm an l ct) ⟨[u],[]⟩=pure [(a,u)]):BndA x st [a]:=fun _ _ _ _ _ _ y v=>by obtain⟨_,rfl⟩:=len1 v;exact h ..
theorem bnd2{x:Str}{st:eK}{a b:Str}(h:∀(kV doc pm:af) (an:Option aj) (l ct u v:af),bindArgs (eQ x x (Qp st) (JV st) (Jw st) .none kV doc pm an l ct) ⟨[u,v],[]⟩=pure [(a,u),(b,v)]):BndA x st [a,b]:=fun _ _ _ _ _ _ C y=>by obtain⟨_,_,rfl⟩:=len2 y;exact h ..
theorem bnd3{x:Str}{st:eK}{a b c:Str}(h:∀(kV doc pm:af) (an:Option aj) (l ct u v y:af),bindArgs (eQ x x (Qp st) (JV st) (Jw st) .none kV doc pm an l ct) ⟨[u,v,y],[]⟩=pure [(a,u),(b,v),(c,y)]):BndA x st [a,b,c]:=fun _ _ _ _ _ _ G C=>by obtain⟨_,_,_,rfl⟩:=len3 C;exact h ..
def JP(h:aW):qF:=(eJ h.objs.size).filterMap fun a=>(h.get? a).map fun o=>(a,o)
theorem zkp{h:aW}:∀{as:List aj}{a:aj},a∈as->(as.filterMap fun a=>(h.get? a).map fun o=>(a,o)).lookup a=h.get? a\/h.get? a=none
 | [],_,m=>nomatch m
 | b::as,a,m=>by
  by_cases e:a=b;subst e;cases g:h.get? a with
  | none=>exact .inr rfl
  | some o=>exact .inl (by rw[eE];simp[g,dR])
  have x:a∈as:=(au.mp m).resolve_left e;rcases zkp (h:=h) x with z|z;refine .inl ?_;rw[eE];cases g:h.get? b with
  | none=>exact z
  | some o =>
   have:(a == b)=false:=by simpa using e
   simp only[gE];rw[dR,this];exact z
  exact .inr z
theorem Yp{h:aW}{a:aj}{o:Obj}(e:h.get? a=some o):(JP h).lookup a=some o:=by have m:a∈eJ h.objs.size:=lC.mpr (aw e);rcases zkp (h:=h) m with z|z;exact z.trans e;rw[e]at z;cases z
theorem ze9{h:aW}:(JP h).In h:=fun a o e=>by
 have key:∀(as:List aj),(as.filterMap fun a=>(h.get? a).map fun o=>(a,o)).lookup a=some o->h.get? a=some o:=by
  intro as;induction as with
  | nil=>intro z;cases z
  | cons b as v =>
   intro z;rw[eE]at z;cases g:h.get? b with
   | none=>rw[g]at z;exact v z
   | some x =>
    rw[g]at z;simp only[gE,dR]at z;cases q:a == b with
    | true=>rw[q]at z;cases z;rw[eq_of_beq q];exact g
    | false=>rw[q]at z;exact v z
 exact key _ e
def YY:eK->Bool
 | .FunctionDef ..=>true
 | _=>false
def defName:eK->Str
 | .FunctionDef n _ _ _ _ _ _ _ _ _=>n
 | _=>aM ""
def zrR:eK->Pos
 | .FunctionDef _ _ _ _ _ _ _ _ _ p=>p
 | _=>⟨0,0,0,0⟩
def recD(st:eK):DefRec:=⟨defName st,Qp st,JV st,Jw st,zrR st⟩
theorem getD_mem{l:List eK}{i:Nat}(h:YY (l.getD i (.Pass ⟨0,0,0,0⟩))=true):l.getD i (.Pass ⟨0,0,0,0⟩)∈l:=by
 rw[bH]at h ⊢;cases e:l[i]? with
 | none=>rw[e]at h;cases h
 | some s=>exact aP e
section
variable{q:aJ}{loose:List Str}{Lq:rT->Option af}{mg mb:qM}{h:aW}{x:Str}{st:eK}{ps:List Str}
theorem zlo{cd:af}{n:Str}(c:h.CodeRec cd n):iI (JP h) cd n=true:=by
 obtain⟨a,o,vs,t,rfl,g,d,e⟩:=c;unfold iI;dsimp only;rw[Yp g];obtain⟨u,v,l,y⟩:=o;cases(show l=_ from d);have l2:vs.toList[1]?=some (.str n t):=by simpa using e
 dsimp only;match hv:vs.toList,l2 with
 | [],l2=>simp at l2
 | [_],l2=>simp at l2
 | a::b::r,l2 =>
  have:b=.str n t:=by simpa using l2
  subst this;simp
end
end Bd
namespace L2
open PySem PySem.Spec PyProof PyProof.Rows
theorem zje{a:aj}{ep:Nat}:ZDO a [] ep=KDO a [] ep:=by unfold ZDO KDO;congr 1;funext h;have e:∀l:List iD,bR entZ [] l↔bR entI [] l:=fun l=>⟨fun h=>by cases h;exact .nil,fun h=>by cases h;exact .nil⟩;simp only[e,gx,cT,t5]
theorem zo6{l:KT2}{ls:List (Int×ah)}(e:JF l=UN ls):l=[]/\ls=[]:=by
 cases l with
 | nil=>cases ls with
  | nil=>exact⟨rfl,rfl⟩
  | cons _ _=>cases e
 | cons a l=>cases ls with
  | nil=>cases e
  | cons b ls =>have h:=(oZ (h7 (show(blkT a.1,a.2)::JF l=(cg b.1,b.2)::UN ls from e)).1).1;cases h
abbrev BL:=List (Int×Int)
theorem CanP.congr{S T:Int->Prop}{ps:BL}(h:CanP S ps)(e:∀x,S x↔T x):CanP T ps:=by obtain⟨rs,a,b,c⟩:=h;exact⟨rs,a,fun x=>(b x).trans (e x),c⟩
theorem zdT:∀{l ls:KT2},JF l=JF ls->l=ls
 | [],[],_=>rfl
 | [],_::_,e=>by cases e
 | _::_,[],e=>by cases e
 | (a,b)::l,(c,d)::ls,e=>by have h:=h7 (show(blkT a,b)::JF l=(blkT c,d)::JF ls from e);have h1:=oZ h.1;have o:=BF h1.1;have u:=t8 (h7 o).1;have v:=t8 (h7 (h7 o).2).1;rw[h1.2,zdT h.2,fJ u v]
section
variable{K:qF}{hd:Option aj}{O:aj->Prop}{H:Hp}
theorem Rep.dtI{v:V}{u:KT2}(h:Rep K hd O H v (.dict (JF u))):∃a zs ep,v=.ref a/\H a=some (ZDO a zs ep)/\¬O a/\Jj K hd O H zs u:=by
 generalize e:sQ (JF u)=t at h;cases h with
 | @dct a ep h o =>
  have e:=dg e;cases u with
  | nil=>exact⟨a,[],ep,rfl,by rw[zje];exact h,o,.nil⟩
  | cons _ _=>cases e
 | @dcK a kvs ep ks' ps h o r e' =>have e:=dg e;rw[e']at e;obtain⟨rfl,rfl⟩:=zo6 e;cases r;exact⟨a,[],ep,rfl,by rw[zje];exact h,o,.nil⟩
 | @dcT a zs ep ks' ps h o r e' =>have e:=dg e;rw[e']at e;rw[zdT e];exact⟨a,zs,ep,rfl,h,o,r⟩
 | hand _=>exact(dict_noT (dg e).symm).elim
 | scr _ _=>exact(dict_noT (dg e).symm).elim
 | scrS _=>exact(dict_noT (dg e).symm).elim
 | exc _ _=>exact(dict_noT (dg e).symm).elim
 | _=>cases e
theorem RepT.dtI{v:V}{u:KT2}(h:RepT K hd O H v (.dict (JF u))):∃a zs ep,v=.ref a/\H a=some (ZDO a zs ep)/\Jj K hd O H zs u:=by rcases h with h|⟨p,vs,ds,rfl,o,h1,l,x⟩|⟨p,zs,ep,y,rfl,o,h1,l,x⟩;obtain⟨a,zs,ep,e,h1,_,l⟩:=h.dtI;exact⟨a,zs,ep,e,h1,l⟩;cases o;rw[zdT (dg o)];exact⟨p,zs,ep,rfl,h1,l⟩
def valZ(zs:ZT)(k:Int×Int):Option V:=(zs.find? fun z=>decide (z.1=k)).map (·.2.2)
theorem Jj.val{zs:ZT}{l:KT2}(r:Jj K hd O H zs l){k:Int×Int}{d:ah}(h:valT l k=some d):∃v,valZ zs k=some v/\Rep K hd O H v d:=by
 induction zs generalizing l with
 | nil=>cases r;simp[valT]at h
 | cons y zs o =>
  cases r with
  | @cons k' q v' d' zs l h1 h2 r =>unfold valT at h;unfold valZ;rw[fF]at h ⊢;dsimp only at h ⊢;by_cases e:k'=k;rw[decide_eq_true e]at h ⊢;cases h;exact⟨v',rfl,h2⟩;rw[decide_eq_false e]at h ⊢;exact o r h
theorem zmL{l:KT2}{k:Int×Int}:(l.any ((fun z=>decide (z=k))∘fun x=>x.1))=(l.find? fun z=>decide (z.1=k)).isSome:=by
 induction l with
 | nil=>rfl
 | cons y l u =>rw[vv,fF];show(decide (y.1=k)||_)=_;cases decide (y.1=k);exact u;rfl
theorem Jj.anyK{zs:ZT}{l:KT2}(r:Jj K hd O H zs l)(k:Int×Int):(zs.any fun z=>decide (z.1=k))=(valT l k).isSome:=by
 have u:(zs.any fun z=>decide (z.1=k))=(zs.map (·.1)).any fun z=>decide (z=k):=by rw[iP];rfl
 rw[u,r.keys,iP];unfold valT;rw[Option.isSome_map];exact zmL
end
theorem zpA{zs:ZT}{xs:List (List Key×aj×af)}(r:bR ZX zs xs){k:Int×Int}{v:V}(h:valZ zs k=some v):∃p,atKey xs (kL k)=some p/\RelV v p.2:=by
 induction r with
 | nil=>simp[valZ]at h
 | @cons z x zs xs h1 t ih =>
  unfold valZ at h;rw[fF]at h;by_cases e:z.1=k;rw[decide_eq_true e]at h;cases h;have:x.1=kL k:=by rw[h1.1,e]
  exact⟨x.2,by simp[atKey,fF,this],h1.2.2⟩;rw[decide_eq_false e]at h;have:¬x.1=kL k:=fun l=>e (UX.mp (h1.1.symm.trans l));obtain⟨p,o,p2⟩:=ih h;refine⟨p,?_,p2⟩;rw[<- o];simp[atKey,fF,this]
section
variable{X:Cx}{a b iter tg:bg}{da db dd:DTE}{pos p:Pos}{k:Nat}
def zr7(K:qF)(H:Hp)(y:V)(k:Int×Int):Prop:=∃b,y=.ref b/\SqT K H b [.int k.1,.int k.2]
def zr8(K:qF)(H:Hp)(x:V)(zs:ZT):Prop:=∃a ep,x=.ref a/\H a=some (ZDO a zs ep)/\∀z∈zs,SqT K H z.2.1 [.int z.1.1,.int z.1.2]
def rInT(K:qF)(neg:Bool):R2:=fun x y H Q=>∃k zs,zr7 K H x k/\zr8 K H y zs/\Q (.bl (if neg then !(zs.any fun z=>decide (z.1=k)) else zs.any fun z=>decide (z.1=k))) H
theorem zqC(N:X.A.units+1<cLine):OpR X (compareOp .In) (rInT X.K false):=by intro pins s σ H x y v u Q I J o h;obtain⟨k,zs,⟨b,rfl,sq⟩,⟨a,ep,rfl,C,R⟩,q⟩:=h;cases(show v=aO b from J);cases(show u=aO a from o);obtain⟨G,S,xs,L,dd⟩:=zjd I C R;refine wpAny_in_heap (lY N) (UY (k:=kL k) I sq) G dd ?_;rw[zm2 L];exact⟨.bl _,H,I.tok _,rfl,q⟩
def oInT(neg:Bool):G2:=fun x y R=>∃(k:Int×Int) (v:KT2),x=.tuple [.int k.1,.int k.2]/\y=.dict (JF v)/\R (.bool (if neg then !(valT v k).isSome else(valT v k).isSome))
theorem RepT.bkI{K:qF}{hd:Option aj}{O:aj->Prop}{H:Hp}{v:V}{a b:Int}(h:RepT K hd O H v (.tuple [.int a,.int b])):∃q,v=.ref q/\SqT K H q [.int a,.int b]:=by rcases h with h|⟨p,vs,ds,rfl,o,h1,C,x⟩|⟨p,zs,ep,y,rfl,o,h1,C,x⟩;exact h.bkI;cases o;cases o
theorem zrA{neg:Bool}:Gp2 X (rInT X.K neg) (oInT neg):=by intro hd O H x y t u Q R dom C o h G;obtain⟨k,I,rfl,rfl,r⟩:=h;obtain⟨a,zs,ep,rfl,v,rk⟩:=o.dtI;refine⟨k,zs,C.bkI,⟨a,ep,rfl,v,rk.sq⟩,?_⟩;rw[rk.anyK k];exact G _ _ H r (Same.refl H) (.bl _)
theorem zri{k:Int×Int}{v:KT2}{neg:Bool}{R:ah->Prop}(h:R (.bool (if neg then !(valT v k).isSome else(valT v k).isSome))):oInT neg (.tuple [.int k.1,.int k.2]) (.dict (JF v)) R:=⟨k,v,rfl,rfl,h⟩
def rIxZ(K:qF):R2:=fun x y H Q=>∃k zs v,zr7 K H y k/\zr8 K H x zs/\valZ zs k=some v/\Q v H
theorem zqB(R:X.A.units+1<cLine){pins:qO}{s:aq}{σ:St}{H:Hp}{x y:V}{v u:af}{Q:VK}{E:qV}(I:Inv X pins σ H s)(L:RelV x v)(l:RelV y u)(h:rIxZ X.K x y H Q):(∃a,v=.ref a/\s.TypeIs (.ref a) "dict")/\wpAny (model X.prog X.w) X.A (getItem v u) (EP X pins σ Q) E s:=by obtain⟨k,zs,w,⟨b,rfl,sq⟩,⟨a,ep,rfl,G,S⟩,C,q⟩:=h;cases(show v=aO a from L);cases(show u=aO b from l);obtain⟨Y,U,xs,N,dd⟩:=zjd I G S;obtain⟨p,J,p2⟩:=zpA N C;refine⟨⟨a,rfl,?_⟩,wpAny_getItem_heap (lY R) (UY (k:=kL k) I sq) dd J ⟨w,H,I.tok _,p2,q⟩⟩;obtain⟨o,g,c⟩:=zk3 dd;exact⟨o,g,c⟩
end
section
variable{X:Cx}{a b e:bg}{da db d:DTE}{pos p:Pos}{k:Nat}{x:Str}{ta tb:TE}
theorem zqo(U:X.A.units+1<cLine)(o:PE X a ta)(hi:PE X b tb)(J:NoSl b):PE X (.Subscript a b pos) (tOp (rIxZ X.K) ta tb):=by intro pins s σ H Q I h;refine znK PySem.F.slot_dict_getitem.lookup J (thn (o pins s σ H _ I h) fun u s1 ⟨x,Y,N,R,l⟩=>thn (hi pins s1 σ Y _ N l) fun iv s2 ⟨y,Z,L,v,C⟩=>?_);obtain⟨⟨a,G,ty⟩,w⟩:=zqB (E:=X.xe) U L R v C;subst G;exact⟨ty,w⟩
def oIxZ:G2:=fun x y R=>∃(k:Int×Int) (o:KT2) (d:ah),x=.dict (JF o)/\y=.tuple [.int k.1,.int k.2]/\valT o k=some d/\R d
theorem zrz:Gp2 X (rIxZ X.K) oIxZ:=by intro hd O H x y t u Q R dom J l h L;obtain⟨k,N,d,rfl,rfl,o,r⟩:=h;obtain⟨a,zs,ep,rfl,C,rk⟩:=J.dtI;obtain⟨v,G,I⟩:=rk.val o;exact⟨k,zs,v,l.bkI,⟨a,ep,rfl,C,rk.sq⟩,G,L _ _ H r (Same.refl H) I⟩
theorem zrT(hu:X.A.units+1<cLine)(l:DL X a da)(o:DL X b db)(Y:NoSl b:=by intro _ _;rfl):DE X (.Subscript a b pos) (dOp oIxZ da db):=by obtain⟨ta,pa,l⟩:=l;obtain⟨tb,Z,o⟩:=o;refine⟨_,zqo hu pa Z Y,fun C ρ σ H n Q R S h hq=>?_⟩;refine two l o S h fun x y L v w U r2 e I J N=>?_;exact zrz C.hd (Own C ρ σ) U v w x y Q _ (fun p=>I.dom) J N r2 fun z u H' rz G rp=>hq z L u H' rz (e.trans G.ext) (I.hnd.same G) rp
theorem ztQ{k:Int×Int}{o:KT2}{d:ah}{R:ah->Prop}(v:valT o k=some d)(h:R d):oIxZ (.dict (JF o)) (.tuple [.int k.1,.int k.2]) R:=⟨k,o,d,rfl,rfl,v,h⟩
end
abbrev PR:=List ((Int×Int)×(Int×Int))
abbrev upH(b:Int×Int):Int×Int:=(cY b.1 (2 ^ (b.2 - 1).toNat),b.2 - 1)
abbrev loH(b:Int×Int):Int×Int:=(b.1,b.2 - 1)
abbrev NP:=(Int×Int)×Str
end L2
namespace Bd
open PySem L2
theorem zoW{Z:ZZ}{x:Str}{st:eK}{ps:List Str}{k m:Nat}{g:GD}(D:Dq Z.K Z.mg x st ps)(h:∀ts n R,g ts n R->False):FQ Z x st ps k (spD Z.K m g):=by
 obtain⟨f,fd,D⟩:=D;have no:∀vs H Q E,spD Z.K m g vs H Q E->False:=fun vs H Q E z=>by obtain⟨hd,O,ts,n,R,_,_,_,_,_,z,_⟩:=z;exact h ts n R z
 exact⟨f,fd,D,⟨fun vs H Q E z=>(no vs H Q E z).elim,fun A outer s H args o vs Q E _ _ _ _ z=>(no vs H Q E z).elim⟩⟩
end Bd
namespace L2
open PySem PySem.Spec PyProof PyProof.Rows
section
variable{tg tg2:DTG}{tt tt2:DTT}{d:DTE}{di2:DTA}{ρ0:En}{n:Nat}
theorem zes{α:Type}{cs:List α}{D:α->ah}{o:List ah->Nat->Prop}(F:α->ah)
  (step:∀b∈cs,∀(K:qN) (X:Nat->Prop),K (F b) n->tg (D b) ρ0 fun u=>tt u n fun c v=>if c=true then d u v K else X v) :
  ∀(xs:List α) (acc:qD),(∀x∈xs,x∈cs)->acc.length+xs.length<=16777216->o (acc++xs.map F) n->JD tg tt d ρ0 (xs.map D) acc n o
 | [],acc,_,_,h=>by
  have h:o acc n:=by simpa using h
  exact h
 | x::xs,acc,hx,hl,h=>by
  have I:acc.length+(xs.length+1)<=16777216:=hl;exact step x (hx x (.head _)) (fun t G=>acc.length<16777216/\JD tg tt d ρ0 (xs.map D) (acc++[t]) G o) (fun v=>JD tg tt d ρ0 (xs.map D) acc v o)
   ⟨by omega,zes (cs:=cs) F step xs _ (fun y C=>hx y (.tail _ C)) (by simp;omega) (by simpa using h)⟩
theorem zln{α I:Type}{cs:List α}{D:α->ah}{G:I->ah}{P:α->List I->Prop}{J:List ah->Nat->Prop}(m:Nat)(Z:∀b u,P b u->u.length<=m)
  (step:∀b∈cs,∀(acc:qD) (K:List ah->Nat->Prop) (X:Nat->Prop),acc.length<=m*cs.length->(∀u,P b u->K (acc++u.map G) n)->tg (D b) ρ0 fun v=>tt v n fun c C=>if c=true then di2 v C fun ts n3=>JD tg2 tt2 d v ts acc n3 K else X C)
  (fin:∀o:List (List I),o.length=cs.length->(∀(i:Nat) b u,cs[i]?=some b->o[i]?=some u->P b u)->J (o.flatten.map G) n):Qo tg tt di2 tg2 tt2 d ρ0 (cs.map D) [] n J:=by
 have key:∀(xs:List α) (acc:qD) (R:List ah->Nat->Prop),(∀x∈xs,x∈cs)->acc.length+m*xs.length<=m*cs.length->(∀o:List (List I),o.length=xs.length->(∀(i:Nat) b u,xs[i]?=some b->o[i]?=some u->P b u)->R (acc++o.flatten.map G) n)->Qo tg tt di2 tg2 tt2 d ρ0 (xs.map D) acc n R:=by
  intro xs;induction xs with
  | nil =>
   intro acc R _ _ h;have h:R acc n:=by simpa using h [] rfl (fun i b u e=>by simp at e)
   exact h
  | cons x xs S =>
   intro acc R hx U h;have hl':acc.length+(m*xs.length+m)<=m*cs.length:=U;refine step x (hx x (.head _)) acc _ (fun C=>Qo tg tt di2 tg2 tt2 d ρ0 (xs.map D) acc C R) (by omega) fun u N=>?_;refine S (acc++u.map G) R (fun y Y=>hx y (.tail _ Y)) (by have:=Z x u N;simp;omega) fun o el pw=>?_;have:=h (u::o) (by simp[el]) fun i b vs L ev=>by
    cases i with
    | zero=>cases L;cases ev;exact N
    | succ i=>exact pw i b vs L ev
   simpa[aY] using this
 exact key cs [] J (fun _ h=>h) (by simp) (by simpa using fin)
end
end L2
namespace L2
open PySem PySem.Spec PyProof.Rows
def ndup:List Str->Bool
 | []=>true
 | x::l=>!l.any (fun y=>decide (x=y))&&ndup l
theorem ndB{l:List Str}(h:ndup l=true):l.Nodup:=by
 induction l with
 | nil=>exact .nil
 | cons x l o =>simp only[ndup,cc,gM,mE,decide_eq_true_eq]at h;exact dI.mpr ⟨fun m=>h.1 x m rfl,o h.2⟩
def fnB(N P:List Str)(sc:e8):Bool:=(match sc.kind with|.function=>true|_=>false)&&!sc.isCoroutine&&!sc.isGenerator&&ndup N&&decide (N.take P.length=P)&&P.all (fun x=>decide (sc.names.lookup x=some .local\/sc.names.lookup x=some .cell))&&sc.names.all fun y=>decide (y.2≠.free)
theorem fnS{N P:List Str}{sc:e8}(h:fnB N P sc=true):Qk N P sc:=by simp only[fnB,cc,gM,decide_eq_true_eq,dw]at h;obtain⟨⟨⟨⟨⟨⟨a,b⟩,c⟩,d⟩,e⟩,f⟩,g⟩:=h;exact⟨(by cases q:sc.kind <;> rw[q]at a <;> first|rfl|(exact nomatch a)),b,c,ndB d,e,f,g⟩
section
variable{X:Cx}{x:Str}{e:bg}{es:List bg}{d:DTE}{ds:DTA}{pos pos':Pos}
theorem dlv(i:Nat)(u:X.N[i]?=some x:=by rfl)(o:Vis X.env.scope x:=by walk_at "V")(hd:(x == ("__debug__":Str))=false:=by rfl)
  (l:(x == ("__classdict__":Str))=false:=by rfl):DL X (.Name x pos) (dVar i):=dl (Jr i u o hd l)
theorem dli{i j}:DL X (.Constant (.int i) j pos) (dC (.int i)):=dl Jg
theorem dbc(h:DE X e d)(o:DB X es ds)(l:starEach (e::es) X.env=(false,eval e X.env)::starEach es X.env:=by rfl):DB X (e::es) (Qa d ds):=zle h o l
theorem dbv(i:Nat)(v:DB X es ds)(u:X.N[i]?=some x:=by rfl)(o:Vis X.env.scope x:=by walk_at "V")(hd:(x == ("__debug__":Str))=false:=by rfl)
  (l:(x == ("__classdict__":Str))=false:=by rfl):DB X (.Name x pos::es) (Qa (dVar i) ds):=zle (Jr i u o hd l) v rfl
theorem dsv(i:Nat)(u:X.N.Nodup)(h:DE X e d)(hi:X.N[i]?=some x:=by rfl)(hx:Loc X.env.scope x:=by first|exact iA rfl|exact Or.inr rfl)(v:swapsWith e (some (.Name x pos')) pos.line X.env=pure false:=by rfl)
  (hf:X.fn x=true\/X.env.scope.names.lookup x=some .local:=by walk_at "F"):DS X (.Assign [.Name x pos'] e pos) (sSet i d):=zrN u hi hx h v hf
theorem dgv(i:Nat)(u:X.N.Nodup)(hi:X.N[i]?=some x:=by rfl)(hx:Loc X.env.scope x:=by first|exact iA rfl|exact Or.inr rfl)(hf:X.fn x=true\/X.env.scope.names.lookup x=some .local:=by walk_at "F"):DG X (.Name x pos) [i] (Qf i):=zo7 u hi hx hf
end
section
variable{X:Cx}{scope:e8}{iter elt:bg}{ifs:List bg}{tg:bg}{pos:Pos}{is:List Nat}{di:DTA}{g:DTG}{tt:DTT}{te:DTE}
theorem dnc(own:List Str)(capt:List Nat)(hi:DIL X tg iter di)(v:∀C s₀ H₀ l,DG (Ja X scope own capt C s₀ H₀ l) tg is g)(he:∀C s₀ H₀ l,DE (Ja X scope own capt C s₀ H₀ l) elt te)
  (hc:X.calm=true:=by rfl) (h:zdV scope X.env.scope X.N capt=true:=by rfl) (u:∀i∈is,i<own.length:=by decide) (y:∀x,foldedSetIterable iter X.env x=pure x:=by intro _;rfl):DN X (.ListComp elt [⟨tg,iter,[],0⟩] scope pos) (dComp own.length capt di g dYes te) :=
 zo5 hc (JC.of h) hi v u (fun _ _ _ _=>Q4) he y
end
end L2
namespace Bd
open PySem PySem.W PySem.Calls L2 PyProof.Rows
abbrev PLs:=List (Str×List (Str×List Str))
abbrev FLs:=List (Str×List Str)
end Bd
namespace Bd
open PySem PySem.W PySem.Calls L2 PyProof.Rows
def QS(o:String->Option dh)(p:aJ)(w:a7)(l:Nat)(ann:Option af):Nat->wB->Thread->Option wB
 | 0,_,_=>none
 | n+1,s,t=>match through t with
  | true=>some s
  | false=>match stepOk l ann t with
   | false=>none
   | true=>match stepT (denote o) p w s t with
    | some (s',t')=>QS o p w l ann n s' t'
    | none=>none
theorem zec{o:String->Option dh}{p:aJ}{w:a7}{l:Nat}{ann:Option af}:∀{n:Nat}{s s':wB}{t:Thread},QS o p w l ann n s t=some s'->topRun o p w l ann n s.abs t=some s'.abs
 | 0,_,_,_,h=>by cases h
 | n+1,s,s',t,h=>by
  unfold QS at h;unfold topRun;cases he:through t with
  | true=>rw[he]at h;cases h;rfl
  | false =>
   rw[he]at h;cases hk:stepOk l ann t with
   | false=>rw[hk]at h;cases h
   | true =>
    rw[hk]at h;cases hs:stepT (denote o) p w s t with
    | none=>rw[hs]at h;cases h
    | some r=>obtain⟨v,u⟩:=r;rw[hs]at h;dsimp only at h ⊢;rw[stepT_spec hs];exact zec h
def znn:List Obj->Nat->BT->BT
 | [],_,t=>t
 | o::r,i,t=>znn r (i+1) (t.ins i o)
noncomputable def zpg (P:tU):BT:=znn (dF P).objs.toList 0 .nil
noncomputable def zi7 (w:a7) (os:rV):wB:=⟨zpg w.params,11,(dF w.params).life,#[],nX,o9,os⟩
theorem boot_abs(P:tU):absHeap (zpg P) 11 (dF P).life=dF P:=by kernel_rfl
theorem zlw(P:tU):(dF P).objs.size=11:=by kernel_rfl
theorem zpf(P:tU):(dF P).isNs mainGlobals=true:=by kernel_rfl
def YD(p:aJ)(h₀:aW)(l:aq):Bool:=staticsOk (importedModules p.main.body) h₀ l.heap&&namesBound p l.heap&&gensDone l&&laidKept h₀ l.heap
theorem zks{p q:aJ}{loose:List Str}{u:aq->Bool}{α:Type}{v:aq->α}{o:a7->α}{N:Nat}(e:opening p=plainProg p.main.scope.names)(G:Nat.ble 600 N=true)(L:∀s,fenceModules? p s=some s)
  (run:∀(w:a7) (os:rV),(QS treeTable p w 11 ((dF w.params).nsMap mainGlobals "__annotations__") N (zi7 w os) (topStub p)).map (fun s=>(YD p (dF w.params) s.abs,openSeen q loose (importedModules p.main.body) u true s.abs,v s.abs))=some (true,openGood q loose,o w)) :
  LeftO p q loose u v o N true:=fun w=>by
 obtain⟨⟨h,S,d,k,os⟩,R,C⟩:=cO.mp (boot_open e G L w);obtain⟨rfl,rfl,rfl,rfl⟩:h=dF w.params/\S=#[]/\d=nX/\k=o9:=by simpa using C
 obtain⟨x,r,l⟩:=cO.mp (run w os);have y:(zi7 w os).abs=⟨dF w.params,#[],nX,o9,os⟩:=by show(⟨absHeap (zpg w.params) 11 (dF w.params).life,#[],nX,o9,os⟩:aq)=_;rw[boot_abs]
 have r:=zec r;rw[y]at r;obtain⟨J,l2⟩:=oZ l;obtain⟨l2,I⟩:=oZ l2;have t:topFrom treeTable p w N ⟨dF w.params,#[],nX,o9,os⟩=some x.abs:=by unfold topFrom;dsimp only;rw[zpf,zlw,r];show(match YD p (dF w.params) x.abs with|true=>_|false=>_)=_;rw[J]
 unfold openEnds;rw[R];show(topFrom treeTable p w N _).map _=_;rw[t];exact congrArg some (fJ l2 I)
theorem map3{α v C l u:Type}{o:Option α}{f:α->v×C}{g:α->l×u}{a:v}{y:C}{b:l×u}(h:o.map f=some (a,y))(h1:o.map (fun s=>(g s).1)=some b.1)(I:o.map (fun s=>(g s).2)=some b.2):o.map (fun s=>((f s).1,g s,(f s).2))=some (a,b,y):=by
 cases o with
 | none=>cases h
 | some x =>have e:=aQ h;have J:(g x).1=b.1:=aQ h1;have G:(g x).2=b.2:=aQ I;show some ((f x).1,g x,(f x).2)=_;rw[e,show g x=b from fJ J G]
end Bd
namespace L2
open PySem PySem.Spec PyProof.Rows
abbrev GX:=List ah->Nat->(ah->Nat->Prop)->(Str->Nat->Prop)->Prop
end L2
namespace L2
open PySem PySem.Spec PySem.W PyProof.Rows
theorem zi9{pos o:Pos}{c v:af}(l:List af)(h:vH l)(e:codeAmong o (l++[rawInt pos.line,rawInt pos.col,c])=some v):codeAmong o l=some v\/v=c:=by
 fun_induction vH l with
 | case1 =>simp only[fC,codeAmong,rawInt]at e;split at e;exact .inr (aQ e).symm;cases e
 | case2 a t b u x rest C =>simp only[eN,codeAmong]at e ⊢;split at e;rename_i hc;rw[if_pos hc];exact .inl e;rename_i hc;rw[if_neg hc];exact C h e
 | case3 l h1 G=>exact h.elim
structure zps(mg:qM)(base:aW)(c P:aj):Prop where
 code:CodeHd base c P
 bm:∃bm ob,mg "__builtins__" = some (.ref bm)/\bm≠builtinsNs/\base.get? bm=some ob/\ob.cls=.type "module" /\ ob.dict=some builtinsNs/\ob.data=.plain
def YF(H:Hp)(v:af)(q:Str):Prop:=∃(c:aj) (o:Obj) (u:HO) (vs:Array af) (t:Tok),v=.ref c/\H c=some (.frz o u)/\o.data=.fields vs/\vs[1]?=some (.str q t)
theorem YF.rec{P:aJ}{w:a7}{H:Hp}{h:aW}{l:af}{q:Str}(x:YF H l q)(ok:HOk P w H h):h.CodeRec l q:=by obtain⟨c,o,u,vs,t,e,hc,hd,v⟩:=x;exact⟨c,o,vs,t,e,(ok c _ hc).1,hd,v⟩
abbrev lamO(q:Str)(params:m5)(body:bg)(scope:e8)(pm cv ctv:af):Obj:={ cls:=.type "function",data:=.func (kla_fn "<lambda>" q params body scope [] pm cv ctv) }
theorem zrI{X:Cx}{pins:qO}{σ:St}{H:Hp}{s:aq}{M:sO}{A:aX}{E:qV}{c P:aj}{q:Str}{params:m5}{body:bg}{scope:e8}{pos:Pos}{Q:qV}(I:Inv X pins σ H s)
  (L:zps X.mg X.base c P) (hP:X.H₀ P=some (.tbl q)) (LI:X.env.code=.ref c) (hcl:closureFor scope X.env=pure []) (L0:defaultsOf params X.env=([],[])) (hq:X.env.qual ++ "<lambda>" = q)
  (h:∀f cv C pm H' s',Inv X pins σ H' s'->(∀b o,H b=some o->H' b=some o)->s.heap.objs.size<=f->s'.heap.get? f=some (lamO q params body scope pm cv C)->H' f=none->YF H' cv q->Q (.ref f) s') :
  wpAny M A (eval (.Lambda params body scope pos) X.env) Q E s:=by
 have hH:H P=some (.tbl q):=I.base.tbls P q hP;obtain⟨ps,hps,ht,R⟩:=I.hok P _ hH;have U:=I.bk;have hgs:s.heap.Ns mainGlobals X.mg:=I.ok.mod.glob.keeps U;obtain⟨bm,ob,b1,b2,b3,b4,b5,b6⟩:=L.bm;have nP:∀b o,X.base.get? b=some o->b≠P:=fun b o e z=>by have:=(I.bs b o e).2;rw[z,hH]at this;cases this
 have hgP:mainGlobals≠P:=by obtain⟨o,es,ep,e,_⟩:=I.ok.mod.glob;exact nP _ _ e
 have hbG:bm≠mainGlobals:=fun z=>by obtain⟨o,es,ep,e,hd,_⟩:=I.ok.mod.glob;rw[z,e]at b3;cases b3;rw[hd]at b6;cases b6
 have hb:s.heap.BuiltinsAt X.mg P:=⟨bm,ob,b1,b2,hbG,nP _ _ b3,U _ _ b3,b4,b5,b6⟩;refine kla_eval L0 ?_;rw[hq];cases hf:codeAmong pos ps.toList with
 | some cv =>obtain⟨c',o,u,vs,t,rfl,hc',N,hv'⟩:=R pos cv hf;refine kla_makeFunctionHit hcl I.ok.glob hgs LI (L.code.keeps U) hps ht hf hb fun C h' tk hk hsz=>?_;have G:∀b o,s.heap.get? b=some o->(h'.push (lamO q params body scope ((X.mg "__name__").getD .none) (.ref c') C)).get? b=some o:=fun b o e=>ag _ (hk b o e);have J:=I.un (h':=h'.push (lamO q params body scope ((X.mg "__name__").getD .none) (.ref c') C)) (t':=tk) (Un.kept G) (I.hok.kept G);refine h h'.objs.size (.ref c') C _ H _ J (fun _ _ e=>e) hsz (ax _ rfl) (I.hok.fresh hsz) ?_;exact⟨c',o,u,vs,t,rfl,hc',N,hv'⟩
 | none =>
  refine kla_makeFunction hcl I.ok.glob hgs LI (L.code.keeps U) hps ht hf hgP hb fun c' C h' tk hx S Z hrec htb=>?_;obtain⟨c2,oc,vs,t,e2,hoc,hd,hv⟩:=hrec;cases e2;have hcn:H c'=none:=I.hok.fresh S;have G:∀b o,b≠P->s.heap.get? b=some o->(h'.push (kla_obj "<lambda>" q params body scope [] ((X.mg "__name__").getD .none) c' C)).get? b=some o:=fun b o n e=>ag _ (hx b o n e);have hne:∀b,H b=none->b≠P:=fun b n z=>by rw[z,hH]at n;cases n
  have up:∀b o,H b=some o->upd H c' (.frz oc (.own c')) b=some o:=fun b o e=>by rw[Jc (Qg e hcn)];exact e
  have J:Inv X pins σ (upd H c' (.frz oc (.own c'))) { s with heap:=h'.push (kla_obj "<lambda>" q params body scope [] ((X.mg "__name__").getD .none) c' C),toks:=tk }:=by refine I.un ⟨fun b o e n _ _=>G b o (hne b n) e,fun b o e n _ _=>⟨o.slots,G b o (hne b n) e⟩,fun b o e n _=>?_,fun b o e _=>?_,fun b xs e=>up b _ e,fun b o xs e=>up b _ e,fun b x e=>up b _ e⟩ ?_;rw[Jc (aA (aB (aw e) S))];exact n;by_cases hb:b=P;subst hb;exact⟨_,ag _ htb⟩;exact⟨o,G b o hb e⟩;intro b o e;by_cases hbc:b=c';subst hbc;rw[Jo]at e;cases e;exact⟨ag _ hoc,_,ag _ hoc⟩;rw[Jc hbc]at e;by_cases hbP:b=P;subst hbP;rw[hH]at e;cases e;refine⟨_,ag _ htb,?_,fun pos' cv ec=>?_⟩;rw[bY];exact TriplesOk_snoc _ _ _ _ ht;rw[bY]at ec;rcases zi9 _ ht ec with z|rfl;obtain⟨c3,o3,u3,vs3,t3,z1,z2,z3⟩:=R pos' cv z;exact⟨c3,o3,u3,vs3,t3,z1,up _ _ z2,z3⟩;exact⟨c',oc,.own c',vs,t,rfl,Jo,hd,hv⟩;refine(I.hok b o e).stay (fun d v N Y=>G d v ?_ Y) (fun d Y=>up d _ Y) (fun d xs Y=>up d _ Y) fun d ob xs Y=>up d _ Y;rcases N with rfl|N;exact hbP;rintro rfl;rw[hH]at N;cases N
  refine h h'.objs.size (.ref c') C _ _ _ J up (bZ S (fc Z)) (ax _ rfl) ?_ ⟨c',oc,.own c',vs,t,rfl,Jo,hd,hv⟩;rw[Jc (cW Z)];exact I.hok.fresh (bZ S (fc Z))
end L2
namespace L2
open PySem PySem.Spec PySem.W PySem.Calls PyProof.Rows
theorem zmm{P:aJ}{w:a7}{K:qF}{mg:qM}{base:aW}{A:aX}{outer:List Env}{s:aq}{H:Hp}{f:aj}{q x:Str}{params:m5}{body:bg}{scope:e8}{pm C G u:af}{v:V}{k:Nat}{U:TE}{Q:VK}
  (S:Qk [x] [x] scope) (Y:Room (k+1) A) (R:Env0 P w K mg base A outer s H) (Z:s.heap.get? f=some (lamO q params body scope pm C G)) (L:s.heap.CodeRec C q)
  (hb:bindArgs (kla_fn "<lambda>" q params body scope [] pm C G) ⟨[u],[]⟩=pure [(x,u)]) (r:RelV v u)
  (Lz:PE (cxOf CX0 P w K mg base [x] q scope f C A outer s H E0).nox body U) (ht:U (start [x] [v]) H Q) :
  codeAny (model P w) A (.call (.ref f) ⟨[u],[]⟩) (CR CX0 outer P w H s Q E0) s:=by
 have lim:s.heap.NoLimit:=R.mod.nolimit.keeps fun b o e=>(R.bs b o e).1;have Lu:∀y∈[x].zip [u],scope.names.lookup y.1=some .local\/(scope.names.lookup y.1=some .cell/\((cellsFrom (s.heap.objs.size+1) scope.names []).lookup y.1).isSome=true):=fun⟨n,v⟩ hy=>by rcases S.par n (cS hy).1 with q|q;exact .inl q;exact .inr ⟨q,iH _ _ _ (.inl q)⟩
 refine kla_callFunE Y.depth Z rfl S.co S.gen rfl L ?_;rw[hb];refine ae (lJ (binds:=[x].zip [u]) S.kind Lu fun env he s1 y=>?_);subst he;refine⟨lim.keeps y.toInCall.keep,kla_codeExpr ?_⟩;have I:Inv (cxOf CX0 P w K mg base [x] q scope f C A outer s H E0) [] (start [x] [v]) H s1:=zfP S Y.hd R rfl (.cons r .nil) y;refine cA (Lz [] s1 (start [x] [v]) H Q (I.wish _) ht) (fun u' s' N=>?_) fun e s' N=>N.elim;obtain⟨v',H',J,rv,hq⟩:=N;have J:=J.unwish;exact⟨v',H',J.os,J.bare,J.base,J.hok,rv,hq⟩
end L2
namespace L2
open PySem PySem.Spec PySem.W PySem.Calls PyProof.Rows Att
theorem zos{h:aW}{a:aj}{m u:qM}(x:h.Ns a m)(y:h.Ns a u):m=u:=by obtain⟨o,es,ep,e,d,_,r⟩:=x;obtain⟨I,C,v,l,d',_,G⟩:=y;rw[e]at l;cases l;rw[d]at d';cases d';funext n;rw[<- r n,G n]
section
variable{X:Cx}{pins:qO}{σ:St}{H:Hp}{s:aq}{A:aX}{E:qV}{f a kS:aj}{fo:Obj}{e1:Nat}{vs:List af}{kz:List Int}{G:Hp->Prop}
theorem zgY{u:Array af}{e:Nat}(I:Inv X pins σ H s)(h:s.heap.get? kS=some (seqObj "list" u e)):∀x c,X.env.cells.lookup x=some c->c≠kS:=fun x c hc z=>by obtain⟨v,o,l,hd⟩:=I.cell x c hc;rw[z,h]at l;cases l;cases hd
theorem zmv{P:Bt->aq->Prop}(I:Inv X ((kS,seqObj "list" #[] 0)::(a,seqObj "list" #[] e1)::(f,fo)::pins) σ H s) (g:G H)
  (hk:∀p∈X.pn++((a,seqObj "list" #[] e1)::(f,fo)::pins),p.1≠kS) (hka:∀p∈X.pn++pins,p.1≠a) (h0k:X.s₀.heap.objs.size<=kS) (h0a:X.s₀.heap.objs.size<=a) (hlen:kz.length=vs.length) (h64:vs.length<64)
  (turn:∀(i:Nat) (u:af) (k:Int),vs[i]?=some u->kz[i]?=some k->∀(K5:qO) (H':Hp) (s':aq),(f,fo)∈K5->Inv X K5 σ H' s'->G H' ->
   wpAny (model X.prog X.w) A (call (.ref f) [u]) (fun u' R=>∃t Y,u'=.int k t/\Inv X K5 σ Y R/\G Y) (fun _ _=>False) s')
  (h:∀H' s' out,G H'->H' a=none->KskOut false kz vs out->(∀ys,Vals ys out->ys.length<=sizeLine->Inv X pins σ (upd H' a (.lst ys)) s')->P (.done (.ret .none)) s') :
  wpAny (model X.prog X.w) A (xU a (.ref f) false vs.toArray e1 (.ref kS)) P E s:=by
 have hak:a≠kS:=hk (a,seqObj "list" #[] e1) (aK _ (.head _));unfold xU;refine aa (b7 ?_);rw[List.forIn_toArray];refine aa (ksk_fold (fun i s'=>∃H' kA e,Inv X ((kS,seqObj "list" kA e)::(a,seqObj "list" #[] e1)::(f,fo)::pins) σ H' s'/\G H'/\fX kA.toList (kz.take i)) vs 0 s
  ⟨H,#[],0,I,g,by simpa using IntsAre.nil⟩ ?step ?done)
 case step =>
  rintro j x s' hx ⟨H',kA,e,J,g',Z⟩;simp only[eS]at Z ⊢;have hj:j<vs.length:=(aH.mp hx).1;obtain⟨k,hkj⟩:∃k,kz[j]?=some k:=⟨_,av (by omega)⟩;have hz:kA.size<=vs.length:=by have h1:=Z.length;rw[cC,dQ]at h1;omega
  refine aa (fT (cA (turn j x k hx hkj _ H' s' (.tail _ (.tail _ (.head _))) J g') (fun v R he=>?_) fun _ _ hF=>hF.elim));obtain⟨t,Y,rfl,J2,g2⟩:=he;dsimp only;have S:=J2.pin (kS,seqObj "list" kA e) (aK _ (.head _));have s1:=eF R.heap kS (bS (·.push (.int k t)));obtain⟨c2,hc2⟩:∃c2,(R.heap.update kS (bS (·.push (.int k t)))).get? kS=some (seqObj "list" (kA.push (.int k t)) c2):=⟨_,kH S.1 (·.push (.int k t))⟩;have ek:kz.take (j+1)=kz.take j++[k]:=by rw[List.take_add_one,hkj];simp
  have ea:(kA.push (iY k t)).toList=kA.toList++[iY k t]:=by simp
  refine aa (ke S.1 rfl ?_ (by rw[eT];omega) (bZ (wC (tH ..)) (by rw[eT];omega)));have J3:Inv X ((a,seqObj "list" #[] e1)::(f,fo)::pins) σ Y R:=J2.pins_of fun p C=>J2.pin p (aK _ (.tail _ C));have J4:Inv X ((a,seqObj "list" #[] e1)::(f,fo)::pins) σ Y { R with heap:=R.heap.update kS (bS (·.push (.int k t))),toks:=R.toks } :=
   J3.turned (fun b o hb e=>(s1.2 b hb).trans e) S.2.1 S.2.2.1 (.inr h0k) (zgY J2 S.1) hk
  refine ae ⟨rfl,Y,kA.push (.int k t),c2,J4.pins_of fun p C=>?_,g2,by rw[ea,ek];exact ksk_snoc Z⟩;rcases au.mp C with rfl|C;exact⟨hc2,S.2.1,S.2.2.1,S.2.2.2.1,fun v z=>by cases z⟩;exact J4.pin p (aK _ C)
 case done =>
  rintro s' ⟨H',kA,e,J,g',Z⟩;have hk':fX kA.toList kz:=by have e3:kz.take (0+vs.length)=kz:=dZ (by omega);rw[e3]at Z;exact Z
  have S:=J.pin (kS,seqObj "list" kA e) (aK _ (.head _));have na:=J.pin (a,seqObj "list" #[] e1) (aK _ (.tail _ (.head _)));refine aa (fO S.1 rfl ?_);obtain⟨m,hm,_⟩:=id J.loc;have mem:∀b o,(b,o)∈(ledger s'.heap X.env.locals kS).filter (fun p=>decide (p.1≠a))↔(b≠X.env.locals/\b≠kS/\s'.heap.get? b=some o)/\b≠a:=fun b o=>by rw[fA,ziL,decide_eq_true_eq]
  refine ksk_end_ (h₀:=Y6 s'.heap) (L:=X.env.locals) (m:=m) (news:=(ledger s'.heap X.env.locals kS).filter fun p=>decide (p.1≠a)) (e:=e) (zrG hm) (fun p C=>?_) hak.symm (fun⟨b,o⟩ C=>((mem b o).mp C).1.2.1) (fun⟨b,o⟩ C=>((mem b o).mp C).2) hk' hlen h64 fun h' tk out c F N ko=>?_;rcases aC.mp C with C|C;obtain⟨b,o⟩:=p;obtain⟨⟨n1,n2,e⟩,n3⟩:=(mem b o).mp C;exact⟨e,n1,ZU _ _⟩;rcases au.mp C with rfl|C;exact⟨S.1,S.2.2.1,ZU _ _⟩;cases aF.mp C;exact⟨na.1,na.2.2.1,ZU _ _⟩;have kp:∀b o,b≠X.env.locals->b≠kS->b≠a->s'.heap.get? b=some o->h'.get? b=some o:=fun b o n1 n2 n3 e=>(N (b,o) (.tail _ ((mem b o).mpr ⟨⟨n1,n2,e⟩,n3⟩))).1;have hq:h'.get? a=some (seqObj "list" out c):=(N _ (.head _)).1;refine h H' _ out.toList g' na.2.1 ko fun ys r hz=>?_;have J0:Inv X pins σ H' s':=J.pins_of fun p C=>J.pin p (aK _ (.tail _ (.tail _ (.tail _ C))));have U:∀{b:aj},b∉[kS,a]->b≠kS/\b≠a:=fun {b} z=>⟨fun y=>z (by simp[y]),fun y=>z (by simp[y])⟩;have up:∀b o,H' b=some o->upd H' a (.lst ys) b=some o:=fun b o e=>by rw[Jc (Qg e na.2.1)];exact e
  refine J0.step (g':=s'.gens) (d':=s'.drawn) (ch:=[kS,a]) (fun b hb=>?_) (fun b o n1 _ hc e _=>kp b o n1 (U hc).1 (U hc).2 e) (fun b o n1 _ hc e _=>⟨o.slots,kp b o n1 (U hc).1 (U hc).2 e⟩) (fun b o hc _ n=>by rw[Jc (U hc).2];exact n)
   (fun b o hc e=>?_) (fun b xs e=>up b _ e) (fun b o xs e=>up b _ e) (fun b x e=>up b _ e) (fun m' hm'=>by rw[zos hm' hm];exact F.ns) (fun b u e=>?_) J0.bare
  rcases au.mp hb with rfl|hb;exact⟨.inr h0k,S.2.2.1,zgY J S.1,fun p C=>hk p ((aC.mp C).elim (fun z=>fG _ z) fun z=>aK _ (.tail _ (.tail _ z)))⟩;cases aF.mp hb;exact⟨.inr h0a,na.2.2.1,zgY J na.1,hka⟩;by_cases n1:b=X.env.locals;subst n1;obtain⟨o',_,_,z,_⟩:=F.ns;exact⟨o',z⟩;exact⟨o,kp b o n1 (U hc).1 (U hc).2 e⟩;by_cases hb:b=a;subst hb;rw[Jo]at e;cases e;exact⟨hz,out.toList,c,r,by rw[kv];exact hq⟩;rw[Jc hb]at e;have ne:∀d v,H' d=some v->d≠X.env.locals/\d≠kS/\d≠a:=fun d v z=>⟨fun y=>(by rw[y,J.free]at z;cases z),fun y=>(by rw[y,S.2.1]at z;cases z),fun y=>(by rw[y,na.2.1]at z;cases z)⟩;refine(J.hok b u e).stay (fun d v hd z=>?_) (fun d z=>up d _ z) (fun d xs z=>up d _ z) fun d o xs z=>up d _ z;have:=hd.elim (fun y=>ne d u (y▸e)) fun y=>ne d _ y;exact kp d v this.1 this.2.1 this.2.2 z
theorem zir{Q:qV}{l:aj}{o:Obj}{T:String}{n:Nat}(I:Inv X ((f,fo)::pins) σ H s)(g:G H)(ho:s.heap.get? l=some o)(hc:o.cls=.type T)(hT:T = "list" \/ T = "tuple") (hd:o.data=.seq vs.toArray n) (U:kz.length=vs.length) (h64:vs.length<64)
  (turn:∀(i:Nat) (u:af) (k:Int),vs[i]?=some u->kz[i]?=some k->∀(K5:qO) (H':Hp) (s':aq),(f,fo)∈K5->Inv X K5 σ H' s'->G H' ->
   wpAny (model X.prog X.w) A.in1.in1 (call (.ref f) [u]) (fun u' s''=>∃t R,u'=.int k t/\Inv X K5 σ R s''/\G R) (fun _ _=>False) s')
  (h:∀H' s' out a,G H'->H a=none->H' a=none->KskOut false kz vs out->(∀ys,Vals ys out->ys.length<=sizeLine->Inv X pins σ (upd H' a (.lst ys)) s')->Q (.ref a) s') :
  wpAny (model X.prog X.w) A (call (.builtin "sorted") [.ref l] [(aM "key",.ref f)]) Q E s:=by
 refine call_function_entry_kw oQ nR nT (ksk_s1 _ _) ?_;unfold dh.«sorted»;refine aa (m:=checkCount "sorted" 1 1 _) (ae ?_);refine aa (zdW ho hc hT hd (by rw[eT];omega) (aa (ff ?_ (by rw[eT];omega))));have z:((s.heap.push (seqObj "list" #[] 0)).update s.heap.objs.size (bS (·++vs.toArray))).objs.size=s.heap.objs.size+1:=by rw[cH,eo]
 have L:(preH s.heap vs).get? (s.heap.objs.size+1)=some (seqObj "list" vs.toArray 0):=by unfold preH;rw[<- z];exact ax _ rfl
 have keep:∀b o,s.heap.get? b=some o->(preH s.heap vs).get? b=some o:=fun b o q=>by have C:b<s.heap.objs.size:=aw q;unfold preH;rw[cf _ _ _ (by rw[z];exact aA (rS C)),hU _ _ _ _ (aA C),cf _ _ _ (aA C)];exact q
 have zp:(preH s.heap vs).objs.size=s.heap.objs.size+2:=by unfold preH;rw[eo,z]
 show wpAny (model X.prog X.w) _ _ _ _ { s with heap:=preH s.heap vs };rw[z];generalize preH s.heap vs=h1 at L keep zp ⊢;generalize ha:s.heap.objs.size+1=a at L ⊢;refine aa (bU (wpAny_call_entry_kw lR ⟨_,L,rfl⟩ kI ?body (ksk_l1 _ _)));show wpAny (model X.prog X.w) A.in1.in1 (dh.«list.sort» ⟨[.ref a],[(aM "key",.ref f)]⟩) _ _ _;rw[ksk_t1];unfold ksk_tree;obtain⟨e1,Y⟩:∃e1,(h1.update a (bS fun _=>(#[]:Array af))).get? a=some (seqObj "list" #[] e1):=⟨_,kH L fun _=>#[]⟩;refine aa (fO L rfl ?_);refine aa (ke L rfl ?_ (by rw[aG,eT];omega) (cw _));refine aa (sS Y rfl ?_);refine aa (lQ ?_ (by show vs.length<=_;rw[eT];omega));refine aa (ff ?_ (cw _));refine bU ?_;have s1:=eF h1 a (bS fun _=>(#[]:Array af));have Ma:∀b o,s.heap.get? b=some o->(((h1.update a (bS fun _=>(#[]:Array af))).push (seqObj "tuple" vs.toArray 0)).push (seqObj "list" #[] 0)).get? b=some o:=fun b o q =>
  ag _ (ag _ ((s1.2 b (aA (aB (aw q) (ha▸fK _)))).trans (keep b o q)))
 have S:((h1.update a (bS fun _=>(#[]:Array af))).push (seqObj "tuple" vs.toArray 0)).objs.size=s.heap.objs.size+3:=by rw[eo,cH,zp]
 have hkN:(((h1.update a (bS fun _=>(#[]:Array af))).push (seqObj "tuple" vs.toArray 0)).push (seqObj "list" #[] 0)).get? (s.heap.objs.size+3)=some (seqObj "list" #[] 0):=by rw[<- S];exact ax _ rfl
 have haN:(((h1.update a (bS fun _=>(#[]:Array af))).push (seqObj "tuple" vs.toArray 0)).push (seqObj "list" #[] 0)).get? a=some (seqObj "list" #[] e1):=ag _ (ag _ Y);show wpAny (model X.prog X.w) _ (xU a (.ref f) false vs.toArray e1 (.ref ((h1.update a (bS fun _=>(#[]:Array af))).push (seqObj "tuple" vs.toArray 0)).objs.size)) _ _ { s with heap:=((h1.update a (bS fun _=>(#[]:Array af))).push (seqObj "tuple" vs.toArray 0)).push (seqObj "list" #[] 0) };rw[S];have low:∀p∈X.pn++((f,fo)::pins),p.1<s.heap.objs.size:=fun p x=>aw (I.pin p x).1;have J:=I.kept (t':=s.toks) Ma;have Z:s.heap.objs.size<=a:=ha▸fK _;have N:s.heap.objs.size<=s.heap.objs.size+3:=fj _ _;have na:H a=none:=I.hok.fresh Z;refine zmv (G:=G) (kS:=s.heap.objs.size+3) (J.pins_of fun p x=>?_) g (fun p x=>?_) (fun p x=>?_) (bZ I.sz N) (bZ I.sz Z) U h64 turn fun H' s' out g' hn' ko hi=>⟨_,rfl,ae ⟨_,rfl,h H' s' out a g' na hn' ko hi⟩⟩;rcases au.mp x with rfl|x;exact⟨hkN,I.hok.fresh N,cW (aB I.lt N),I.nofs N,fun v z=>by cases z⟩;rcases au.mp x with rfl|x;exact⟨haN,na,cW (aB I.lt Z),I.nofs Z,fun v z=>by cases z⟩;exact J.pin p (aK _ x);rcases aC.mp x with x|x;exact aA (aB (low p (fG _ x)) N);rcases au.mp x with rfl|x;exact aA (show a<_ by rw[<- ha];exact Nat.add_lt_add_left (by decide) _);exact aA (aB (low p (aK _ x)) N);exact aA (aB (low p (aC.mp x|>.elim (fun z=>fG _ z) fun z=>aK _ (.tail _ z))) Z)
end
end L2
namespace L2
open PySem PySem.Spec PySem.W PySem.Calls PyProof.Rows
def zh9(d y:DTE):DTA:=fun C n R=>d C n fun t u=>JG t fun ts=>ts.length<64/\∃key:ah->Int,(∀t∈ts,∀x:ah->Nat->Prop,x (.int (key t)) u->y [some (.val t)] u x) /\
 ∀o:List ah,o.Perm ts->o.Pairwise (fun a b=>key a<=key b)->R o u
theorem zkA{xs:List V}{ts:qD}{vs out:List af}{key:ah->Int}(r:Vals xs vs)(ln:xs.length=ts.length)(R:KskOut false (ts.map key) vs out) :
  ∃zs:List (V×ah),zs.Perm (xs.zip ts)/\Vals (zs.map (·.1)) out/\zs.Pairwise (fun a b=>key a.2<=key b.2):=by
 obtain⟨ps,pm,rfl,pw⟩:=R;have lv:=r.length;have y:ps.Perm (((xs.zip ts).zip ((ts.map key).zip vs)).map (·.2)):=by rw[fi (by simp;omega)];exact pm
 obtain⟨v,G,p2⟩:=Ux y;have each:∀w∈(xs.zip ts).zip ((ts.map key).zip vs),RelV w.1.1 w.2.2/\w.2.1=key w.1.2:=fun w hw=>by
  obtain⟨i,hi,rfl⟩:=bh hw;have hx:i<xs.length:=by simp at hi;omega
  obtain⟨u,I,N⟩:=r.get (av hx);have J:i<vs.length:=by omega
  rw[av J]at I;cases I;simpa using N
 have C:=fun w hw=>each w (G.mem_iff.mp hw);refine⟨v.map (·.1),?_,?_,?_⟩;have:=G.map (·.1);rwa [gX (by simp;omega)]at this;rw[<- p2];have:∀v:List ((V×ah)×(Int×af)),(∀x∈v,RelV x.1.1 x.2.2)->Vals ((v.map (·.1)).map (·.1)) ((v.map (·.2)).map Prod.snd):=by
  intro v;induction v with
  | nil=>intro _;exact .nil
  | cons a l L=>intro h;exact .cons (h a (.head _)) (L fun x hx=>h x (.tail _ hx))
 exact this v fun x hx=>(C x hx).1;rw[<- p2,cz]at pw;rw[cz];refine pw.imp_of_mem fun {a b} ha hb h=>?_;rw[<- (C a ha).2,<- (C b hb).2];exact h
section
variable{X:Cx}{e:bg}{d dk:DTE}{pos p kp lp:Pos}{k':Nat}{q x:Str}{params:m5}{body:bg}{scope:e8}{c P:aj}
theorem ziY(hr:Room (k'+3) X.A)(hm:X.mg "sorted" = none) (h:DL X e d) (hs:starEach [e] X.env=[(false,eval e X.env)]) (L:zps X.mg X.base c P) (hP:X.H₀ P=some (.tbl q)) (LI:X.env.code=.ref c) (hq:X.env.qual ++ "<lambda>" = q)
  (S:Qk [x] [x] scope) (hcl:closureFor scope X.env=pure []) (L0:defaultsOf params X.env=([],[])) (hb:∀pm cv ctv u,bindArgs (kla_fn "<lambda>" q params body scope [] pm cv ctv) ⟨[u],[]⟩=pure [(x,u)])
  (hk:∀(f:aj) (cv:af) (A:aX) (s:aq) (H:Hp),DE (cxOf CX0 X.prog X.w X.K X.mg X.base [x] q scope f cv A X.stack s H E0).nox body dk)
  (hg:Gl X "sorted":=by rfl) :
  DN X (.Call (.Name "sorted" p) [e] [⟨some "key",.Lambda params body scope lp,kp⟩] pos) (zh9 d dk):=by
 obtain⟨ta,pa,h⟩:=h;refine⟨fun σ H Q=>∀pins s,Inv X pins σ H s->wpAny (model X.prog X.w) X.A (eval (.Call (.Name "sorted" p) [e] [⟨some "key",.Lambda params body scope lp,kp⟩] pos) X.env) (EP X pins σ Q) X.xe s,fun pins s σ H Q I h=>h pins s I,fun C ρ σ H n Q R S0 hd hQ pins s I=>?_⟩;refine gr (Ul I hg hm oS ?_);have hsb:backTo pos (starEach [e] X.env)=[(false,eval e X.env)]:=by rw[hs];rfl
 refine callWith_kw ?_ (by rw[hsb];rfl) (by rw[hsb];rfl);rw[hsb];refine pQ (thn (pa pins s σ H (fun v H1=>∃t U,(JG t fun ts=>ts.length<64/\∃key:ah->Int,(∀t∈ts,∀R':ah->Nat->Prop,R' (.int (key t)) U->dk [some (.val t)] U R') /\
  ∀Y:List ah,Y.Perm ts->Y.Pairwise (fun a b=>key a<=key b)->R Y U)/\ExtE C.hd H H1/\Hn X.K C.hd H1 U/\RepT X.K C.hd (Own C ρ σ) H1 v t) I (h C ρ σ H n _ _ S0 hd fun t U v H1 r1 e1 h1 q1=>⟨t,U,r1,e1,h1,q1⟩)) fun u s1 hu=>rE ?_)
 obtain⟨v,H1,I1,rv,t,U,r1,e1,h1,q1⟩:=hu;have S1:=S0.on e1 h1;show wpAny (model X.prog X.w) X.A (evalAll [do let v <- eval (.Lambda params body scope lp) X.env;standAt pos;pure v]) _ _ s1;refine wpAny_evalAll_cons (aa (zrI I1 L hP LI hcl L0 hq fun f cv ctv pm H2 s2 I2 up hf0 hfo hfn hcr=>aa (b9 (ae ?_))));refine wpAny_evalAll_nil ?_;show wpAny (model X.prog X.w) X.A (call (.builtin "sorted") [u] [(aM "key",.ref f)]) _ _ s2;have e2:ExtE C.hd H1 H2:=fun a o ha _=>up a o ha;have h2:Hn X.K C.hd H2 U:=h1.same up;have I2f:Inv X ((f,lamO q params body scope pm cv ctv)::pins) σ H2 s2:=I2.pins_of fun p hp=>by rcases au.mp hp with rfl|hp;exact⟨hfo,hfn,cW (aB I1.lt hf0),I1.nofs hf0,fun v z=>by cases z⟩;exact I2.pin p (aK _ hp)
 have go:∀(l:aj) (xs:List V) (ts:qD) (its:List af) (o:Obj) (T:String) (m:Nat),Reps X.K C.hd (Own C ρ σ) H1 xs ts->Vals xs its->s2.heap.get? l=some o->o.cls=.type T->(T = "list" \/ T = "tuple")->o.data=.seq its.toArray m ->
   (ts.length<64/\∃key:ah->Int,(∀t∈ts,∀R':ah->Nat->Prop,R' (.int (key t)) U->dk [some (.val t)] U R')/\∀Y:List ah,Y.Perm ts->Y.Pairwise (fun a b=>key a<=key b)->R Y U) ->
   wpAny (model X.prog X.w) X.A (call (.builtin "sorted") [.ref l] [(aM "key",.ref f)]) (EP X pins σ Q) X.xe s2:=fun l xs ts its o T m rp rx ho hc hT hd' hh=>by
  obtain⟨l64,key,hkey,hR⟩:=hh;have ln:=rp.length;have lx:=rx.length;refine zir (G:=fun H'=>ExtE C.hd H2 H'/\Hn X.K C.hd H' U) (kz:=ts.map key) I2f ⟨.refl,h2⟩ ho hc hT hd' (by rw[aR];omega) (by omega) (fun i u k hu hki K5 H' s' hm J g=>?_) fun H' s' out a g na na' ko hinv=>?_
  ·have hi:i<ts.length:=by
    have:=(aH.mp hki).1;simpa using this
   have ek:k=key ts[i]:=by rw[aN,av hi]at hki;exact(aQ hki).symm
   obtain⟨v,hv,rv⟩:=rp.get (av hi);obtain⟨u',hu',ru⟩:=rx.get hv;rw[hu]at hu';cases hu';have S':=(S1.on e2 h2).on g.1 g.2;have rv':=g.1.rep S'.hx (e2.rep S'.hx rv);obtain⟨te,pe,hte⟩:=hk f cv X.A.in1.in1 s' H';have hcr':YF H' cv q:=by obtain⟨c',o',u',vs',t',z1,z2,z3⟩:=hcr;refine⟨c',o',u',vs',t',z1,g.1 c' _ z2 fun z=>?_,z3⟩;obtain⟨_,y⟩:=h2.lst z;rw[z2]at y;cases y
   obtain⟨S0',no⟩:=zdm (N:=[x]) (.cons rv' .nil) g.2 (fun a=>S'.lst) fun a z=>.inl (S'.hx a z);refine wpAny_call (iG (zmm (k:=k') S (hr.in1).in1 J.env0.in1.in1 (J.pin _ (aK _ hm)).1 (hcr'.rec J.hok) (hb _ _ _ _) ru pe (hte ⟨C.hd,Own C ρ σ⟩ _ _ H' U (fun v Z=>v=.int k/\ExtE C.hd H2 Z/\Hn X.K C.hd Z U) (fun t n'=>t=.int k/\n'=U) S0' (hkey _ (dS hi) _ ⟨by rw[ek],rfl⟩)
    fun t n' v Z hr e h q=>?_)) fun r s' hq=>?_)
   obtain⟨rfl,rfl⟩:=hr;exact⟨q.intI,g.1.trans e,h⟩
   ·cases r with
    | error e=>exact hq.elim
    | ok fl =>
     cases fl with
     | ret u =>obtain⟨v',Z,J',rv,rfl,g'⟩:=J.after hq;obtain⟨t,rfl⟩:=rv;exact⟨t,Z,rfl,J',g'⟩
     | next=>exact cF hq
     | brk=>exact cF hq
     | cont=>exact cF hq
  obtain⟨zs,zp,zv,zw⟩:=zkA rx ln ko;have S':=(S1.on e2 h2).on g.1 g.2;have rel:∀z∈zs,Rep X.K C.hd (Own C ρ σ) H' z.1 z.2:=fun z hz=>by
   obtain⟨i,hi,rfl⟩:=bh (zp.mem_iff.mp hz);have hi2:i<ts.length:=by simp at hi;omega
   obtain⟨v,h1,h2⟩:=rp.get (av hi2);have hi1:i<xs.length:=by omega
   rw[av hi1]at h1;cases h1;have:=g.1.rep S'.hx (e2.rep S'.hx h2);simpa using this
  have rp':Reps X.K C.hd (Own C ρ σ) H' (zs.map (·.1)) (zs.map (·.2)):=by
   have:∀zs:List (V×ah),(∀z∈zs,Rep X.K C.hd (Own C ρ σ) H' z.1 z.2)->Reps X.K C.hd (Own C ρ σ) H' (zs.map (·.1)) (zs.map (·.2)):=by
    intro zs;induction zs with
    | nil=>intro _;exact .nil
    | cons a l ih=>intro h;exact .cons (h a (.head _)) (ih fun x hx=>h x (.tail _ hx))
   exact this zs rel
  have lz:zs.length<=sizeLine:=by have:=zp.length_eq;simp at this;rw[eT];omega
  have ee:ExtE C.hd H H':=e1.trans (e2.trans g.1);refine⟨.ref a,_,hinv _ zv (by rw[aR];exact lz),rfl,hQ (zs.map (·.2)) U a _ _ (hR _ ?_ ?_) (ee.trans (ExtE.new na')) (g.2.same (JB na')) (Q5 ee g.2 na') Jo (zho na' rp')⟩;have:=zp.map (·.2);rwa [fi (by omega)]at this;rw[cz];exact zw
 have q2:=q1;cases t with
 | list ts =>obtain⟨l,xs,rfl,h1',hrp⟩:=q1.lstI;cases rv;obtain⟨its,r',pl,hz⟩:=I2.list (.of (up _ _ h1'));obtain⟨o,ho,hc,m,hd'⟩:=pl.isList;exact go l xs ts its o "list" m hrp r' ho hc (.inl rfl) hd' r1
 | tuple ts =>obtain⟨l,xs,rfl,h1',hrp⟩:=q1.tupI;cases rv;obtain⟨its,r',pl,hz⟩:=I2.tuple (h1'.imp (fun r=>r.imp (up _ _) fun⟨o,z⟩=>⟨o,up _ _ z⟩) id);obtain⟨o,ho,hc,m,hd'⟩:=pl;exact go l xs ts its o "tuple" m hrp r' ho hc (.inr rfl) hd' r1
 | _=>exact r1.elim
end
end L2
namespace L2
open PySem PySem.Spec PySem.W PySem.Calls PyProof.Rows Att
def spT(P:aj)(q:Str)(o:Sp):Sp:=fun vs H Q E=>H P=some (.tbl q)/\o vs H Q E
section
variable{X:Cx}{CX:CXT}{k:Nat}{f P:aj}{fd:dz}{ps:List Str}{sp:Sp}{dvs:List V}{ds:List af}{E:XK}{x q:Str}{p pos:Pos}{e:bg}{es:List bg}{t:TA}
theorem zme(F:FnOk X.prog X.w X.K X.mg X.base CX k f fd ps (spT P q sp))(R:X.H₀ P=some (.tbl q))(Y:Room k X.A)(S:Gl X x)(Z:X.mg x=some (.ref f))(U:gQ X.K (.ref f)=true)(L:Binds X.K fd ps ds)(hd:Vals dvs ds)(hx:YL CX X E)
  (G:PA X (e::es) t) (v:(x == ("__debug__":Str))=false:=by decide) (he:starEach (e::es) X.env=(false,eval e X.env)::starEach es X.env:=by rfl) (u:(backTo pos (starEach es X.env)).any (·.1)=false:=by rfl) :
  PE X (.Call (.Name x p) (e::es) [] pos) (znJ sp dvs E t):=by
 intro pins s σ H Q I h;refine gr (zkt I S Z ?_ v);refine pR (h₀:=X.base) I.ok.mod.kin U (thn (G pos pins s σ H _ I h) fun us s1 J=>?_) he u;obtain⟨vs,H1,o,r,z⟩:=J;exact⟨o.kIn,zm_ F Y L hd hx o r ⟨o.base.tbls P q R,z⟩⟩
end
end L2
namespace Bd
open PySem PySem.Spec PySem.W PySem.Calls PyProof.Rows L2
def FQT(Z:ZZ)(P:aj)(q x:Str)(st:eK)(ps:List Str)(k m:Nat)(g:GD):Prop:=∃f fd,Def Z.K Z.mg x st ps f fd/\FnOk Z.P Z.w Z.K Z.mg Z.base CX0 k f fd ps (spT P q (spD Z.K m g))
def LamZ(Z:ZZ)(x:Str)(c P:aj):Prop:=(∀st ps f fd,Def Z.K Z.mg x st ps f fd->fd.code=.ref c)/\zps Z.mg Z.base c P
theorem Def.okT{P:aJ}{w:a7}{K:qF}{mg:qM}{base:aW}{x q:Str}{st:eK}{ps N:List Str}{f Z:aj}{fd:dz}{k m:Nat}{g:GD}(D:Def K mg x st ps f fd)(S:Qk N ps (Jw st))(hm:m=ps.length)
  (hb:∀(u:af) (A:aX) (outer:List Env) (s:aq) (H:Hp) (E:XK),fd.code=u->Room k (A.deeper (envOfC x (Jw st) s.heap.objs.size f u))->H Z=some (.tbl q)->∃d,DSs (cxOf CX0 P w K mg base N x (Jw st) f u A outer s H E).nox (JV st) d /\
   ∀ts n R,ts.length=m->g ts n R->d { nx:=fun _ y=>R .none y,rt:=R } (JS N ts) n):FnOk P w K mg base CX0 (k+1) f fd ps (spT Z q (spD K m g)):=by
 obtain⟨oc,od,kV,doc,pm,an,u,ct,osl,rfl,lk,G⟩:=D.F.ex;refine zrH lk G S (fun vs H Q E h=>?_) fun A outer s H vs Q E hr h=>?_;obtain⟨_,hd,O,ts,n,R,r,_,_,_,J,_⟩:=h;rw[r.length,J,hm];obtain⟨hP,hd,O,ts,n,R,r,hn,dom,hx,J,hg,hq⟩:=h;obtain⟨d,⟨t,pt,ht⟩,L⟩:=hb u A outer s H E rfl hr hP;obtain⟨S0,no⟩:=zdm (N:=N) r hn dom hx;refine⟨t,pt.nox,ht ⟨hd,O⟩ _ _ H n _ _ S0 (L ts n R J hg) ⟨fun ρ' σ' H' y h S' U=>?_,fun t y v H' h Y U rp=>?_,fun _ _ _ _ h=>h.elim,fun _ _ _ _ h=>h.elim,fun _ _ _ h=>h.elim⟩⟩;exact hq .none y .non H' h (fun a o I C=>(U a o I C (no a)).1) S'.hnd .non;exact hq t y v H' h (fun a o I C=>U a o I C (no a)) Y rp
theorem okQT{Z:ZZ}{c P:aj}{x q:Str}{st:eK}{ps N:List Str}{k m:Nat}{g:GD}(I:LamZ Z x c P)(D:Dq Z.K Z.mg x st ps)(S:Qk N ps (Jw st))(J:m=ps.length)
  (v:∀(f:aj) (A:aX) (outer:List Env) (s:aq) (H:Hp) (E:XK),Room k (A.deeper (envOfC x (Jw st) s.heap.objs.size f (.ref c)))->H P=some (.tbl q)->∃d,DSs (cxOf CX0 Z.P Z.w Z.K Z.mg Z.base N x (Jw st) f (.ref c) A outer s H E).nox (JV st) d /\
   ∀ts n R,ts.length=m->g ts n R->d { nx:=fun _ y=>R .none y,rt:=R } (JS N ts) n):FQT Z P q x st ps (k+1) m g:=by
 obtain⟨f,fd,D⟩:=D;refine⟨f,fd,D,D.okT S J fun u A outer s H E hc G C=>?_⟩;obtain rfl:u=.ref c:=hc.symm.trans (I.1 _ _ _ _ D);exact v f A outer s H E G C
section
variable{X:Cx}{x q:Str}{st:eK}{ps:List Str}{k n m:Nat}{g:GD}{p pos:Pos}{e:bg}{es:List bg}{ds:DTA}{P:aj}
theorem zla(F:FQT ⟨X.prog,X.w,X.K,X.mg,X.base⟩ P q x st ps k m g)(hP:X.H₀ P=some (.tbl q))(hr:Room n X.A)(h:DB X (e::es) ds)(hk:k<=n:=by decide)(hm:(e::es).length=m:=by rfl)(hg:Gl X x:=by rfl)
  (o:(x == ("__debug__":Str))=false:=by rfl):DE X (.Call (.Name x p) (e::es) [] pos) (dFn g ds):=by
 obtain⟨f,fd,D,G⟩:=F;obtain⟨ta,pa,h⟩:=h;refine⟨_,zme G hP (hr.mono hk) hg D.m D.F.kp D.b .nil zqr pa.pa o pa.hd.1 (pa.hd.2 pos),fun C y σ H n Q R S hd hq=>?_⟩;refine h C y σ H n _ _ S hd fun ts n1 vs H1 r1 u h1 I Y=>?_;have Z:=S.on u h1;rw[df];exact⟨C.hd,Own C y σ,ts,n1,R,I,h1,fun a=>Z.lst,fun a z=>.inl (S.hx a z),Y.trans hm,r1,fun t n' v H' rt L U J=>hq t n' v H' rt (u.trans L) U J⟩
end
end Bd
namespace L2
open PySem PySem.Spec PySem.W PySem.Calls PyProof.Rows Att
theorem zku{P:aJ}{w:a7}{K:qF}{mg mb:qM}{CX:CXT}{k:Nat}{fa a I:aj}{fd:dz}{x q:Str}{sp:Sp}{C:aq}{vs:List af}{ns:List Int}
  (KX:K.In C.heap) (hT:C.heap.get? I=some (tabObj #[])) (hct:isCodeTable C.heap I) (hKP:K.lookup I=none) (hns:C.heap.Ns mainGlobals mg) (G:C.heap.Ns builtinsNs mb) (hbb:∀x:Str,x ≠ "__name__" -> mb x=bootBuiltins x) (hlim:C.heap.NoLimit) (hg:C.gens=#[])
  (R:C.heap.get? a=some { cls:=.type "list",data:=.seq vs.toArray }) (hi:fX vs ns) (hl:ns.length<=sizeLine) (hr:Room k callerA)
  (F:∀base:aW,K.In base->base.Ns mainGlobals mg->FnOk P w K mg base CX k fa fd [x] (spT I q sp)) (Mb:∀(s:aq) (u:af),tJ s fd ⟨[u],[]⟩ [(x,u)])
  (hsp:∀H:Hp,SqL K H a (ns.map V.int)->sp [.ref a] H (fun v _=>v=.bl true) fun _ _ _=>False)
  (hCX:∀H e s',CX [] H C (fun _ _ _=>False) e s'->False) :
  codeAny (model P w) callerA (.call (.ref fa) ⟨[.ref a],[]⟩) (fun r s'=>r=.ok (.ret (.bool true))/\OldK C.heap s'.heap/\s'.os=C.os/\kZ s'.gens) C:=by
 have rv:=ze_ hi;have U:=hi.length;have naP:a≠I:=fun z=>by rw[z,hT]at R;cases R
 have core:∀H:Hp,H I=some (.tbl q)->(∀b u,H b=some u->b≠I->b=a/\u=.frz { cls:=.type "list",data:=.seq vs.toArray } (.lst (ns.map V.int)))->SqL K H a (ns.map V.int)->(H a≠none->K.lookup a=none) ->
   codeAny (model P w) callerA (.call (.ref fa) ⟨[.ref a],[]⟩) (fun r s'=>r=.ok (.ret (.bool true))/\OldK C.heap s'.heap/\s'.os=C.os/\kZ s'.gens) C:=by
  intro H hP hA hS hK;have hok:HOk P w H C.heap:=fun b u e=>by by_cases G:b=I;subst G;rw[hP]at e;cases e;exact⟨#[],hT,trivial,fun pos cv z=>by cases z⟩;obtain⟨rfl,rfl⟩:=hA b u e G;exact⟨R,by rw[aR];exact hl,vs,_,rv,R⟩
  have LJ:∀{b:aj} {o:Obj},C.heap.get? b=some o->H b=none->(hidT C.heap H).get? b=some o:=fun e n=>zmG e n;have noA:∀{b:aj} {o:Obj} {es:Array iD} {ep:Nat},C.heap.get? b=some o->o.data=.dict es ep->H b=none:=fun {b o es ep} e d=>by
   cases z:H b with
   | none=>rfl
   | some u =>by_cases G:b=I;subst G;rw[hT]at e;cases e;cases d;obtain⟨rfl,_⟩:=hA b u z G;rw[R]at e;cases e;cases d
  have J:∀{b:aj} {m:qM},C.heap.Ns b m->(hidT C.heap H).Ns b m:=fun {b m} ⟨o,es,ep,e,d,r⟩=>⟨o,es,ep,LJ e (noA e d),d,r⟩;have Z:K.In (hidT C.heap H):=fun b o e=>LJ (KX b o e) (by
   cases z:H b with
   | none=>rfl
   | some u =>by_cases G:b=I;subst G;rw[hKP]at e;cases e;obtain⟨rfl,_⟩:=hA b u z G;rw[hK (by rw[z];simp)]at e;cases e)
  have hM:Mod K mg (hidT C.heap H):=⟨Z,J hns,⟨mb,J G,hbb⟩,let ⟨mc,h1,h2⟩:=hlim;⟨mc,J h1,h2⟩⟩;have e0:Env0 P w K mg (hidT C.heap H) callerA [] C H:=⟨rfl,hM,fun b o e=>zoq e,wC (zkO _ _),trivial,fun b G=>absurd (show b∈([]:List aj) from G) (by simp),hok,.of_eq hg⟩;refine iG ((F _ Z (J hns)).run callerA [] C H ⟨[.ref a],[]⟩ [.ref a] [.ref a] _ _ hr e0 (Mb C (.ref a)) (.cons rfl .nil) ⟨hP,hsp H hS⟩) fun r s' h=>?_;cases r with
  | error e=>exact(hCX H e s' h).elim
  | ok fl =>
   cases fl with
   | next=>exact cF h
   | brk=>exact cF h
   | cont=>exact cF h
   | ret u =>
    obtain⟨v,H',os,bare,un,L,r',z⟩:=h;have S:v=.bl true:=z;subst S;obtain rfl:u=iZ true:=r';have kp:∀b o,b≠I->C.heap.get? b=some o->s'.heap.get? b=some o:=fun b o G e=>by
     cases z:H b with
     | none=>exact un.keep b o e z (by intro z;exact absurd (show b∈([]:List aj) from z) (by simp)) (by simp)
     | some u =>obtain⟨rfl,rfl⟩:=hA b u z G;have Y:=un.frzs _ _ _ z;obtain⟨e1,_⟩:=hok _ _ z;obtain⟨e2,_⟩:=L _ _ Y;rw[e]at e1;cases e1;exact e2
    obtain⟨ps,hps,_⟩:=L I _ (un.tbls I q hP);refine⟨rfl,⟨fun b o e=>?_,fun b o e=>?_⟩,os,bare⟩;by_cases G:b=I;subst G;rw[hT]at e;cases e;exact .inr (.inl ⟨hct,rfl,#[],ps,rfl,by rw[Array.empty_append];exact hps⟩);exact .inl (kp b o G e);by_cases G:b=I;subst G;exact⟨_,hps⟩;exact⟨o,kp b o G e⟩
 cases hk:K.lookup a with
 | some o =>have e:=KX a o hk;rw[R]at e;cases e;refine core (fun b=>if b=I then some (.tbl q) else none) (if_pos rfl) (fun b u e G=>?_) (.inr ⟨_,vs.toArray,_,hk,rfl,rfl,rfl,by rw[aG,U];exact hl,by simpa using rv⟩) fun z=>absurd (if_neg naP) z;have S:=(if_neg G).symm.trans e;cases S
 | none =>refine core (fun b=>if b=I then some (.tbl q) else if b=a then some (.frz { cls:=.type "list",data:=.seq vs.toArray } (.lst (ns.map V.int))) else none) (if_pos rfl) (fun b u e G=>?_) (.inl (.inr ⟨{ cls:=.type "list",data:=.seq vs.toArray },(if_neg naP).trans (if_pos rfl)⟩)) fun _=>hk;have S:=(if_neg G).symm.trans e;by_cases hba:b=a;subst hba;have Y:=(if_pos rfl).symm.trans S;exact⟨rfl,(aQ Y).symm⟩;have Y:=(if_neg hba).symm.trans S;cases Y
end L2
namespace Bd
open PySem PySem.W PySem.Calls L2 PyProof.Rows
section
variable{q:aJ}{loose:List Str}{Lq:rT->Option af}{mg mb:qM}{h:aW}{x:Str}{st:eK}{ps:List Str}{c P:aj}
abbrev gho(h:aW)(c P:aj):aW:=ghostOf h [(c,P)]
theorem zrQ(J:t9 [(c,P)] h)(T:Top q loose Lq mg mb h)(hd:recD st∈recsOf q)(N:defName st=x)(Z:BndA x st ps):Dq (JP (gho h c P)) mg x st ps:=by
 obtain⟨a,o,pm,cd,doc,h1,G,y,v⟩:=T.fn _ hd;have h1:mg (defName st)=some (.ref a):=h1;have v:h.CodeRec cd (defName st):=v;rw[N]at h1 v;have v:(gho h c P).CodeRec cd x:=by obtain⟨c',o',vs,t,e1,U,I,L⟩:=v;exact⟨c',o',vs,t,e1,vT J U (fun z=>by rw[z]at I;cases I;cases L),I,L⟩
 have G:(gho h c P).get? a=some o:=vT J G fun z=>by rw[z]at y;cases y
 obtain⟨oc,S,Y,sl⟩:=o;have y:Y=.func (docDef (defName st) (Qp st) (JV st) (Jw st) pm cd doc):=y;rw[N]at y;have l:(JP (gho h c P)).lookup a=some ⟨oc,S,.func (eQ x x (Qp st) (JV st) (Jw st) .none .none doc pm none cd .none),sl⟩:=by rw[Yp G,y];rfl
 have kp:gQ (JP (gho h c P)) (.ref a)=true:=by unfold gQ;dsimp only;rw[l]
 exact⟨a,_,znt l (zlo v) kp,(znt l (zlo v) kp).binds Z,h1⟩
theorem zsI(T:Top q loose Lq mg mb h)(hd:recD st∈recsOf q)(hn:defName st=x):∃c P,t9 [(c,P)] h/\isCodeTable h P/\∀base w J,(JP (gho h c P)).In base->LamZ ⟨J,w,JP (gho h c P),mg,base⟩ x c P:=by
 obtain⟨a,o,fd,c,P,h1,h2,l,h4,L,C⟩:=T.tab _ hd;have h1:mg (defName st)=some (.ref a):=h1;rw[hn]at h1;have u:t9 [(c,P)] h:=fun z hz=>by cases aF.mp hz;exact⟨CodeHd.of L C,C.2⟩
 refine⟨c,P,u,C.isCodeTable,fun base w J G=>⟨fun U ps' f Z D=>?_,?_,?_⟩⟩;have e:aO f=aO a:=aQ (D.m.symm.trans h1);cases e;obtain⟨oc,od,kV,doc,pm,an,S,ct,N,rfl,lk,R⟩:=D.F.ex;have g2:(gho h c P).get? a=some o:=vT u h2 fun z=>by rw[z]at l;cases l
 have v:=(Yp g2).symm.trans lk;cases v;have l:BH _=BH fd:=l;cases l;exact h4;exact((ghost_code u).1).keeps fun b o e=>G b o (Yp e);obtain⟨bm,ob,a1,a2,a3,Y,r⟩:=(ghost_top u T).bmain;exact⟨bm,ob,a1,a2,G _ _ (Yp a3),Y,r⟩
theorem zsG{lw:PySem.W.OpenLaw}{q:aJ}{loose:List Str}{Z:(Str->Option af)->aW->Prop}{YP:a7->aW->Prop}{d:DefRec}{k:Nat}(hk:k<=60)(hn:lw.most=some 63)(U:d.params.defaults=[])
  (F:∀(w:a7) (s₀:aq) (mg mb:qM) (L:aj) (h:aW),Ground q loose [] Z w s₀ mg mb h->mg d.name=some (.ref L) ->
   ∃(c P:aj) (qn:Str) (fd:dz),t9 [(c,P)] h/\isCodeTable h P/\(∀(s:aq) (u:af),tJ s fd ⟨[u],[]⟩ [("_law_script",u)])/\∀base:aW,(JP (gho h c P)).In base->base.Ns mainGlobals mg->FnOk lw.prog w (JP (gho h c P)) mg base CX0 k L fd ["_law_script"] (spT P qn (znL (JP (gho h c P))))) :
  PySem.W.WalkO q loose Z YP lw.row.toRowW d [] (fun f vs=>yV f vs):=by
 refine Att.attach_call hn U fun w s₀ v mg mb L o pm cd doc a vs ns G Y ho hd hcd R J C y hg=>?_;obtain⟨c,P,qn,fd,hT,N,hb,hF⟩:=F w s₀ mg mb L _ G R;have KX:(JP (gho v.heap c P)).In v.heap:=fun b o e=>of_hideAll _ (ze9 b o e);have S:(JP (gho v.heap c P)).lookup P=none:=by
  cases e:(JP (gho v.heap c P)).lookup P with
  | none=>rfl
  | some o =>have e1:=ze9 _ _ e;have e2:(gho v.heap c P).get? P=none:=hideAll_none _ (.head _);rw[e2]at e1;cases e1
 exact zku KX (hT _ (.head _)).2 N S G.T.g G.T.b G.T.builtins G.T.nolimit hg J C (bZ y (by decide)) ((show Room 60 callerA from⟨rfl,by decide,by decide,rfl⟩).mono hk) hF hb (fun H hS=>⟨a,ns,rfl,hS,y,fun _=>rfl⟩) fun H e s' z=>z
end
end Bd
namespace L2
open PySem PySem.Spec PyProof.Rows
section
variable{ρ:En}{n:Nat}{Rl:List ah->Nat->Prop}{d dk db:DTE}
instance zpU:Stp (zh9 d dk ρ n Rl) (d ρ n fun t n1=>JG t fun ts=>ts.length<64/\∃key:ah->Int,(∀t∈ts,∀R':ah->Nat->Prop,R' (.int (key t)) n1->dk [some (.val t)] n1 R') /\
 ∀ts':List ah,ts'.Perm ts->ts'.Pairwise (fun a b=>key a<=key b)->Rl ts' n1):=⟨fun h=>h⟩
end
end L2
namespace L2
open PySem PySem.Spec PyProof PyProof.Rows
section
variable{prog:aJ}{w:a7}{A:aX}{E:qV}{s:aq}
abbrev FB:=Int×(Int×Int)
end
section
variable{X:Cx}{a b:bg}{da db:DTE}
def tyT(K:qF)(x:V)(H:Hp):Prop:=∃p vs,x=.ref p/\(H p=some (.tup vs)\/StT K p vs)
theorem zpH{pins:qO}{σ:St}{H:Hp}{s:aq}{x:V}{v:af}(I:Inv X pins σ H s)(r:RelV x v)(ty:tyT X.K x H):s.TypeIs v "tuple" /\ ∀a,v=.ref a->∃l,s.heap.get? a=some l/\l.dict=none:=by
 obtain⟨p,vs,rfl,ty⟩:=ty;cases r;have z:∃o,s.heap.get? p=some o/\o.cls=.type "tuple" /\ o.dict=none:=by rcases ty with h|⟨o,its,n,h1,u,J,L,G,C⟩;obtain⟨_,its,_,o,e,c,_,d⟩:=I.hok p _ h;exact⟨o,e,c,d⟩;exact⟨o,I.kIn p o h1,u,C⟩
 obtain⟨o,e,c,d⟩:=z;exact⟨⟨o,e,c⟩,fun a q=>by cases q;exact⟨o,e,d⟩⟩
end
end L2
namespace L2
open PySem PySem.Spec
def Rse(xs:Array Nat):Prop:=∀i k,i<k->k<xs.size->xs.getD i 0<xs.getD k 0
theorem getD_in{xs:Array Nat}{i j k:Nat}(h:i<xs.size):xs.getD i j=xs.getD i k:=by simp[gD,h]
theorem ze7{xs:Array Nat}(r:Rse xs)(j:Nat):∀(l lo hi:Nat),hi - lo<=l->lo<=hi->hi<=xs.size->(∀i,i<lo->xs.getD i 0<j)->(∀i,hi<=i->i<xs.size->j<=xs.getD i 0) ->
  iV xs j l lo hi<=xs.size/\(∀i,i<iV xs j l lo hi->xs.getD i 0<j)/\∀i,iV xs j l lo hi<=i->i<xs.size->j<=xs.getD i 0
 | 0,lo,hi,h1,h2,h3,h4,h5=>by
  have e:lo=hi:=by omega
  subst e;exact⟨h3,h4,h5⟩
 | l+1,lo,hi,h1,h2,h3,h4,h5=>by
  unfold iV;by_cases z:lo<hi;rw[if_pos z];dsimp only;have C:(lo+hi) / 2<hi:=by omega
  have u:lo<=(lo+hi) / 2:=by omega
  have v:xs.getD ((lo+hi) / 2) j=xs.getD ((lo+hi) / 2) 0:=getD_in (by omega);rw[v];by_cases y:xs.getD ((lo+hi) / 2) 0<j;rw[if_pos y];refine ze7 r j l _ hi (by omega) (by omega) h3 (fun i o=>?_) h5;rcases lZ (show i<=(lo+hi) / 2 by omega) with q|q;exact lA (r _ _ q (by omega)) y;rw[q];exact y;rw[if_neg y];refine ze7 r j l lo _ (by omega) u (by omega) h4 (fun i o x=>?_);rcases lZ o with q|q;exact bZ (ua.mp y) (fc (r _ _ q x));rw[<- q];exact ua.mp y;rw[if_neg z];have e:lo=hi:=by omega
  subst e;exact⟨h3,h4,h5⟩
theorem zih{xs:Array Nat}(r:Rse xs)(j:Nat):bt xs j<=xs.size/\(∀i,i<bt xs j->xs.getD i 0<j)/\∀i,bt xs j<=i->i<xs.size->j<=xs.getD i 0 :=
 ze7 r j xs.size 0 xs.size (by omega) (by omega) (aD _) (fun i h=>absurd h (by omega)) (fun i h h'=>absurd h (by omega))
theorem zhk{l:List Nat}(h:l.Pairwise (·<·)):Rse l.toArray:=fun i k u v=>by
 have o:k<l.length:=by simpa using v
 have:=aZ.mp h i k (by omega) o u;simpa[gD,o,show i<l.length by omega] using this
theorem zp8{xs:Array Nat}(h:Rse xs):xs.toList.Pairwise (·<·):=aZ.mpr fun i k hi o l=>by have:=h i k l (by simpa using o);simpa[gD,show k<xs.size by simpa using o,show i<xs.size by simpa using hi] using this
theorem ziv{xs:Array Nat}(r:Rse xs){j:Nat}(h:xs[bt xs j]?≠some j):Rse (rW xs (bt xs j) j):=by
 obtain⟨N,J,C⟩:=zih r j;have e:(rW xs (bt xs j) j)=(xs.toList.take (bt xs j)++j::xs.toList.drop (bt xs j)).toArray:=by rw[<- SetTable.toList_insertAt,kv]
 rw[e];have p:=zp8 r;refine zhk (eW.mpr ⟨p.sublist (mF ..),bo.mpr ⟨fun y l=>?_,p.sublist (mM ..)⟩,fun x hx y l=>?_⟩);obtain⟨k,u,rfl⟩:=bh l;rw[gW,cC]at u;have q:=C (bt xs j+k) (by omega) (by omega);rw[rX,kB];have v:xs.getD (bt xs j+k) 0=xs[bt xs j+k]'(by omega):=by simp[gD,show bt xs j+k<xs.size by omega]
 rw[v]at q;rcases lZ q with q|q;exact q;exfalso;cases k with
 | zero=>exact h (by rw[aT (by omega)];exact congrArg some q.symm)
 | succ k =>have L:=C (bt xs j) (aD _) (by omega);have I:=r (bt xs j) (bt xs j+(k+1)) (by omega) (by omega);rw[v]at I;omega
 have G:x<j:=by obtain⟨k,u,rfl⟩:=bh hx;rw[dQ,cC]at u;have q:=J k (by omega);rw[List.getElem_take,kB];simpa[gD,show k<xs.size by omega] using q
 rcases au.mp l with rfl|l;exact G;obtain⟨k,u,rfl⟩:=bh l;rw[gW,cC]at u;have q:=C (bt xs j+k) (by omega) (by omega);rw[rX,kB];have v:xs.getD (bt xs j+k) 0=xs[bt xs j+k]'(by omega):=by simp[gD,show bt xs j+k<xs.size by omega]
 rw[v]at q;omega
def Nin(t:eC)(j:Nat):Prop:=t.place[bt t.place j]?≠some j
theorem zhh{t:eC}{j:Nat}(h:∀i,t.slot j≠.live i):Nin t j:=fun z=>by refine h (bt t.place j) ?_;unfold SetTable.slot;simp[z]
theorem zdz{t:eC}{x:Nat->Int}{h:Int}:∀(l:Nat) (p:ub),(∀d,p.dummy=some d->Nin t d)->∀j o,rY t x h l p=some (.empty j o)->Nin t j/\∀d,o=some d->Nin t d
 | 0,p,hp,j,o,e=>by cases e
 | l+1,p,hp,j,o,e=>by
  have v:∀q:ub,(t.advance q).dummy=q.dummy:=fun q=>by unfold SetTable.advance;split <;> rfl
  unfold rY at e;split at e;rename_i es;cases e;exact⟨zhh (by rw[es];intro i z;cases z),hp⟩;rename_i es;refine zdz l _ (fun d hd=>?_) j o e;rw[v]at hd;cases hd;exact zhh (by rw[es];intro i z;cases z);split at e;cases e;exact zdz l _ (fun d hd=>hp d (by rw[v]at hd;exact hd)) j o e
theorem zmK{t:eC}{h:Int}{j:Nat}{b:Bool}(e:t.freeSlot h=some (j,b)):Nin t j:=by
 unfold SetTable.freeSlot at e;split at e;rename_i u o ep;obtain⟨h1,v⟩:=zdz _ _ (fun d hd=>by cases hd) u o ep;have l:=congrArg Prod.fst (aQ e);dsimp only at l;subst l;cases o with
 | none=>exact h1
 | some d=>exact v d rfl
 cases e
theorem ZF(t:eC)(n:Nat):Rse (t.standIn n).place:=by show Rse (Array.range n);intro i k o u;rw[Array.size_range]at u;simp[gD,u,show i<n by omega,o]
theorem zgA{t:eC}(r:Rse t.place)(n:Nat):Rse (t.orStandIn n).place:=by unfold p9;split;exact r;exact ZF t n
theorem zgB{t:eC}(n:Nat):(t.orStandIn n).led=t.led:=by unfold p9;split <;> rfl
theorem zfI{t:eC}(r:Rse t.place)(es:Array (Int×af))(h:Int)(x:af):Rse (layNew t es h x).2.1.place/\(layNew t es h x).2.1.led=t.led:=by unfold layNew;split;rename_i slot o e;refine⟨zgA ?_ _,zgB _⟩;exact ziv r (zmK e);exact⟨ZF _ _,rfl⟩
theorem zgv{t:eC}(r:Rse t.place)(es:Array (Int×af))(n:Nat):Rse (relayAll t es n).2.1.place/\(relayAll t es n).2.1.led=t.led:=by
 unfold relayAll;split;rename_i t' order e;have k:Rse t'.place/\t'.led=t.led:=by unfold SetTable.relaid SetTable.laid at e;simp only[Option.bind_eq_bind,Option.bind_eq_some_iff]at e;obtain⟨owner,_,e⟩:=e;have x:=congrArg Prod.fst (aQ e);dsimp only at x;rw[<- x];refine⟨zhk ?_,rfl⟩;rw[List.map_filterMap];refine vV (R:=(·<·)) _ (fun a y u b v C o=>?_) (List.pairwise_lt_range);simp only[Option.map_map,cO,pO]at v o;obtain⟨_,_,rfl⟩:=v;obtain⟨_,_,rfl⟩:=o;exact u
 dsimp only;split;exact k;exact⟨ZF _ _,rfl⟩;exact⟨ZF _ _,rfl⟩
end L2
namespace L2
open PySem PySem.Spec PyProof PyProof.Rows
def elI(i:Int)(e:Int×af):Prop:=e.1=hashInt i/\∃t,e.2=.int i t
def SetO(w:a7)(o:Obj)(ns:List Int):Prop:=∃es ep t,o.ExactSet/\o.data=.set es ep t/\(∃ms,ms.Perm ns/\bR elI ms es.toList)/\ns.Nodup/\es.size<scanBound/\t.fits es.size=true/\Rse t.place/\(w.params.followText "set-order" = false->t.led=true)
def SetI(w:a7)(h:aW)(a:aj)(ns:List Int):Prop:=∃o,h.get? a=some o/\SetO w o ns
theorem zmg{α l:Type}{F:α->l->Prop}{u l2:List α}{m1 m2:List l}(h:bR F u m1)(k:bR F l2 m2):bR F (u++l2) (m1++m2):=by
 induction h with
 | nil=>exact k
 | cons r _ v=>exact .cons r v
theorem ZH{α o:Type}{F:α->o->Prop}{l:List α}{m:List o}(h:bR F l m):l.length=m.length:=by
 induction h with
 | nil=>rfl
 | cons _ _ u=>simp[u]
theorem zj5{α o:Type}{F:α->o->Prop}{l:List α}{m:List o}(h:bR F l m):∀x∈l,∃y∈m,F x y:=by
 induction h with
 | nil=>intro x hx;cases hx
 | @cons a b as bs r _ ih =>intro x hx;rcases au.mp hx with rfl|hx;exact⟨b,.head _,r⟩;obtain⟨y,u,q⟩:=ih x hx;exact⟨y,.tail _ u,q⟩
theorem zdC{α o:Type}{F:α->o->Prop}{l:List α}{m:List o}(h:bR F l m):∀y∈m,∃x∈l,F x y:=by
 induction h with
 | nil=>intro x hx;cases hx
 | @cons a b as bs r _ ih =>intro x hx;rcases au.mp hx with rfl|hx;exact⟨a,.head _,r⟩;obtain⟨y,u,q⟩:=ih x hx;exact⟨y,.tail _ u,q⟩
theorem zdB{α I:Type}{F:α->I->Prop}{m G:List I}(p:m.Perm G):∀{l:List α},bR F l m->∃C,C.Perm l/\bR F C G:=by
 induction p with
 | nil=>intro l h;exact⟨l,.rfl,h⟩
 | cons x _ N =>
  intro l h;cases h with
  | cons r t =>obtain⟨C,L,q⟩:=N t;exact⟨_,L.cons _,.cons r q⟩
 | swap x y _ =>
  intro l h;cases h with
  | cons r t=>cases t with
   | cons U t2=>exact⟨_,.swap ..,.cons U (.cons r t2)⟩
 | trans _ _ v u =>intro l h;obtain⟨Y,S,J⟩:=v h;obtain⟨l2,p2,R⟩:=u J;exact⟨l2,p2.trans S,R⟩
theorem Yo{k:Int}{v:af}:kg k v=true↔∃t,v=.int k t:=⟨fun h=>rg h,fun⟨t,e⟩=>by rw[e];simp[kg]⟩
section
variable{prog:aJ}{w:a7}{A:aX}{E:qV}{s:aq}
theorem zrK{ms:List Int}{l:List (Int×af)}(h:bR elI ms l):ElemsOf (intKind prog w) l:=fun e he=>by obtain⟨k,_,h1,t,o⟩:=zdC h e he;exact⟨⟨k,by show kg k e.2=true;exact Yo.mpr ⟨t,o⟩,h1⟩,by rw[o];rfl⟩
theorem zhj{o:Obj}{es:Array (Int×af)}{ep:Nat}{t:eC}{h:aW}{a:aj}(u:h.get? a=some o)(hd:o.data=.set es ep t)(l:Array (Int×af))(t':eC) :
  (h.update a (uc l t')).get? a=some { o with data:=.set l (ep+1) t' }:=by
 have:=bO (uc l t') u (by rw[putSet_of l t' hd];rfl);rwa [putSet_of l t' hd]at this
theorem zlP{g:Bool->Sem Unit}(U:∀(b:Bool) (s1:aq) (J:Unit->aq->Prop),J () s1->wpAny (model prog w) A (g b) J E s1){a:aj}{o:Obj}{es l:Array (Int×af)}{ep:Nat}{t t2:eC}{ms ns:List Int}{S:Bool}{R:Option Bool->aq->Prop}
  (I:s.heap.get? a=some o) (hex:o.ExactSet) (hd:o.data=.set es ep t) (pm:ms.Perm ns) (pr:bR elI ms l.toList) (nd:ns.Nodup) (v:l.size<scanBound) (hf:t2.fits l.size=true) (rs:Rse t2.place) (ld:w.params.followText "set-order" = false->t2.led=true)
  (h:∀h',cN a s.heap h'->SetI w h' a ns->R (some true) { s with heap:=h' }) :
  wpAny (model prog w) A (do
    storeSet a l t2
    if (!S&&t2.tooFull)=true then do
      g (relayAll t2 l (eD l.size)).2.2
      storeSet a (relayAll t2 l (eD l.size)).1 (relayAll t2 l (eD l.size)).2.1
      pure (some true)
     else pure (some true)) R E s:=by
 refine aa (rZ I hd ?_ (iW v));have h1:=zhj I hd l t2;have N:=eF s.heap a (uc l t2);split;have p2:=relayAll_perm t2 l (eD l.size);have f2:=relayAll_fits t2 l (eD l.size);obtain⟨C,l2⟩:=zgv rs l (eD l.size);generalize relayAll t2 l (eD l.size)=L at p2 f2 C l2 ⊢;obtain⟨u,t3,Y⟩:=L;dsimp only at p2 f2 C l2 ⊢;have sz:u.size=l.size:=by have:=p2.length_eq;simpa using this
 obtain⟨x,G,y⟩:=zdB p2.symm pr;refine aa (U _ _ _ (aa (rZ h1 rfl ?_ (iW (by rw[sz];exact v)))));exact ae (h _ (N.trans (eF _ a _)) ⟨_,zhj h1 rfl u t3,u,_,t3,hex,rfl,⟨x,G.trans pm,y⟩,nd,by rw[sz];exact v,f2,C,fun z=>by rw[l2];exact ld z⟩);exact ae (h _ N ⟨_,h1,l,_,t2,hex,rfl,⟨ms,pm,pr⟩,nd,v,hf,rs,ld⟩)
def adI(ns:List Int)(i:Int):List Int:=if i∈ns then ns else ns++[i]
theorem zlT{a:aj}{ns:List Int}{i:Int}{tk:Tok}{Q:Bool->aq->Prop}(S:SetI w s.heap a ns)(room:ns.length+1<scanBound)
  (h:∀b h',cN a s.heap h'->SetI w h' a (adI ns i)->Q b { s with heap:=h' }):wpAny (model prog w) A (setAddHashed a (.int i tk) ((intKind prog w).hash i)) Q E s:=by
 obtain⟨o,J,es,ep,t,hex,hd,⟨ms,pm,pr⟩,nd,hb,hf,rs,ld⟩:=S;have el:=zrK (prog:=prog) (w:=w) pr;have sz:es.size=ns.length:=by have:=ZH pr;rw[pm.length_eq]at this;simpa using this.symm
 have hk:(intKind prog w).is i (.int i tk)=true:=Yo.mpr ⟨tk,rfl⟩;unfold setAddHashed setAddHashedIn;refine bU (aa (dE J hd hf ?_));dsimp only;rw[byScan_of rfl hb el,if_pos rfl];unfold setAddByScan;refine aa (aa (b7 (aa (wpAny_setScan_of hk J hd hf el ?_))));cases hr:List.findIdx? (fun e=>(intKind prog w).is i e.2) es.toList with
 | some j =>
  obtain⟨hj,Y,_⟩:=List.findIdx?_eq_some_iff_getElem.mp hr;have C:i∈ns:=by obtain⟨k,hk',_,t',U⟩:=zdC pr _ (dS hj);obtain⟨t2,e3⟩:=Yo.mp (show kg i es.toList[j].2=true from Y);rw[U]at e3;cases e3;exact pm.mem_iff.mp hk'
  refine ae (ae ?_);have:=h false s.heap (mI a s.heap) ⟨o,J,es,ep,t,hex,hd,⟨ms,by rw[adI,if_pos C];exact pm,pr⟩,by rw[adI,if_pos C];exact nd,hb,hf,rs,ld⟩;cases s;exact this
 | none =>
  have C:i∉ns:=fun z=>by obtain⟨e,he,_,t',U⟩:=zj5 pr i (pm.mem_iff.mpr z);have:=List.findIdx?_eq_none_iff.mp hr e he;rw[show(intKind prog w).is i e.2=true from Yo.mpr ⟨t',U⟩]at this;cases this
  dsimp only;have I:=layNew_perm t es ((intKind prog w).hash i) (.int i tk);have f1:=layNew_fits t es ((intKind prog w).hash i) (.int i tk);obtain⟨r1,l1⟩:=zfI rs es ((intKind prog w).hash i) (.int i tk);generalize layNew t es ((intKind prog w).hash i) (.int i tk)=L at I f1 r1 l1 ⊢;obtain⟨u,t1,wd,gv⟩:=L;dsimp only at I f1 r1 l1 ⊢;rw[gN]at I;obtain⟨ms1,N,pr1⟩:=zdB I.symm (zmg pr (.cons (show elI i (hashInt i,.int i tk) from⟨rfl,tk,rfl⟩) .nil));have sz1:u.size=ns.length+1:=by have:=I.length_eq;simpa[sz] using this
  have v:∀(b:Bool) (s1:aq) (G:Unit->aq->Prop),G () s1->wpAny (model prog w) A (match b with|true=>rule "set.scan.the-table-gave-way" | false=>pure ()) G E s1:=fun b s1 G hq=>by cases b;exact ae hq;exact b7 hq
  have fin:∀{R:Option Bool->aq->Prop} {g:Bool->Sem Unit},(∀(b:Bool) (s1:aq) (G:Unit->aq->Prop),G () s1->wpAny (model prog w) A (g b) G E s1)->(∀h',cN a s.heap h'->SetI w h' a (adI ns i)->R (some true) { s with heap:=h' })->wpAny (model prog w) A (do
    storeSet a u t1
    if (!wd&&t1.tooFull)=true then do
      g (relayAll t1 u (eD u.size)).2.2
      storeSet a (relayAll t1 u (eD u.size)).1 (relayAll t1 u (eD u.size)).2.1
      pure (some true)
     else pure (some true)) R E s:=fun hg hR=>by
   refine zlP hg J hex hd (ms:=ms1) (ns:=adI ns i) ?_ pr1 ?_ (by rw[sz1];exact room) f1 r1 (fun z=>by rw[l1];exact ld z) hR;rw[adI,if_neg C];exact N.trans (pm.append_right _);rw[adI,if_neg C];exact iS.mpr ⟨nd,by simp,fun x hx y hy=>by rw[aF]at hy;subst hy;exact fun z=>C (z▸hx)⟩
  refine aa (v _ _ _ ?_);split;refine aa ?_;rw[hashByValue_scannable 8 (x:=.int i tk) rfl];refine ae ?_;exact fin v fun h' sb Z=>ae (h true h' sb Z);refine aa (ae ?_);exact fin v fun h' sb Z=>ae (h true h' sb Z)
theorem zdp{a:aj}{ns:List Int}(S:SetI w s.heap a ns):s.TypeIs (.ref a) "set":=by obtain⟨o,l,_,_,_,hex,_⟩:=S;exact⟨o,l,hex.1⟩
theorem zgZ{a:aj}{ns:List Int}{i:Int}{tk:Tok}{Q:qV}(S:SetI w s.heap a ns)(room:ns.length+1<scanBound)
  (h:∀h' v,cN a s.heap h'->SetI w h' a (adI ns i)->Q .none { s with heap:=h',toks:=v }):wpAny (model prog w) A (call (.builtin "set.add") [.ref a,.int i tk]) Q E s:=by
 refine bK F.slot_set_add (zdp S) F.entry_set_add ?_ (F.args_set_add_2 _ _);unfold dh.«set.add» ud vA setAdd;simp only[bind_assoc,List.isEmpty_nil];refine aa (ae ?_);(try dsimp only);refine aa (ae ?_);(try dsimp only);refine aa (bU (aa ((intKind prog w).pyHash (Yo.mpr ⟨tk,rfl⟩) ?_)))
 refine zlT (s:={ s with toks:=s.toks+1 }) S room fun b h' C x=>?_;show wpAny _ _ (ret dO) _ _ _;exact ae ⟨_,rfl,h h' _ C x⟩
theorem zov{Q:qV}(h:∀o,SetO w o []->Q (.ref s.heap.objs.size) { s with heap:=s.heap.push o }):wpAny (model prog w) A (newSet (.type "set")) Q E s:=by unfold newSet setsByText;refine aa (aa (cn (ae ?_)));simp only[newObj];exact aa (wpAny_alloc (ae (h _ ⟨#[],0,_,⟨rfl,rfl,rfl⟩,rfl,⟨[],.rfl,.nil⟩,.nil,by decide,by rfl,fun i k _ u=>absurd u (by simp[SetTable.fresh]),fun z=>by show(!w.params.followText "set-order")=true;rw[z];rfl⟩)))
end
theorem UC:Slot "set_iterator" "__next__" "set_iterator.__next__":=.of (owner:="set_iterator") (n:="__next__") (by rw[kO,gH];kernel_rfl) (by decide +kernel) (by decide +kernel) (by decide +kernel) (by first|exact .inl (by decide +kernel)|exact .inr (by decide +kernel)) (by rw[o5];kernel_rfl)
theorem zci:Slot "set_iterator" "__iter__" "set_iterator.__iter__":=.of (owner:="set_iterator") (n:="__iter__") (by rw[kO,gH];kernel_rfl) (by decide +kernel) (by decide +kernel) (by decide +kernel) (by first|exact .inl (by decide +kernel)|exact .inr (by decide +kernel)) (by rw[o5];kernel_rfl)
theorem zb7:entryFor table "set_iterator.__next__" = some dh.«set_iterator.__next__»:=entryFor_of_tree (by kernel_rfl)
theorem zd9:entryFor table "set.__iter__" = some dh.«frozenset.__iter__»:=ue (id':="frozenset.__iter__") (by kernel_rfl) rfl (by decide +kernel) (by kernel_rfl)
theorem zd8:entryFor table "set_iterator.__iter__" = some dh.«dict_keyiterator.__iter__»:=ue (id':="dict_keyiterator.__iter__") (by kernel_rfl) rfl (by decide +kernel) (by kernel_rfl)
theorem zfx:Manifest.owners.lookup (String.ofList ['r','o','t','a','r','e','t','i','_','t','e','s'].reverse)=some Manifest.sig_set_iterator:=by kernel_rfl
theorem zcA(a:af):argsOk "set_iterator.__next__" ⟨[a],[]⟩:=by unfold argsOk;rw[signature?_of (id:="set_iterator.__next__") (n:=['_','_','t','x','e','n','_','_']) (o:=['r','o','t','a','r','e','t','i','_','t','e','s']) (by kernel_rfl) zfx];kernel_rfl
theorem ze8(a:af):argsOk "set_iterator.__iter__" ⟨[a],[]⟩:=by unfold argsOk;rw[signature?_of (id:="set_iterator.__iter__") (n:=['_','_','r','e','t','i','_','_']) (o:=['r','o','t','a','r','e','t','i','_','t','e','s']) (by kernel_rfl) zfx];kernel_rfl
theorem zfR{α:Type}{l:List α}{i:Nat}(h:i<l.length):(l[i]::l.eraseIdx i).Perm l:=by
 rw[List.eraseIdx_eq_take_drop_succ];have e:l=l.take i++l[i]::l.drop (i+1):=by rw[<- br h,ft]
 refine gk.symm.trans ?_;rw[<- e]
theorem zjY{α:Type}{nx:Nat->Nat}:∀(u k:Nat) (l:List α) (out:Array α),l.length=u->(r8 nx u k l out).toList.Perm (out.toList++l)
 | 0,k,l,out,h=>by have:l=[]:=gm.mp h;subst this;simp[r8]
 | u+1,k,l,out,h=>by
  have x:0<l.length:=by omega
  have v:nx k % l.length<l.length:=Ah _ x;unfold r8;rw[av v];dsimp only;refine(zjY u (k+1) _ _ (by rw[mf v];omega)).trans ?_;rw[gN,aY];exact fv _ (zfR v)
theorem zdA{α:Type}{nx:Nat->Nat}(xs:Array α):(pickOrder nx xs).toList.Perm xs.toList:=by have:=zjY (nx:=nx) xs.size 0 xs.toList #[] (by simp);simpa[pickOrder] using this
section
variable{prog:aJ}{w:a7}{A:aX}{E:qV}{s:aq}
theorem zi8{src:Source}{n:Nat}{Q:Nat->aq->Prop}(l:n≠0)(h:∀i d,i<n->Q i { s with drawn:=d }):wpAny (model prog w) A (choose src n) Q E s:=fun u p o=>by unfold choose;rw[Sem.wp_choose];exact⟨l,h _ _ (Ah _ (Nat.pos_of_ne_zero l))⟩
theorem zeq{α:Type}:∀(n:Nat) (xs:List α) (s:aq) (Q:List α->aq->Prop),xs.length=n->(∀ys d,ys.Perm xs->Q ys { s with drawn:=d })->wpAny (model prog w) A (drawOrder n xs) Q E s
 | 0,xs,s,Q,h,q=>by have:xs=[]:=gm.mp h;subst this;unfold drawOrder;exact ae (q [] s.drawn .nil)
 | n+1,[],s,Q,h,q=>by simp at h
 | n+1,x::xs,s,Q,h,q=>by unfold drawOrder;refine aa (zi8 (by simp) fun i d hi=>?_);rw[av hi];dsimp only;refine aa (zeq n _ _ _ (by rw[mf hi];omega) fun ys o p=>ae ?_);exact q _ o ((p.cons _).trans (zfR hi))
def SIt(h:aW)(it:aj)(first:af)(i:Nat)(a:aj)(n ep:Nat):Prop:=∃o,h.get? it=some o/\o.cls=.type "set_iterator" /\ o.data=.fields #[first,.int i 0,.ref a,.int n 0,.int ep 0]
def SAt(h:aW)(a:aj)(es:Array (Int×af))(ep:Nat)(t:eC):Prop:=∃o,h.get? a=some o/\o.data=.set es ep t/\t.fits es.size=true
theorem QP{it a:aj}{f:af}{i n ep:Nat}(x:SIt s.heap it f i a n ep):s.TypeIs (.ref it) "set_iterator":=let ⟨o,h,c,_⟩:=x;⟨o,h,c⟩
inductive Orr (w:a7)(h:aW)(a:aj)(es:Array (Int×af))(ep:Nat)(t:eC):(Nat->af)->List af->List aj->Prop
 | txt (hb:w.params.followText "set-order" = true):Orr w h a es ep t (fun _=>.int 0 0) ((pickOrder (w.params.setOrder a ep) es).toList.map (·.2)) []
 | pla (hb:w.params.followText "set-order" = false) (hd:(!t.plain&&decide (es.size > 1))=false) (hl:t.led=true) (r:Rse t.place):Orr w h a es ep t (fun i=>.int (if i=0 then 0 else(t.place.getD (i - 1) 0+1:Nat)) 0) (es.toList.map (·.2)) []
 | drw {p:aj} {ps:List Nat} {o:Obj} {n:Nat} (ho:h.get? p=some o) (hd:o.data=.seq (ps.map fun(i:Nat)=>iY (i:Int) 0).toArray n) (pm:ps.Perm (eJ es.size)):Orr w h a es ep t (fun _=>.ref p) (ps.map fun(i:Nat)=>(es.getD i (0,.none)).2) [p]
theorem Orr.len{h:aW}{a:aj}{es:Array (Int×af)}{ep:Nat}{t:eC}{f:Nat->af}{vs:List af}{qs:List aj}(x:Orr w h a es ep t f vs qs):vs.length=es.size:=by
 cases x with
 | txt o=>rw[aR,(zdA es).length_eq];simp
 | pla=>simp
 | drw _ _ pm=>rw[aR,pm.length_eq];simp
theorem Orr.perm{h:aW}{a:aj}{es:Array (Int×af)}{ep:Nat}{t:eC}{f:Nat->af}{vs:List af}{qs:List aj}(x:Orr w h a es ep t f vs qs):vs.Perm (es.toList.map (·.2)):=by
 cases x with
 | txt v=>exact(zdA es).map _
 | pla=>exact .rfl
 | drw _ _ pm =>
  refine(pm.map _).trans ?_;have e:(eJ es.size).map (fun i=>(es.getD i (0,.none)).2)=es.toList.map (·.2):=by
   refine List.ext_getElem (by simp) fun i h1 u=>?_;have hi:i<es.size:=by simpa using h1
   simp[gD,hi]
  rw[e]
theorem Orr.keep{h h':aW}{a:aj}{es:Array (Int×af)}{ep:Nat}{t:eC}{f:Nat->af}{vs:List af}{qs:List aj}(x:Orr w h a es ep t f vs qs)(k:∀b∈qs,∀o,h.get? b=some o->h'.get? b=some o):Orr w h' a es ep t f vs qs:=by
 cases x with
 | txt u=>exact .txt u
 | pla u hd y r=>exact .pla u hd y r
 | drw v hd pm=>exact .drw (k _ (by simp) _ v) hd pm
theorem zey{xs:Array Nat}(r:Rse xs){i:Nat}(hi:i<=xs.size):bt xs (if i=0 then 0 else xs.getD (i - 1) 0+1)=i:=by obtain⟨u,l,o⟩:=zih r (if i=0 then 0 else xs.getD (i - 1) 0+1);generalize bt xs (if i=0 then 0 else xs.getD (i - 1) 0+1)=b at u l o;by_cases z:i=0;subst z;rcases lW b with q|q;exact q;have:=l 0 q;simp at this;rw[if_neg z]at l o;rcases ef b i with q|q|q;exfalso;have:=o (i - 1) (by omega) (by omega);omega;exact q;exfalso;have h1:=l i q;have v:=r (i - 1) i (by omega) (by omega);omega
theorem zlN{it a:aj}{es:Array (Int×af)}{i ep:Nat}{t:eC}{f:Nat->af}{vs:List af}{qs:List aj}{v:af}{Q:Option af->aq->Prop}(x:SIt s.heap it (f i) i a es.size ep)(y:SAt s.heap a es ep t)(z:Orr w s.heap a es ep t f vs qs)(L:vs[i]?=some v)
  (U:∀h',SIt h' it (f (i+1)) (i+1) a es.size ep->(∀b o,b≠it->s.heap.get? b=some o->h'.get? b=some o)->Q (some v) { s with heap:=h' }):wpAny (model prog w) A (pyNext (.ref it)) Q E s:=by
 obtain⟨o,R,hc,hd⟩:=id x;obtain⟨oa,G,C,hf⟩:=id y;unfold pyNext;refine aa (fT (cm (name:=aM "__next__") (QP x) UC (bK UC (QP x) zb7 ?_ (zcA _))));unfold dh.«set_iterator.__next__»;refine aa (ae ?_);refine aa (lX R hd ?_);dsimp only;refine aa (kU G C hf ?_);rw[if_neg (by simp)];have hil:i<es.size:=by have:=(aH.mp L).1;rwa [z.len]at this
 have fld:∀{nx:Nat} {P:Fin->aq->Prop} {E':qV},f (i+1)=.int (nx:Int) 0->(∀h',SIt h' it (f (i+1)) (i+1) a es.size ep->(∀b o,b≠it->s.heap.get? b=some o->h'.get? b=some o)->P (.done (.ret v)) { s with heap:=h' })->wpAny (model prog w) A.in1 (do setField (.ref it) 0 (rawInt nx);setField (.ref it) 1 (rawInt ((i:Int)+1));ret v) P E' s:=fun {nx P E'} e1 hP=>by refine aa (eY R hd (by simp) ?_);have h1:=bO (mY (·.setIfInBounds 0 (rawInt (nx:Int)))) R (fw (cR hd _));have d1:=cR hd (·.setIfInBounds 0 (rawInt (nx:Int)));refine aa (eY h1 d1 (by simp) ?_);have h2:=bO (mY (·.setIfInBounds 1 (rawInt ((i:Int)+1)))) h1 (fw (cR d1 _));refine ae (hP _ ⟨_,h2,?_,?_⟩ fun b ob J e=>?_);rw[iO,iO];exact hc;rw[cR d1,e1];simp[rawInt];rw[bz _ _ (dW J),bz _ _ (dW J)];exact e
 cases z with
 | txt J =>
  dsimp only;refine aa ?_;unfold setNext setsByText;refine aa (dE G C hf (aa (aa (cn (ae ?_)))));dsimp only;rw[show(model prog w).w.params.followText "set-order" = true from J,if_pos rfl];rw[if_neg (by simp)];unfold setWalk setsByText;refine aa (aa (dE G C hf (aa (aa (cn (ae ?_))))));dsimp only;rw[show(model prog w).w.params.followText "set-order" = true from J,if_pos rfl];refine aa (cn (ae (ae ?_)));have e1:(pickOrder (w.params.setOrder a ep) es)[((i:Nat):Int).toNat]?.map (fun e=>(e.2,vW 0))=some (v,0):=by rw[bQ,<- bP];rw[aN]at L;obtain⟨e,he,rfl⟩:=cO.mp L;rw[he];rfl
  rw[show Option.map (fun e=>(e.2,vW 0)) (pickOrder ((mh (model prog w).prog (model prog w).w.params).params.setOrder a ep) es)[((i:Nat):Int).toNat]?=some (v,0) from e1];exact fld rfl fun h' Z k=>⟨_,rfl,ae (U h' Z k)⟩
 | pla J Y hl r =>
  dsimp only;refine aa ?_;unfold setNext setsByText;refine aa (dE G C hf (aa (aa (cn (ae ?_)))));dsimp only;rw[show(model prog w).w.params.followText "set-order" = false from J,if_neg (by decide)];refine fE (fun z=>absurd (show(!t.plain&&decide (es.size > 1))=true from z) (by rw[Y];decide)) (fun _=>?_);refine aa ?_;show wpAny _ _ (if (!t.led&&!es.isEmpty)=true then unsupported "set:maker-not-led" else pure ()) _ _ _;rw[hl,if_neg (by simp)];refine ae (ae ?_);have sp:t.place.size=es.size:=by simp only[vC,cc,beq_iff_eq]at hf;exact hf.1
  have e0:(if i=0 then(0:Int) else((t.place.getD (i - 1) 0+1:Nat):Int)).toNat=if i=0 then 0 else t.place.getD (i - 1) 0+1:=by split <;> rfl
  rw[e0,zey r (by omega)];rw[aN]at L;obtain⟨e,he,rfl⟩:=cO.mp L;rw[bP]at he;rw[he,aT (by omega)];dsimp only;refine fld ?_ fun h' Z k=>⟨_,rfl,ae (U h' Z k)⟩;show iY (if i+1=0 then 0 else(t.place.getD (i+1 - 1) 0+1:Nat)) 0=_;rw[if_neg (by omega),pY];simp[gD,show i<t.place.size by omega]
 | @drw p ps op np hop hdp pm =>
  dsimp only;unfold seqItems?;refine aa (aa (lF hop ?_));rw[hdp];refine ae ?_;dsimp only;rw[aN]at L;obtain⟨q,hq,rfl⟩:=cO.mp L;rw[oA,bQ,aN,hq];dsimp only[gE];have S:q<es.size:=by have:=pm.mem_iff.mp (aP hq);simpa using this
  unfold setNextDrawn;refine aa (aa (dE G C hf ?_));dsimp only;rw[if_neg (by simp),bQ,aT S];refine ae ?_;refine aa (eY R hd (by simp) ?_);have h2:=bO (mY (·.setIfInBounds 1 (rawInt ((i:Int)+1)))) R (fw (cR hd _));have ev:(es.getD q (0,.none)).2=es[q].2:=by simp[gD,S]
  rw[ev]at U;refine ae ⟨_,rfl,ae (U _ ⟨_,h2,?_,?_⟩ fun b ob J e=>?_)⟩;rw[iO];exact hc;rw[cR hd];simp[rawInt];rw[bz _ _ (dW J)];exact e
theorem zlO{it a:aj}{es:Array (Int×af)}{ep:Nat}{t:eC}{f:Nat->af}{vs:List af}{qs:List aj}{Q:Option af->aq->Prop}(Y:A.handled=none)(x:SIt s.heap it (f es.size) es.size a es.size ep)(y:SAt s.heap a es ep t)(z:Orr w s.heap a es ep t f vs qs)
  (U:∀h',(∀b o,b≠it->s.heap.get? b=some o->h'.get? b=some o)->Q none { s with heap:=h' }):wpAny (model prog w) A (pyNext (.ref it)) Q E s:=by
 obtain⟨o,L,hc,hd⟩:=id x;obtain⟨oa,G,C,hf⟩:=id y;unfold pyNext;refine aa (fT (cm (name:=aM "__next__") (QP x) UC (bK UC (QP x) zb7 ?_ (zcA _))));unfold dh.«set_iterator.__next__»;refine aa (ae ?_);refine aa (lX L hd ?_);dsimp only;refine aa (kU G C hf ?_);rw[if_neg (by simp)];have fin:∀{s':aq} {P:Fin->aq->Prop},s'.gens=s.gens->(∀b o,b≠it->s.heap.get? b=some o->s'.heap.get? b=some o)->s'={ s with heap:=s'.heap }->wpAny (model prog w) A.in1 (do let __do_lift <- newExc (a8 "StopIteration") [];raiseNew __do_lift) P (fun e s'=>wpAny (model prog w) A (do let __do_lift <- isInstance e (a8 "StopIteration");if __do_lift=true then pure none else throw e) Q E s') s':=fun {s' P} _ hk es'=>by refine aa ?_;simp only[newExc,newTuple];refine aa (bG ?_ (by size_fits));refine aa (m:=firstArgMember _ _) (mN (a:=dO) (by first|rfl|(simp only[firstArgMember];rfl)) ?_);refine bG ?_ (by size_fits);simp only[raiseNew];refine aa (pJ ?_);rw[show A.in1.handled=none from Y];refine aa (ae (sU ?_));refine aa (i7 (T:="StopIteration") (b:=true) ⟨_,ax _ rfl,rfl⟩ oV (ae ?_));rw[es'];exact U _ fun b o v e=>ag _ (ag _ (hk b o v e))
 have J:∀{P:Fin->aq->Prop},wpAny (model prog w) A.in1 (do setField (.ref it) 2 dO;let __do_lift <- newExc (a8 "StopIteration") [];raiseNew __do_lift) P (fun e s'=>wpAny (model prog w) A (do let __do_lift <- isInstance e (a8 "StopIteration");if __do_lift=true then pure none else throw e) Q E s') s:=fun {P}=>by refine aa (eY L hd (by simp) ?_);exact fin rfl (fun b o v e=>by rw[bz _ _ (dW v)];exact e) rfl
 cases z with
 | txt v =>
  dsimp only;refine aa ?_;unfold setNext setsByText;refine aa (dE G C hf (aa (aa (cn (ae ?_)))));dsimp only;rw[show(model prog w).w.params.followText "set-order" = true from v,if_pos rfl];rw[if_neg (by simp)];unfold setWalk setsByText;refine aa (aa (dE G C hf (aa (aa (cn (ae ?_))))));dsimp only;rw[show(model prog w).w.params.followText "set-order" = true from v,if_pos rfl];refine aa (cn (ae (ae ?_)));have sz:(pickOrder (w.params.setOrder a ep) es).size=es.size:=by have:=(zdA (nx:=w.params.setOrder a ep) es).length_eq;simpa using this
  have e1:(pickOrder (w.params.setOrder a ep) es)[((es.size:Nat):Int).toNat]?=none:=by rw[bQ];exact gC (by omega)
  rw[show(pickOrder ((mh (model prog w).prog (model prog w).w.params).params.setOrder a ep) es)[((es.size:Nat):Int).toNat]?=none from e1];exact J
 | pla v R S r =>
  dsimp only;refine aa ?_;unfold setNext setsByText;refine aa (dE G C hf (aa (aa (cn (ae ?_)))));dsimp only;rw[show(model prog w).w.params.followText "set-order" = false from v,if_neg (by decide)];refine fE (fun z=>absurd (show(!t.plain&&decide (es.size > 1))=true from z) (by rw[R];decide)) (fun _=>?_);refine aa ?_;show wpAny _ _ (if (!t.led&&!es.isEmpty)=true then unsupported "set:maker-not-led" else pure ()) _ _ _;rw[S,if_neg (by simp)];refine ae (ae ?_);have sp:t.place.size=es.size:=by simp only[vC,cc,beq_iff_eq]at hf;exact hf.1
  have Z:(if es.size=0 then(0:Int) else((t.place.getD (es.size - 1) 0+1:Nat):Int)).toNat=if es.size=0 then 0 else t.place.getD (es.size - 1) 0+1:=by split <;> rfl
  rw[Z,zey r (by omega),gC (by omega)];exact J
 | @drw p ps op np hop hdp pm =>dsimp only;unfold seqItems?;refine aa (aa (lF hop ?_));rw[hdp];refine ae ?_;dsimp only;rw[oA,bQ,ck (by rw[aR,pm.length_eq,gO];exact aD _)];dsimp only;refine aa (eY L hd (by simp) ?_);have h1:=bO (mY (·.setIfInBounds 0 (rawInt (0:Int)))) L (fw (cR hd _));have d1:=cR hd (·.setIfInBounds 0 (rawInt (0:Int)));refine aa (eY h1 d1 (by simp) ?_);exact fin rfl (fun b o v e=>by rw[bz _ _ (dW v),bz _ _ (dW v)];exact e) rfl
end
section
variable{prog:aJ}{w:a7}{A:aX}{E:qV}{s:aq}
theorem zlS{r:aj}{Q:Bool->aq->Prop}(l:s.TypeIs (.ref r) "set") (h:Q false s):wpAny (model prog w) A (lB (.ref r)) Q E s:=by
 unfold lB;refine aa (tG l PySem.F.slot_set_len.lookup ?_);generalize hid:("set.__len__":String)=id0
 wp_delta;rw[show splitId id0=some ("set","__len__") from by subst hid;decide +kernel]
 subst hid;refine aa (i7 (T:="set") (b:=true) l (by rw[o5];kernel_rfl) (fE (fun z=>absurd z (by decide)) (fun _=>fE (fun _=>?_) (fun z=>absurd (by decide +kernel) z))));exact aa (dY l (ae h))
theorem zjl(N:A.handled=none){it a:aj}{es:Array (Int×af)}{ep:Nat}{t:eC}{f:Nat->af}{vs:List af}{qs:List aj}(na:it≠a)(R:it∉qs)(S:vs.length=es.size) :
  Walks prog w A it (it::a::qs) [it] es.size (fun i v=>vs[i]?=some v) (fun i h=>SIt h it (f i) i a es.size ep/\SAt h a es ep t/\Orr w h a es ep t f vs qs) where
 sub:=by simp
 frame:=fun i h h' ⟨⟨o,e,r⟩,⟨u,C,I⟩,z⟩ k=>⟨⟨o,k it (by simp) o e,r⟩,⟨u,k a (by simp) u C,I⟩,z.keep fun b l o e=>k b (by simp[l]) o e⟩
 item:=fun i s Q E hi ⟨x,y,z⟩ G=>by obtain⟨v,J⟩:∃v,vs[i]?=some v:=⟨_,av (by omega)⟩;refine zlN x y z J fun h' L k=>G v h' s.toks J ⟨L,?_,z.keep fun b l o e=>k b o (fun q=>R (q▸l)) e⟩ fun b o l e=>k b o (by simpa using l) e;obtain⟨u,C,I⟩:=y;exact⟨u,k a u (dW na) C,I⟩
 done:=fun s Q E ⟨x,y,z⟩ G=>zlO N x y z fun h' k=>G h' s.toks fun b o l e=>k b o (by simpa using l) e
 self:=fun i s Q E ⟨x,_⟩ h=>by refine mP (QP x) zci (bK zci (QP x) zd8 ?_ (ze8 _));exact aa (ae (ae ⟨_,rfl,_,_,QP x,UC.lookup,h⟩))
theorem zlQ{a:aj}{ns:List Int}{Q:qV}(S:SetI w s.heap a ns)
  (h:∀it h' d es ep t f vs qs,(∃ms,ms.Perm ns/\bR elI ms es.toList)->(∀b o,s.heap.get? b=some o->h'.get? b=some o)->s.heap.objs.size<=it->(∀q∈qs,s.heap.objs.size<=q/\q≠it)->SIt h' it (f 0) 0 a es.size ep->SAt h' a es ep t->Orr w h' a es ep t f vs qs->Q (.ref it) { s with heap:=h',drawn:=d }):wpAny (model prog w) A (pyIter (.ref a)) Q E s:=by
 have ty:=zdp S;obtain⟨o,C,es,ep,t,hex,hd,pp,nd,L,hf,rs,ld⟩:=S;refine mP ty tI (bK tI ty zd9 ?_ (F.args_set_iter_1 _));unfold dh.«frozenset.__iter__»;refine aa (ae ?_);unfold vD;refine aa (aa (kU C hd hf (ae ?_)));unfold setDrawn setsByText;refine aa (aa (dE C hd hf (aa (aa (cn (ae (ae ?_)))))));have fin:∀(s1:aq) (f:Nat->af) (vs:List af) (qs:List aj) (P:Fin->aq->Prop),(∀b o,s.heap.get? b=some o->s1.heap.get? b=some o)->s.heap.objs.size<=s1.heap.objs.size->(∀q∈qs,s.heap.objs.size<=q/\q<s1.heap.objs.size)->Orr w s1.heap a es ep t f vs qs ->
   (∀h',SIt h' s1.heap.objs.size (f 0) 0 a es.size ep->(∀b o,s1.heap.get? b=some o->h'.get? b=some o)->P (.done (.ret (.ref s1.heap.objs.size))) { s1 with heap:=h' })->wpAny (model prog w) A.in1 (do let e <- setEpoch a;let r <- newFields "set_iterator" [f 0,rawInt 0,aO a,rawInt ↑es.size,rawInt ↑e];ret r) P E s1:=fun s1 f vs qs P k sz u z N=>by
  refine aa (wpAny_setEpoch_of (k a o C) hd hf ?_);refine aa (bG (ae (N _ ⟨_,ax _ rfl,rfl,?_⟩ fun b o e=>ag _ e)) (by size_fits));simp[rawInt]
 have tail:∀{s1:aq} {d} {f:Nat->af} {vs:List af} {qs:List aj},s1={ s with heap:=s1.heap,drawn:=d }->(∀b o,s.heap.get? b=some o->s1.heap.get? b=some o)->s.heap.objs.size<=s1.heap.objs.size->(∀q∈qs,s.heap.objs.size<=q/\q<s1.heap.objs.size)->Orr w s1.heap a es ep t f vs qs ->
   wpAny (model prog w) A.in1 (do let e <- setEpoch a;let r <- newFields "set_iterator" [f 0,rawInt 0,aO a,rawInt ↑es.size,rawInt ↑e];ret r) (fun fin s'=>∃v,fin=Fin.done (Flow.ret v)/\∃J r,s'.TypeIs v J/\typeLookup (a8 J) (aM "__next__")=pure (some r)/\Q v s') E s1:=fun {s1 d f vs qs} e1 k sz u z=>by
  refine fin s1 f vs qs _ k sz u z fun h' I G=>⟨_,rfl,_,_,?_,UC.lookup,?_⟩;exact QP (s:={ s1 with heap:=h' }) I;rw[e1];exact h _ h' d es ep t f vs qs pp (fun b o e=>G b o (k b o e)) sz (fun q y=>⟨(u q y).1,aA (u q y).2⟩) I ⟨o,G a o (k a o C),hd,hf⟩ (z.keep fun b L o e=>G b o e)
 cases hb2:w.params.followText "set-order" with
 | true =>rw[show(!(mh (model prog w).prog (model prog w).w.params).params.followText "set-order")=false by rw[show(mh (model prog w).prog (model prog w).w.params).params.followText "set-order" = true from hb2];rfl,lG,if_neg (by decide)];refine aa (ae ?_);exact tail (s1:=s) (d:=s.drawn) (f:=fun _=>.int 0 0) rfl (fun _ _ e=>e) (aD _) (fun q u=>absurd u (by simp)) (.txt hb2) (qs:=[])
 | false =>rw[show(!(mh (model prog w).prog (model prog w).w.params).params.followText "set-order")=true by rw[show(mh (model prog w).prog (model prog w).w.params).params.followText "set-order" = false from hb2];rfl,mS];refine fE (fun z=>?_) (fun z=>?_);refine aa (zeq _ _ _ _ (gO ..) fun ys d pm=>?_);refine aa (bG ?_ (by show _<=sizeLine;simp[pm.length_eq];exact iW L));refine tail (d:=d) (f:=fun _=>.ref s.heap.objs.size) (qs:=[s.heap.objs.size]) rfl (fun b o e=>ag _ e) (by show _<=(s.heap.push _).objs.size;rw[cZ];exact fK _) (fun q u=>?_) (.drw (ps:=ys) (ax _ rfl) rfl pm);rw[aF]at u;subst u;exact⟨aD _,by show _<(s.heap.push _).objs.size;rw[cZ];exact m9 _⟩;refine aa (ae ?_);exact tail (s1:=s) (d:=s.drawn) (f:=fun i=>.int (if i=0 then 0 else(t.place.getD (i - 1) 0+1:Nat)) 0) rfl (fun _ _ e=>e) (aD _) (fun q u=>absurd u (by simp)) (qs:=[]) (.pla hb2 (by simpa using(show ¬(!t.plain&&decide (es.size > 1))=true from z)) (ld hb2) rs)
theorem zlR(hA:A.handled=none){a S:aj}{ns:List Int}{R:kD->aq->Prop}(L:SetI w s.heap a ns)(na:S≠a)(hS:s.heap.get? S=some ⟨.type "list",none,.seq #[] 0,#[]⟩)
  (h:∀h' tk d acc c,(∀b o,b≠S->s.heap.get? b=some o->h'.get? b=some o)->h'.get? S=some ⟨.type "list",none,.seq acc c,#[]⟩->(∃ms,ms.Perm ns/\bR (fun(i:Int) (v:af)=>∃t,v=.int i t) ms acc.toList)->R (.ok (.ret (.ref S))) { s with heap:=h',toks:=tk,drawn:=d }) :
  codeAny (model prog w) A (.builtin "list.__iadd__" ⟨[.ref S,.ref a],[]⟩) R s:=by
 have lS:S<s.heap.objs.size:=aw hS;have ty:=zdp L;refine dJ nu ?_;show wpAny (model prog w) _ (cX (.ref S) (.ref a) (.ref S)) _ _ s;rw[gU nC _];unfold cX;refine aa (dY (T:="set") ty ?_);have c1:fV (.ref S) (.ref a)=false:=by simp[fV,na]
 have c2:(a8 "set" == a8 "list" ||a8 "set" == a8 "tuple")=false:=by decide
 rw[c1,pN,c2,if_neg (by decide)];refine aa (zlQ L fun it h1 d es ep t f vs qs pp k1 lit J x y z=>?_);obtain⟨oa,ea,_⟩:=id L;have la:=aw ea;have nSI:S≠it:=aA (aB lS lit);have nf:S∉it::a::qs:=by simp only[au,not_or];exact⟨nSI,na,fun Y=>absurd (J S Y).1 (Aa.mpr lS)⟩
 have W:=zjl (prog:=prog) (w:=w) (A:=A.in1) hA (it:=it) (a:=a) (es:=es) (ep:=ep) (t:=t) (f:=f) (vs:=vs) (qs:=qs) (dW (aA (aB la lit))) (fun Y=>(J it Y).2 rfl) z.len;have sz:es.size<=sizeLine:=by obtain⟨o',e',es',_,_,_,hd',⟨ms',pm',pr'⟩,_,hb',_⟩:=L;obtain⟨ms,pm,pr⟩:=pp;have l1:=ZH pr;have l2:=ZH pr';rw[pm.length_eq]at l1;rw[pm'.length_eq]at l2;exact iW (by simp at l1 l2;omega)
 have key:∀(G:aW) (c tk:Nat),(∀b o,b≠S->h1.get? b=some o->G.get? b=some o)->G.get? S=some ⟨.type "list",none,.seq #[] c,#[]⟩->codeAny (model prog w) A (.builtin "list.extend.loop" ⟨[.ref S,.ref it,.ref S],[]⟩) R { s with heap:=G,toks:=tk,drawn:=d }:=fun G c tk k2 hS2=>by
  have st:=W.frame 0 h1 G ⟨x,y,z⟩ fun b C o e=>k2 b o (fun q=>nf (q▸C)) e;refine codeAny_extend_loopS W.toS sz S nf (.ref S) es.size 0 _ #[] c rfl (cw _) st hS2 (ItemsOf.nil _) fun s' acc c' hm U LC=>?_;rw[Moved.eq_with hm];refine h _ _ _ acc c' (fun b o C e=>hm.heap b o (fun I=>?_) (k2 b o C (k1 b o e))) U ?_;rcases au.mp I with q|q;exact C q;rw[aF]at q;rw[q]at e;exact absurd (aw e) (ua.mpr lit);obtain⟨ha,C⟩:=LC;have ev:acc.toList=vs:=by refine mK fun i=>?_;rcases cx i acc.size with q|q;rw[bP,aT q];exact(C i _ (aT q)).symm;rw[ck (by simpa using q),ck (by rw[z.len];omega)]
  rw[ev];obtain⟨ms,pm,pr⟩:=pp;have N:bR (fun(i:Int) (v:af)=>∃t,v=.int i t) ms (es.toList.map (·.2)):=by
   clear pm;generalize es.toList=el at pr;induction pr with
   | nil=>exact .nil
   | cons r _ ih=>exact .cons r.2 ih
  obtain⟨ms2,p2,q2⟩:=zdB z.perm.symm N;exact⟨ms2,p2.trans pm,q2⟩
 have Z:=k1 S _ hS;refine aa (bU (zlS (let ⟨o,e,c⟩:=ty;⟨o,k1 a o e,c⟩) ?_));refine fE (fun _=>aa (b7 (aa ?_))) (fun _=>ae ⟨kf cK _,key h1 0 _ (fun b o _ e=>e) Z⟩);show wpAny _ _ (updateSeq S (·.push .none) >>= fun _=>updateSeq S (·.pop)) _ _ _;refine aa (ig Z rfl ?_);have S2:=bO (bS (·.push dO)) Z rfl;refine ig (hz:=by seq_fits) S2 rfl ?_;have S3:=bO (bS (·.pop)) S2 rfl;refine ae ⟨kf cK _,key _ _ _ (fun b o nb e=>?_) S3⟩;rw[bz _ _ (dW nb),bz _ _ (dW nb)];exact e
theorem zgt(I:A.handled=none){a:aj}{ns:List Int}{Q:List af->aq->Prop}(G:SetI w s.heap a ns)
  (h:∀h' tk d vs,(∀b o,s.heap.get? b=some o->h'.get? b=some o)->s.heap.objs.size<=h'.objs.size->(∃ms,ms.Perm ns/\bR (fun(i:Int) (v:af)=>∃t,v=.int i t) ms vs)->Q vs { s with heap:=h',toks:=tk,drawn:=d }):wpAny (model prog w) A (collect (.ref a)) Q E s:=by
 unfold collect;refine aa (oP (dJ km ?_));show wpAny (model prog w) _ (newList [] >>= fun x=>again (.builtin "list.__iadd__" ⟨[x,.ref a],[]⟩)) _ _ s;obtain⟨L,y,N⟩:=id G;have J:=aw y;refine aa (ff (ae ⟨gz _ (by decide +kernel),?_⟩));refine zlR I (ns:=ns) ⟨L,ag _ y,N⟩ (cW J) (ax _ rfl) fun h' tk d acc c kp C pp=>?_;refine aa (m:=load s.heap.objs.size) (lF C ?_);exact ae (h h' tk d _ (fun b o e=>kp b o (aA (aw e)) (ag _ e)) (fc (aw C)) pp)
end
end L2
namespace L2
open PySem PySem.Spec PyProof.Rows
section
variable{prog:aJ}{w:a7}{A:aX}{R:kD->aq->Prop}{s:aq}{elt tg1 it1 tg2 it2:bg}{KU KS:List bg}{scope:e8}{pos:Pos}{it acc:af}{env:Env}
theorem ze2(it acc:af)(env:Env):compTurn (.SetComp elt [⟨tg1,it1,KU,0⟩,⟨tg2,it2,KS,0⟩] scope pos) 0 it acc env=(do
      standAt it1.pos
      match <- pyNext it with
      | none=>pure (.done .next)
      | some v =>
       letOwnedTupleGo tg1 it v
       assign tg1 env v
       let mut ok:=true
       for c in KU do
        if ok then ok <- isTrue c env (eval c env)
       if ok then
        let x <- eval it2 env
        standAt it2.pos
        let x <- foldedSetIterable it2 env x;let _ <- runOwn (.compStart (.SetComp elt [⟨tg1,it1,KU,0⟩,⟨tg2,it2,KS,0⟩] scope pos) 1 (<- holding [x] (pyIter x)) acc env) env
       again (.compLoop (.SetComp elt [⟨tg1,it1,KU,0⟩,⟨tg2,it2,KS,0⟩] scope pos) 0 it acc env)):=by rfl
theorem zga(it acc:af)(env:Env):compTurn (.SetComp elt [⟨tg1,it1,KU,0⟩,⟨tg2,it2,KS,0⟩] scope pos) 1 it acc env=(do
      standAt it2.pos
      match <- pyNext it with
      | none=>pure (.done .next)
      | some v =>
       letOwnedTupleGo tg2 it v
       assign tg2 env v
       let mut ok:=true
       for c in KS do
        if ok then ok <- isTrue c env (eval c env)
       if ok then
        (do let v <- eval elt env;standAt elt.pos;let _ <- call (.builtin "set.add") [acc,v])
       again (.compLoop (.SetComp elt [⟨tg1,it1,KU,0⟩,⟨tg2,it2,KS,0⟩] scope pos) 1 it acc env)):=by rfl
theorem zjw(I:Nat->aq->Prop)
  (turn:∀n s,I n s->wpAny (model prog w) A (pyNext it) (fun r G=>match r with
   | none=>R (.ok .next) G
   | some v=>wpAny (model prog w) A (letOwnedTupleGo tg2 it v) (fun _ Y=>wpAny (model prog w) A (assign tg2 env v) (fun _ U =>
     wpAny (model prog w) A (forIn KS true fun c r=>if r=true then do let ok <- isTrue c env (eval c env);pure (bT ok) else pure (bT r)) (fun ok y =>
      if ok=true then wpAny (model prog w) A (eval elt env) (fun x s₅=>wpAny (model prog w) A (call (.builtin "set.add") [acc,x]) (fun _ Z=>∃m,m<n/\I m Z) NoX s₅) NoX y
      else ∃m,m<n/\I m y) NoX U) NoX Y) NoX G) NoX s) (n:Nat) (h:I n s) :
  codeAny (model prog w) A (.compLoop (.SetComp elt [⟨tg1,it1,KU,0⟩,⟨tg2,it2,KS,0⟩] scope pos) 1 it acc env) R s:=by
 refine k6 rfl I (fun n s hI=>?_) n h;show wpAny _ A ((compTurn (.SetComp elt [⟨tg1,it1,KU,0⟩,⟨tg2,it2,KS,0⟩] scope pos) 1 it acc env).onRaise (fun x=>do noteFrame x env;theTreesLotGoes x)) _ _ s;refine mH (cA (E:=NoX) ?_ (fun _ _ q=>q) fun _ _ z=>cF z);rw[zga];refine aa (b9 (aa (thn (turn n s hI) fun r G J=>?_)));cases r with
 | none=>exact ae J
 | some v =>
  refine aa (thn J fun _ Y h₂=>aa (thn h₂ fun _ U h₃=>aa (thn h₃ fun ok y N=>?_)));cases ok with
  | false=>exact ae ⟨rfl,N⟩
  | true =>refine aa (aa (thn N fun x s₅ h₅=>aa (b9 (aa (thn h₅ fun _ Z h₆=>?_)))));exact ae (ae ⟨rfl,h₆⟩)
theorem zik(hs:∀x,foldedSetIterable it2 env x=pure x)(I:Nat->aq->Prop)
  (turn:∀n s,I n s->wpAny (model prog w) A (pyNext it) (fun r u=>match r with
   | none=>R (.ok .next) u
   | some v=>wpAny (model prog w) A (letOwnedTupleGo tg1 it v) (fun _ U=>wpAny (model prog w) A (assign tg1 env v) (fun _ J =>
     wpAny (model prog w) A (forIn KU true fun c r=>if r=true then do let ok <- isTrue c env (eval c env);pure (bT ok) else pure (bT r)) (fun ok l =>
      if ok=true then wpAny (model prog w) A (eval it2 env) (fun x Z=>wpAny (model prog w) A (pyIter x) (fun itv Y =>
       codeAny (model prog w) A (.compStart (.SetComp elt [⟨tg1,it1,KU,0⟩,⟨tg2,it2,KS,0⟩] scope pos) 1 itv acc env) (fun r N=>r=.ok .next/\∃m,m<n/\I m N) Y) NoX Z) NoX l
      else ∃m,m<n/\I m l) NoX J) NoX U) NoX u) NoX s) (n:Nat) (h:I n s) :
  codeAny (model prog w) A (.compLoop (.SetComp elt [⟨tg1,it1,KU,0⟩,⟨tg2,it2,KS,0⟩] scope pos) 0 it acc env) R s:=by
 refine k6 rfl I (fun n s hI=>?_) n h;show wpAny _ A ((compTurn (.SetComp elt [⟨tg1,it1,KU,0⟩,⟨tg2,it2,KS,0⟩] scope pos) 0 it acc env).onRaise (fun x=>do noteFrame x env;theTreesLotGoes x)) _ _ s;refine mH (cA (E:=NoX) ?_ (fun _ _ q=>q) fun _ _ z=>cF z);rw[ze2];refine aa (b9 (aa (thn (turn n s hI) fun r u y=>?_)));cases r with
 | none=>exact ae y
 | some v =>
  refine aa (thn y fun _ U h₂=>aa (thn h₂ fun _ J h₃=>aa (thn h₃ fun ok l G=>?_)));cases ok with
  | false=>exact ae ⟨rfl,G⟩
  | true =>refine aa (thn G fun x Z h₅=>aa (b9 (aa (mN (hs x) (aa (bU (thn h₅ fun itv Y h₆=>?_)))))));refine aa (wpAny_runOwn (iG h₆ fun r N h₇=>?_));obtain⟨rfl,m,hm,hI'⟩:=h₇;exact ae ⟨rfl,m,hm,hI'⟩
theorem zjz
  (h0:codeAny (model prog w) A (.compLoop (.SetComp elt [⟨tg1,it1,KU,0⟩,⟨tg2,it2,KS,0⟩] scope pos) 1 it acc env) R s)
  (h:wpAny (model prog w) A (pyIter it) (fun l s'=>codeAny (model prog w) A (.compLoop (.SetComp elt [⟨tg1,it1,KU,0⟩,⟨tg2,it2,KS,0⟩] scope pos) 1 l acc env) R s')
   (notedBy (model prog w) A env fun x s'=>R (.error x) s') s) :
  codeAny (model prog w) A (.compStart (.SetComp elt [⟨tg1,it1,KU,0⟩,⟨tg2,it2,KS,0⟩] scope pos) 1 it acc env) R s:=by
 refine og ?_;show wpAny _ _ ((compStart (.SetComp elt [⟨tg1,it1,KU,0⟩,⟨tg2,it2,KS,0⟩] scope pos) 1 it acc env).onRaise (fun x=>do noteFrame x env;standAt theWindowsPlace)) _ _ s;refine pK ?_;unfold compStart;show wpAny _ _ (vO >>= _) _ _ s;refine aa (cn (vP ?_));split;first
  | exact aa (ae (ae (fD rfl h0)))
  | exact ae (fD rfl h0)
 first
  | exact aa (b7 (aa (b9 (aa (cA h (fun l s' h'=>ae (fD rfl h')) fun _ _ x=>x)))))
  | (refine aa (b7 ?_);show wpAny _ _ (standAt it2.pos >>= _) _ _ s;exact aa (b9 (aa (cA h (fun l s' h'=>ae (fD rfl h')) fun _ _ x=>x))))
theorem zio
  (h0:codeAny (model prog w) A (.compLoop (.SetComp elt [⟨tg1,it1,KU,0⟩,⟨tg2,it2,KS,0⟩] scope pos) 0 it acc env) R s)
  (h:wpAny (model prog w) A (pyIter it) (fun l s'=>codeAny (model prog w) A (.compLoop (.SetComp elt [⟨tg1,it1,KU,0⟩,⟨tg2,it2,KS,0⟩] scope pos) 0 l acc env) R s')
   (notedBy (model prog w) A env fun x s'=>R (.error x) s') s) :
  codeAny (model prog w) A (.compStart (.SetComp elt [⟨tg1,it1,KU,0⟩,⟨tg2,it2,KS,0⟩] scope pos) 0 it acc env) R s:=by
 refine og ?_;show wpAny _ _ ((compStart (.SetComp elt [⟨tg1,it1,KU,0⟩,⟨tg2,it2,KS,0⟩] scope pos) 0 it acc env).onRaise (fun x=>do noteFrame x env;standAt theWindowsPlace)) _ _ s;refine pK ?_;unfold compStart;show wpAny _ _ (vO >>= _) _ _ s;refine aa (cn (vP ?_));split;first
  | exact aa (ae (ae (fD rfl h0)))
  | exact ae (fD rfl h0)
 first
  | exact aa (b7 (aa (b9 (aa (cA h (fun l s' h'=>ae (fD rfl h')) fun _ _ x=>x)))))
  | (refine aa (b7 ?_);show wpAny _ _ (standAt it1.pos >>= _) _ _ s;exact aa (b9 (aa (cA h (fun l s' h'=>ae (fD rfl h')) fun _ _ x=>x))))
end
theorem zjG{w:a7}{o:Obj}{ns:List Int}(h:SetO w o ns):o.isFreed=false:=by obtain⟨es,ep,t,hex,hd,_⟩:=h;cases o;cases hd;rfl
def SDO(w:a7)(a:aj)(ns:List Int):HO:=.ext fun h=>SetI w h a ns
theorem sdo_ok{P:aJ}{w:a7}{H:Hp}{h:aW}{a:aj}{ns:List Int}(x:SetI w h a ns):Jx P w H h a (SDO w a ns):=by refine⟨x,let ⟨o,e,_⟩:=x;⟨o,e⟩,fun h1 l z k=>?_⟩;obtain⟨o,e,r⟩:=z;exact⟨o,k o e,r⟩
theorem Inv.setI{X:Cx}{pins:qO}{σ:St}{H:Hp}{s:aq}{a:aj}{ns:List Int}(I:Inv X pins σ H s)(h:H a=some (SDO X.w a ns)):SetI X.w s.heap a ns:=(I.hok a _ h).1
theorem Inv.drw{X:Cx}{pins:qO}{σ:St}{H:Hp}{s:aq}(I:Inv X pins σ H s)(d:_):Inv X pins σ H { s with drawn:=d }:=⟨I.ok,I.os,I.bare,I.base,I.loc,I.cell,I.free,I.freeC,I.pin,I.hok,I.len⟩
theorem zlV{X:Cx}{pins:qO}{σ:St}{H:Hp}{s:aq}{a:aj}{ns:List Int}{j:Int}{u:af}{A:aX}{E:qV}{Q:qV}(I:Inv X pins σ H s)(h:H a=some (SDO X.w a ns))(x:RelV (.int j) u)(room:ns.length+1<scanBound)
  (C:∀s',Inv X pins σ (upd H a (SDO X.w a (adI ns j))) s'->Q .none s'):wpAny (model X.prog X.w) A (call (.builtin "set.add") [.ref a,u]) Q E s:=by
 obtain⟨tk,rfl⟩:=x;refine zgZ (I.setI h) room fun h' y G v=>C _ ?_;exact zlf I (by rw[h];exact ip) G (let ⟨o,e,_⟩:=v;⟨o,e⟩) (sdo_ok v)
def Yb(w:a7)(g:TG)(tt:TT)(R:TE)(σ:St)(J:It)(S:Hp)(D:aj)(Q:Hp->Prop):Prop:=∃W:Nat->Nat->Hp->Prop,(∃m,W 0 m S)/\∀i m u,W i m u ->
 (J.stop i u/\Q u)\/(J.go i u/\∃(N:V->Hp->Prop) (I:Hp->Prop),(∀v C,N v C->∃ns j,v=.int j/\C D=some (SDO w D ns)/\ns.length+1<scanBound/\∃o,o<m/\W (i+1) o (upd C D (SDO w D (adI ns j))))/\(∀y,I y->∃o,o<m/\W (i+1) o y) /\
  ∀x G,J.yld i u x G->g x σ G fun l L=>Wk σ l/\tt l L fun b y=>if b=true then R l y N else I y)
section
variable{Y:Cx}{elt tg1 it1 tg2 it2:bg}{KU KS:List bg}{scope:e8}{pos:Pos}{g:TG}{tt:TT}{te:TE}
theorem ziU(G:Y.xe=NoX)(hc:Y.calm=true)(hg:PG Y tg2 g)(ht:PTs Y KS tt)(he:PE Y elt te){pins:qO}{σ:St}{D:aj}{u:af}{s:aq}{Q:Hp->Prop}{R:kD->aq->Prop}
  (h:PIE Y pins σ tg2 (fun J H1=>Yb Y.w g tt te σ J H1 D Q) u s) (hR:∀s' H',Inv Y pins σ H' s'->Q H'->R (.ok .next) s') :
  codeAny (model Y.prog Y.w) Y.A (.compStart (.SetComp elt [⟨tg1,it1,KU,0⟩,⟨tg2,it2,KS,0⟩] scope pos) 1 u (.ref D) Y.env) R s:=by
 obtain⟨it,fp,tn,J,H2,e,I2,T,I,f2,W,⟨m0,w0⟩,turn⟩:=h;subst e;have loop:codeAny (model Y.prog Y.w) Y.A (.compLoop (.SetComp elt [⟨tg1,it1,KU,0⟩,⟨tg2,it2,KS,0⟩] scope pos) 1 (.ref it) (.ref D) Y.env) R s:=by
  refine zjw (CompI Y pins σ fp tn W) ?_ m0 ⟨0,_,I2,I,fun b U=>(f2 b U).1,w0⟩;rintro n s4 ⟨i,H4,I4,st4,fr4,w4⟩;refine Yg G hc hg ht T (fun hn b U=>⟨hn b U,(f2 b U).2⟩) I4 st4 fr4 ?_;rcases turn i n H4 w4 with⟨stop,qn⟩|⟨go,N,N',hN,hN',step⟩
  ·exact .inl ⟨stop,fun s5 I5=>hR _ _ I5 qn⟩
  refine .inr ⟨go,fun Z H5=>te Z H5 N,N',fun {p6 σ7 H8 s8} I8 q8 again=>?_,hN',step⟩;have a3:=he _ s8 σ7 H8 N I8 q8;rw[G]at a3;refine thn a3 fun y s9 ⟨v,H9,I9,r9,q9⟩=>?_;obtain⟨ns,j,rfl,hD,hl,m',hm,w9⟩:=hN v H9 q9;exact zlV (X:=Y) I9 hD r9 hl fun s10 I10=>again I10 hm w9
 exact zjz loop (T.self Y.A 0 _ _ _ I loop)
end
def zg7(w:a7)(own:List Str)(capt:List Nat)(g:TG)(tt:TT)(C:TI)(g2:TG)(G:TT)(U:TE)(σ:St)(J:It)(Y:Hp)(D:aj)(Q:VK):Prop:=∃W:Nat->Nat->Hp->Prop,(∃m,W 0 m (upd Y D (SDO w D [])))/\∀i m u,W i m u ->
 (J.stop i u/\Q (.ref D) u)\/(J.go i u/\∃(N L:Hp->Prop),(∀y,N y->∃o,o<m/\W (i+1) o y)/\(∀v,L v->∃o,o<m/\W (i+1) o v) /\
  ∀x I,J.yld i u x I->g x (Ji own++capS capt σ) I fun l R=>Wk (Ji own++capS capt σ) l/\tt l R fun b v=>if b=true then C l v (fun S y=>Yb w g2 G U l S y D N) else L v)
def znI(w:a7)(own:List Str)(capt:List Nat)(v:TI)(g:TG)(tt:TT)(l:TI)(g2:TG)(o:TT)(x:TE):TE:=fun σ H Q=>v σ H fun J u=>∀D,u D=none->zg7 w own capt g tt l g2 o x σ J u D Q
section
variable{X:Cx}{scope:e8}{own:List Str}{capt:List Nat}{elt tg iter tg2 it2:bg}{ifs KS:List bg}{pos:Pos}{wi wi2:TI}{g g2:TG}{tt tt2:TT}{te:TE}
theorem zi2(hc:X.calm=true)(S:JC scope own capt X)
  (hg:∀C s₀ H₀ G,PG (Ja X scope own capt C s₀ H₀ G) tg g) (ht:∀C s₀ H₀ G,PTs (Ja X scope own capt C s₀ H₀ G) ifs tt) (hi2:∀C s₀ H₀ G,PI (Ja X scope own capt C s₀ H₀ G) tg2 it2 wi2)
  (hg2:∀C s₀ H₀ G,PG (Ja X scope own capt C s₀ H₀ G) tg2 g2) (ht2:∀C s₀ H₀ G,PTs (Ja X scope own capt C s₀ H₀ G) KS tt2) (he:∀C s₀ H₀ G,PE (Ja X scope own capt C s₀ H₀ G) elt te)
  (hs2:∀(C:aj) (x:af),foldedSetIterable it2 (compEnvC scope (closed X.env scope.names []) C X.env) x=pure x)
  {pins:qO} {σ:St} {Q:VK} {itv:af} {s2:aq} {E:qV} {RR:af->aj->kD->aq->Prop}
  (h2:PIE X pins σ tg (fun J H1=>∀D,H1 D=none->zg7 X.w own capt g tt wi2 g2 tt2 te σ J H1 D Q) itv s2)
  (hR:∀D C s' H',(∃m,s'.heap.Ns C m)->(∀h'',cN C s'.heap h''->Inv X pins σ H' { s' with heap:=h'' })->H' C=none->FpOk X pins H' C->Q (.ref D) H'->RR (.ref D) C (.ok .next) s') :
  wpAny (model X.prog X.w) X.A (newSet (.type "set")) (fun acc s₃=>wpAny (model X.prog X.w) X.A (newFunctionEnv scope X.env.globals (closed X.env scope.names []) [] X.env.qual none .none (some X.env)) (fun R s₄ =>
   codeAny (model X.prog X.w) X.A (.compStart (.SetComp elt [⟨tg,iter,ifs,0⟩,⟨tg2,it2,KS,0⟩] scope pos) 0 itv acc { R with scope:=relabel scope X.env }) (RR acc R.locals) s₄) E s₃) E s2:=by
 obtain⟨it,G,tn,J,U,e,I2,T,st2,f2,rd⟩:=h2;subst e;have Z:∀b∈G,b<s2.heap.objs.size:=fun b hb=>by obtain⟨o,e,_⟩:=T.obj 0 _ st2 b hb;exact aw e
 refine zov fun ob sob=>oG S.nocell (by intro y hy;simp at hy) (fun I v u=>?_) S.kind;dsimp only at v u ⊢;have hg0:(s2.heap.push ob).get? s2.heap.objs.size=some ob:=ax _ (zjG sob);generalize hH3:s2.heap.push ob=H3 at v u hg0 ⊢;have hC:H3.objs.size=s2.heap.objs.size+1:=by rw[<- hH3,cZ]
 have hDC:s2.heap.objs.size≠H3.objs.size:=by rw[hC];exact aA (m9 _)
 have Li:s2.heap.objs.size<=H3.objs.size:=by rw[hC];exact fK _
 have neC:∀b o,s2.heap.get? b=some o->b≠H3.objs.size:=fun b o e=>aA (aB (aw e) Li);have old:∀b o,s2.heap.get? b=some o->I.get? b=some o:=fun b o e=>u.extBut b o (neC b o e) (ag _ (hH3▸ag _ e));have hnD:U s2.heap.objs.size=none:=I2.hok.fresh (aD _);have LC:Jx X.prog X.w (upd U s2.heap.objs.size (SDO X.w s2.heap.objs.size [])) I s2.heap.objs.size (SDO X.w s2.heap.objs.size []):=sdo_ok ⟨ob,u.extBut _ _ hDC (ag _ hg0),sob⟩;obtain⟨W,⟨m0,w0⟩,turn⟩:=rd _ hnD;have J0:∀tk,Inv (Ja X scope own capt H3.objs.size s2 U G) [] (Ji own++capS capt σ) (upd U s2.heap.objs.size (SDO X.w s2.heap.objs.size [])) { s2 with heap:=I,toks:=tk }:=fun tk =>
  zf9 (tk:=tk) S I2 f2 Z (aD _) Li hDC old v LC
 have fr0:∀b∈G,upd U s2.heap.objs.size (SDO X.w s2.heap.objs.size []) b=none:=fun b hb=>by rw[Jc (aA (Z b hb))];exact(f2 b hb).1
 have st1:=T.keep _ _ _ st2 fun b hb o e=>old b o e;have loop:∀tk:Tok,codeAny (model X.prog X.w) X.A (.compLoop (.SetComp elt [⟨tg,iter,ifs,0⟩,⟨tg2,it2,KS,0⟩] scope pos) 0 (.ref it) (.ref s2.heap.objs.size) (compEnvC scope (closed X.env scope.names []) H3.objs.size X.env)) (RR (.ref s2.heap.objs.size) H3.objs.size) { s2 with heap:=I,toks:=tk }:=fun tk=>by
  refine zik (hs2 _) (CompI (Ja X scope own capt H3.objs.size s2 U G) [] (Ji own++capS capt σ) G tn W) ?_ m0 ⟨0,_,J0 tk,st1,fr0,w0⟩;rintro n s4 ⟨i,H4,I4,st4,fr4,w4⟩;refine Yg (Y:=Ja X scope own capt H3.objs.size s2 U G) rfl hc (hg _ _ _ _) (ht _ _ _ _) T (zf6 S I2 f2 Z Li) I4 st4 fr4 ?_;rcases turn i n H4 w4 with⟨stop,qn⟩|⟨go,N,N',hN,hN',step⟩
  ·refine .inl ⟨stop,fun s5 I5=>?_⟩;obtain⟨m,hn,_⟩:=I5.loc;exact hR _ _ s5 H4 ⟨m,hn⟩ (fun h'' sb=>zie I2 f2 Li I5 sb) I5.free (I2.fpOk Li I5.free) qn
  refine .inr ⟨go,fun σ4 H5=>wi2 σ4 H5 (fun J2 H6=>Yb X.w g2 tt2 te σ4 J2 H6 s2.heap.objs.size N),N',fun {p6 σ7 H8 s8} I8 q8 again=>?_,hN',step⟩;refine thn (hi2 _ _ _ _ _ s8 σ7 H8 _ I8 q8) fun y s9 h9=>thn h9 fun itv2 s10 h10=>?_;refine ziU (Y:=Ja X scope own capt H3.objs.size s2 U G) rfl hc (hg2 _ _ _ _) (ht2 _ _ _ _) (he _ _ _ _) h10 fun s' H' I' q'=>⟨rfl,?_⟩;obtain⟨m',hm,w9⟩:=hN H' q';exact again I' hm w9
 exact zio (loop _) (T.self X.A 0 _ _ _ st1 (loop _))
theorem ziz(hc:X.calm=true)(S:JC scope own capt X)(hi:PI X tg iter wi)
  (hg:∀C s₀ H₀ l,PG (Ja X scope own capt C s₀ H₀ l) tg g) (U:∀C s₀ H₀ l,PTs (Ja X scope own capt C s₀ H₀ l) ifs tt) (y:∀C s₀ H₀ l,PI (Ja X scope own capt C s₀ H₀ l) tg2 it2 wi2)
  (u:∀C s₀ H₀ l,PG (Ja X scope own capt C s₀ H₀ l) tg2 g2) (N:∀C s₀ H₀ l,PTs (Ja X scope own capt C s₀ H₀ l) KS tt2) (he:∀C s₀ H₀ l,PE (Ja X scope own capt C s₀ H₀ l) elt te)
  (Y:∀x,foldedSetIterable iter X.env x=pure x:=by intro _;rfl) (G:∀(C:aj) (x:af),foldedSetIterable it2 (compEnvC scope (closed X.env scope.names []) C X.env) x=pure x:=by intro _ _;rfl) :
  PE X (.SetComp elt [⟨tg,iter,ifs,0⟩,⟨tg2,it2,KS,0⟩] scope pos) (znI X.w own capt wi g tt wi2 g2 tt2 te):=by
 intro pins s σ H Q I h;rw[arm_eval_SetComp];refine fR (use:=none) rfl Y (ZV (S.cells I.ok)) S.kind S.names (thn (hi pins s σ H _ I h) fun v s1 h1=>thn h1 fun Z s2 h2=>?_);refine zi2 (RR:=fun acc C=>compPost (model X.prog X.w) X.A X.xe none (EP X pins σ Q) acc C) hc S hg U y u N he G h2 fun D C s' H' R J _ _ q=>?_;obtain⟨m,R⟩:=R;exact⟨m,R,fun L sb=>⟨.ref D,H',J L sb,rfl,q⟩⟩
end
section
variable{prog:aJ}{w:a7}{A:aX}{E:qV}{s:aq}{rk:aW->af->Int}
theorem zgs{x:af}{C:aW->Nat->List af->Prop}{Q:qV}(Y:∀(v:aX) (S:qV) (L:List af->aq->Prop),v.handled=A.handled->(∀h' tk d vs,C h' tk vs->L vs { s with heap:=h',toks:=tk,drawn:=d })->wpAny (model prog w) v (collect x) L S s)
  (J:∀h' tk vs,C h' tk vs->vs.length<100000)
  (U:∀h' tk d vs (v:aX),C h' tk vs->v.units<=A.units+16->Kinds prog w v { s with heap:=midH (h'.push (seqObj "list" vs.toArray 0)) h'.objs.size vs,toks:=tk,drawn:=d } (rk h') vs)
  (h:∀h' tk d vs G (y:bV) (e:Nat),C h' tk vs->(∀b o,h'.get? b=some o->G.get? b=some o)->(arrOf y).Perm (pairsOf vs)->Up (rk h') (arrOf y) vs.length->G.get? h'.objs.size=some (seqObj "list" ((arrOf y).map (·.2)) e)->Q (.ref h'.objs.size) { s with heap:=G,toks:=tk,drawn:=d }) :
  wpAny (model prog w) A (call (.builtin "sorted") [x]) Q E s:=by
 have Z:100000<=sizeLine:=by decide
 refine g9 oQ nR nT (rN _) ?_;unfold dh.«sorted»;refine aa (m:=checkCount "sorted" 1 1 _) (ae (aa (Y _ _ _ rfl fun h' tk d vs c=>?_)));have I:=J h' tk vs c;refine aa (ff (hsz:=by show vs.toArray.size<=_;rw[aG];lia) ?_);have R:(h'.push (seqObj "list" vs.toArray 0)).get? h'.objs.size=some (seqObj "list" vs.toArray 0):=ax _ rfl;refine aa (bU (bK lR ⟨_,R,rfl⟩ kI ?_ (oR _)));refine zfi (s:={ s with heap:=h',toks:=tk,drawn:=d }) I (U h' tk d vs _ c (by show A.units+1+1<=_;lia)) fun G y e kp N p2 he=>?_;exact ae ⟨_,rfl,h h' tk d vs G y e c kp N p2 he⟩
end
section
variable{X:Cx}
theorem zd_(hc:X.calm=true):JI X (.builtin "sorted") (fun xs H Q=>∃(p:aj) (ns:List Int),xs=[.ref p]/\H p=some (SDO X.w p ns)/\ns.length<100000 /\
  ∀G:List Int,G.Perm ns->G.Pairwise (·<=·)->∀l,H l=none->Q (.ref l) (upd H l (.lst (G.map V.int)))):=by
 intro pins s σ H xs us Q I r h;obtain⟨p,ns,rfl,hp,hz,q⟩:=h;obtain⟨u,rfl,ru⟩:=r.one;cases(show u=aO p from ru);have S:=I.setI hp;refine zgs (A:=X.A) (x:=.ref p) (rk:=fun _=>rkI) (C:=fun h' tk vs=>(∀b o,s.heap.get? b=some o->h'.get? b=some o)/\s.heap.objs.size<=h'.objs.size/\∃ms,ms.Perm ns/\bR (fun(i:Int) (v:af)=>∃t,v=.int i t) ms vs) ?_ ?_ ?_ ?_;intro Z E' Q' hA hq;exact zgt (hA.trans (I.ok.hd hc)) S fun h' tk d vs kp sz pp=>hq h' tk d vs ⟨kp,sz,pp⟩;rintro h' tk vs ⟨kp,sz,ms,pm,pr⟩;have:=ZH pr;rw[pm.length_eq]at this;lia;rintro h' tk d vs Z ⟨kp,sz,ms,pm,pr⟩ hA';refine ziO fun v J=>?_;obtain⟨i,_,t,e⟩:=zdC pr v J;exact⟨i,t,e⟩;rintro h' tk d vs h2 y e ⟨kp,sz,ms,pm,pr⟩ kp2 pm2 up he;have pv:bR (fun(i:Int) (v:af)=>RelV (V.int i) v) ms vs:=pr;obtain⟨G,N,p2,U⟩:=zhm (f:=fun(i:Int)=>i) pr (fun a v J=>by obtain⟨t,rfl⟩:=J;rfl) pm2 up;have R:G.length<=sizeLine:=by
  have a1:=N.length_eq;have a2:=pm.length_eq;have a3:100000<=sizeLine:=by decide
  lia
 have rl:Vals (G.map V.int) ((arrOf y).map (·.2)).toList:=by
  generalize ((arrOf y).map (·.2)).toList=zs at U;clear N p2 R;induction U with
  | nil=>exact .nil
  | cons r _ Y=>exact .cons r Y
 refine⟨.ref h'.objs.size,_,((I.laid (a:=h'.objs.size) (o:=.lst (G.map V.int)) (t':=tk) (h':=h2) (fun b o e=>kp2 b o (kp b o e)) sz ⟨by simpa using R,_,e,rl,by rw[kv];exact he⟩).drw d),rfl,q G (N.trans pm) p2 _ (I.hok.fresh sz)⟩
end
theorem zgO{w:a7}{J:It}{n:Nat}{g:TG}{tt:TT}{N:TE}{σ:St}{I:Hp}{D:aj}{Q:Hp->Prop}(y:Nat->List Int->Hp->Prop)(h0:∃ys,I D=some (SDO w D ys)/\y 0 ys I)
  (turn:∀i ys o,i<n->o D=some (SDO w D ys)->y i ys o->J.go i o/\∀x L,J.yld i o x L->g x σ L fun u S=>Wk σ u/\tt u S fun b C =>
   if b=true then N u C (fun v G=>∃zs j,v=.int j/\G D=some (SDO w D zs)/\zs.length+1<scanBound/\y (i+1) (adI zs j) (upd G D (SDO w D (adI zs j)))) else ∃zs,C D=some (SDO w D zs)/\y (i+1) zs C)
  (stop:∀ys o,o D=some (SDO w D ys)->y n ys o->J.stop n o/\Q o):Yb w g tt N σ J I D Q:=by
 refine⟨fun i m H=>m=n - i/\i<=n/\∃ys,H D=some (SDO w D ys)/\y i ys H,⟨n,rfl,cw _,h0⟩,?_⟩;rintro i m o ⟨rfl,hi,ys,R,p⟩;by_cases hlt:i<n;obtain⟨go,st⟩:=turn i ys o hlt R p;refine .inr ⟨go,_,_,?_,?_,st⟩;rintro v G ⟨zs,j,rfl,e,l,q⟩;exact⟨zs,j,rfl,e,l,n - (i+1),by omega,rfl,hlt,_,Jo,q⟩;rintro C ⟨zs,e,q⟩;exact⟨n - (i+1),by omega,rfl,hlt,zs,e,q⟩
 ·have e:i=n:=by omega
  subst e;exact .inl (stop ys o R p)
theorem zgV{w:a7}{J:It}{n:Nat}{own:List Str}{capt:List Nat}{g g2:TG}{tt C:TT}{y:TI}{N:TE}{σ:St}{R:Hp}{D:aj}{Q:VK}(v:Nat->List Int->Hp->Prop)(h0:v 0 [] (upd R D (SDO w D [])))
  (turn:∀i ys o,i<n->o D=some (SDO w D ys)->v i ys o->J.go i o/\∀x I,J.yld i o x I->g x (Ji own++capS capt σ) I fun u Y=>Wk (Ji own++capS capt σ) u/\tt u Y fun b G =>
   if b=true then y u G (fun Z L=>Yb w g2 C N u Z L D fun S=>∃zs,S D=some (SDO w D zs)/\v (i+1) zs S) else ∃zs,G D=some (SDO w D zs)/\v (i+1) zs G)
  (stop:∀ys o,o D=some (SDO w D ys)->v n ys o->J.stop n o/\Q (.ref D) o) :
  zg7 w own capt g tt y g2 C N σ J R D Q:=by
 refine⟨fun i m H=>m=n - i/\i<=n/\∃ys,H D=some (SDO w D ys)/\v i ys H,⟨n,rfl,cw _,[],Jo,h0⟩,?_⟩;rintro i m o ⟨rfl,hi,ys,U,p⟩;by_cases hlt:i<n;obtain⟨go,st⟩:=turn i ys o hlt U p;refine .inr ⟨go,_,_,?_,?_,st⟩;rintro L ⟨zs,e,q⟩;exact⟨n - (i+1),by omega,rfl,hlt,zs,e,q⟩;rintro G ⟨zs,e,q⟩;exact⟨n - (i+1),by omega,rfl,hlt,zs,e,q⟩
 ·have e:i=n:=by omega
  subst e;exact .inl (stop ys o U p)
def Qy(g:DTG)(tt:DTT)(u:DTE)(l:En):List ah->List Int->Nat->(List Int->Nat->Prop)->Prop
 | [],acc,n,R=>R acc n
 | x::xs,acc,n,R=>g x l fun o=>tt o n fun b v=>if b=true then u o v fun t y=>∃j,t=.int j/\acc.length<4000/\Qy g tt u l xs (acc++[j]) y R else Qy g tt u l xs acc v R
def set2Go(g:DTG)(tt:DTT)(u:DTA)(g2:DTG)(l:DTT)(C:DTE)(v:En):List ah->List Int->Nat->(List Int->Nat->Prop)->Prop
 | [],acc,n,R=>R acc n
 | x::xs,acc,n,R=>g x v fun o=>tt o n fun b G=>if b=true then u o G fun ts I=>Qy g2 l C o ts acc I fun y J=>set2Go g tt u g2 l C v xs y J R else set2Go g tt u g2 l C v xs acc G R
def Edg(acc l:List Int):Prop:=l.Pairwise (·<·)/\∀x,x∈l↔x∈acc
def SrtR(R:List ah->Nat->Prop)(acc:List Int)(n:Nat):Prop:=acc.length<100000/\∀l,Edg acc l->R (l.map cg) n
def zo_(m:Nat)(capt:List Nat)(x:DTA)(g:DTG)(tt:DTT)(o:DTA)(g2:DTG)(l:DTT)(v:DTE):DTA:=fun u n R=>x u n fun ts y=>set2Go g tt o g2 l v (Jl m capt u) ts [] y (SrtR R)
theorem zpo{ns:List Int}{j x:Int}:x∈adI ns j↔x∈ns\/x=j:=by unfold adI;split;rename_i h;exact⟨.inl,fun z=>z.elim id fun z=>z▸h⟩;simp
theorem zr3{ns:List Int}{j:Int}(h:ns.Nodup):(adI ns j).Nodup:=by unfold adI;split;exact h;rename_i z;exact iS.mpr ⟨h,by simp,fun x hx y l=>by rw[aF]at l;subst l;exact fun q=>z (q▸hx)⟩
theorem zpp{ns:List Int}{j:Int}:(adI ns j).length<=ns.length+1:=by unfold adI;split;omega;simp
def ddI(acc:List Int):List Int:=acc.foldl adI []
theorem zld(acc:List Int):(ddI acc).Nodup/\(∀x,x∈ddI acc↔x∈acc)/\(ddI acc).length<=acc.length:=by
 have key:∀(acc ns:List Int),ns.Nodup->(acc.foldl adI ns).Nodup/\(∀x,x∈acc.foldl adI ns↔x∈ns\/x∈acc)/\(acc.foldl adI ns).length<=ns.length+acc.length:=by
  intro acc;induction acc with
  | nil=>intro ns h;exact⟨h,fun x=>by simp,aD _⟩
  | cons a acc C =>intro ns h;obtain⟨h1,v,y⟩:=C (adI ns a) (zr3 h);refine⟨h1,fun x=>by rw[n9,v,zpo,au];exact or_assoc,?_⟩;have:=zpp (ns:=ns) (j:=a);rw[n9,aL];omega
 obtain⟨h1,v,y⟩:=key acc [] .nil;exact⟨h1,fun x=>by rw[ddI,v];simp,by rw[ddI];simpa using y⟩
theorem zmU{acc:List Int}{j:Int}:ddI (acc++[j])=adI (ddI acc) j:=by rw[ddI,List.foldl_append];rfl
theorem zrL{acc l:List Int}(p:l.Perm (ddI acc))(w:l.Pairwise (·<=·)):Edg acc l:=by obtain⟨h1,o,_⟩:=zld acc;have nd:l.Nodup:=p.nodup_iff.mpr h1;refine⟨?_,fun x=>by rw[p.mem_iff,o]⟩;refine(List.pairwise_and_iff.mpr ⟨w,nd⟩).imp fun {a b} h=>?_;have h1:=h.1;have o:a≠b:=h.2;omega
section
variable{X:Cx}{scope:e8}{own:List Str}{capt:List Nat}{elt tg iter tg2 it2:bg}{ifs KS:List bg}{pos p0 p1:Pos}{di di2:DTA}{is is2:List Nat}{g g2:DTG}{tt tt2:DTT}{te:DTE}
theorem ziZ(hm:X.mg "sorted" = none) (hc:X.calm=true) (S:JC scope own capt X) (hi:DIL X tg iter di)
  (hg:∀C s₀ H₀ I,DG (Ja X scope own capt C s₀ H₀ I) tg is g) (hin:∀i∈is,i<own.length) (ht:∀C s₀ H₀ I,DTs (Ja X scope own capt C s₀ H₀ I) ifs tt)
  (hi2:∀C s₀ H₀ I,DI (Ja X scope own capt C s₀ H₀ I) tg2 it2 di2) (hg2:∀C s₀ H₀ I,DG (Ja X scope own capt C s₀ H₀ I) tg2 is2 g2) (LW:∀i∈is2,i<own.length/\i∉is) (ht2:∀C s₀ H₀ I,DTs (Ja X scope own capt C s₀ H₀ I) KS tt2)
  (he:∀C s₀ H₀ I,DE (Ja X scope own capt C s₀ H₀ I) elt te)
  (hse:starEach [.SetComp elt [⟨tg,iter,ifs,0⟩,⟨tg2,it2,KS,0⟩] scope pos] X.env=[(false,eval (.SetComp elt [⟨tg,iter,ifs,0⟩,⟨tg2,it2,KS,0⟩] scope pos) X.env)]:=by rfl) (hgl:Gl X "sorted":=by rfl)
  (hs:∀x,foldedSetIterable iter X.env x=pure x:=by intro _;rfl) (hs2:∀(C:aj) (x:af),foldedSetIterable it2 (compEnvC scope (closed X.env scope.names []) C X.env) x=pure x:=by intro _ _;rfl) :
  DN X (.Call (.Name "sorted" p0) [.SetComp elt [⟨tg,iter,ifs,0⟩,⟨tg2,it2,KS,0⟩] scope pos] [] p1) (zo_ own.length capt di g tt di2 g2 tt2 te):=by
 obtain⟨wi,pi,hi⟩:=hi;let Xf:(aj×aq×Hp×List aj)->Cx:=fun q=>Ja X scope own capt q.1 q.2.1 q.2.2.1 q.2.2.2;have hK:∀q,(Xf q).K=X.K:=fun _=>rfl;have hne:Nonempty (aj×aq×Hp×List aj):=⟨(0,X.s₀,X.H₀,[])⟩;obtain⟨gg,pg,hgg⟩:=DG.uni (Xf:=Xf) hK fun q=>hg q.1 q.2.1 q.2.2.1 q.2.2.2;obtain⟨gt,pt,hgt⟩:=DTs.uni (Xf:=Xf) hK fun q=>ht q.1 q.2.1 q.2.2.1 q.2.2.2;obtain⟨wi2,pi2,hwi2⟩:=DI.uni (Xf:=Xf) hK fun q=>hi2 q.1 q.2.1 q.2.2.1 q.2.2.2;obtain⟨gg2,pg2,hgg2⟩:=DG.uni (Xf:=Xf) hK fun q=>hg2 q.1 q.2.1 q.2.2.1 q.2.2.2;obtain⟨gt2,pt2,hgt2⟩:=DTs.uni (Xf:=Xf) hK fun q=>ht2 q.1 q.2.1 q.2.2.1 q.2.2.2;obtain⟨ge,pe,hge⟩:=DE.uni (Xf:=Xf) hK fun q=>he q.1 q.2.1 q.2.2.1 q.2.2.2;refine⟨_,QT (zd_ hc) hm oS (JW (ziz hc S pi (fun C s₀ H₀ I=>pg (C,s₀,H₀,I)) (fun C s₀ H₀ I=>pt (C,s₀,H₀,I)) (fun C s₀ H₀ I=>pi2 (C,s₀,H₀,I)) (fun C s₀ H₀ I=>pg2 (C,s₀,H₀,I)) (fun C s₀ H₀ I=>pt2 (C,s₀,H₀,I)) (fun C s₀ H₀ I=>pe (C,s₀,H₀,I)) hs hs2) Qi hse) hgl,fun C U σ H n Q R St hd hq=>?_⟩;refine hi C U σ H n _ _ St hd fun ts n1 J H1 r e1 hn it=>fun D hD1=>?_;have St1:=St.on e1 hn;have hD:H D=none:=Q5 e1 hn hD1;have nhd:C.hd≠some D:=fun z=>St.dom (.inl (St.hx D z)) hD;refine zgV (n:=ts.length) (fun i ys H2=>∃acc n2,set2Go g tt di2 g2 tt2 te (Jl own.length capt U) (ts.drop i) acc n2 (SrtR R)/\ys=ddI acc/\ExtE C.hd H1 H2/\Hn X.K C.hd H2 n2)
  ⟨[],n1,by simpa using r,rfl,ExtE.new hD1,hn.same (JB hD1)⟩ ?_ ?_
 rintro i ys H2 hlt hy ⟨acc,n2,c2,r2,e2,hn2⟩;have et:ts[i]?=some ts[i]:=av hlt;rw[br hlt]at c2;have itq:=it (fun a=>Own C U σ a\/a=D) H2 (fun a o u nh=>e2 a o u nh) (fun a o u no z=>z.elim no fun z=>by subst z;rw[hD1]at u;cases u) (fun a z=>z.elim (fun z=>(St1.on e2 hn2).dom z) fun z=>by subst z;rw[hy];exact fun z=>by cases z);obtain⟨go,yl⟩:=itq.1 i _ et;refine⟨go,fun x H3 hyd=>?_⟩;obtain⟨sm,rx⟩:=yl x H3 hyd;have hn3:=hn2.same sm;have e3:ExtE C.hd H1 H3:=e2.trans sm.ext;obtain⟨I3,no3⟩:=zf5 (own:=own) (capt:=capt) (D:=D) St (e1.trans e3) hn3 hD (.inr (.inr ⟨_,sm _ _ hy⟩));have rx':Rep X.K C.hd (Own ⟨C.hd,fun a=>Own C U σ a\/a=D⟩ (Jl own.length capt U) (Ji own++capS capt σ)) H3 x ts[i]:=rx.mono (fun a o _ z=>z.elim id fun z=>absurd z (no3 a)) fun _ _ _ z=>z;refine hgg ⟨C.hd,fun a=>Own C U σ a\/a=D⟩ (Jl own.length capt U) (Ji own++capS capt σ) H3 n2 x ts[i] _ _ I3 rx' c2 fun L Y r4 S4 k4 hj hl=>⟨Wk.of hl.symm fun j v ej=>zji hin hj ej,?_⟩;refine hgt _ L Y H3 n2 _ _ S4 r4 fun b n5 H5 r5 e5 hn5=>?_;have S5:=S4.on e5 hn5;have hy5:H5 D=some (SDO X.w D ys):=e5 D _ (sm _ _ hy) nhd;cases b with
 | false =>refine iteF ⟨ys,hy5,acc,n5,by simpa using r5,r2,e3.trans e5,hn5⟩
 | true =>
  refine iteT (hwi2 ⟨C.hd,fun a=>Own C U σ a\/a=D⟩ L Y H5 n5 _ _ S5 (by simpa using r5) fun us n6 J2 H6 r6 e6 hn6 it6=>?_);have S6:=S5.on e6 hn6;have hy6:H6 D=some (SDO X.w D ys):=e6 D _ hy5 nhd;refine zgO (n:=us.length) (fun k zs H7=>∃G n7,Qy g2 tt2 te L (us.drop k) G n7 (fun G n4=>set2Go g tt di2 g2 tt2 te (Jl own.length capt U) (ts.drop (i+1)) G n4 (SrtR R))/\zs=ddI G/\ExtE C.hd H1 H7/\Hn X.K C.hd H7 n7/\∀a o,H6 a=some o->¬(Own C U σ a\/a=D)->H7 a=some o)
   ⟨ys,hy6,acc,n6,by simpa using r6,r2,e3.trans (e5.trans e6),hn6,fun _ _ h _=>h⟩ ?_ ?_
  rintro k zs H7 hk hz ⟨G,n7,c7,r7,e7,hn7,k7⟩;have et2:us[k]?=some us[k]:=av hk;rw[br hk]at c7;have S7:Stt X.K ⟨C.hd,fun a=>Own C U σ a\/a=D⟩ L Y H7 n7:=S6.onX k7 (fun a z=>z.elim (fun z=>(St1.on e7 hn7).lst z) fun z=>by subst z;exact .inr (.inr ⟨_,hz⟩)) (fun a ks u z nh=>z.elim (fun z=>by have Z:ExtE C.hd H1 H6:=e3.trans (e5.trans e6);rcases St1.lst z with⟨xs,q⟩|⟨xs,q⟩|⟨b,q⟩;rw[Z a _ q nh]at u;cases u;rw[Z a _ q nh]at u;cases u;exact e7 a _ q nh;rw[Z a _ q nh]at u;cases u) (fun z=>by subst z;rw[hy6]at u;cases u)) hn7;have LD:=it6 (Own ⟨C.hd,fun a=>Own C U σ a\/a=D⟩ L Y) H7 (fun a o u no=>k7 a o u fun z=>no (.inl z)) (fun a o u no=>no) (fun a z=>S7.dom z);obtain⟨go2,yl2⟩:=LD.1 k _ et2;refine⟨go2,fun y H8 hyd2=>?_⟩;obtain⟨sm8,ry⟩:=yl2 y H8 hyd2;have hn8:=hn7.same sm8;have S8:=S7.on (Same.ext sm8) hn8;refine hgg2 _ L Y H8 n7 y us[k] _ _ S8 ry c7 fun ρ9 σ9 r9 S9 k9 hj9 hl9=>⟨Wk.of hl9.symm fun j v ej=>?_,?_⟩;by_cases hjo:j∈is2;exfalso;obtain⟨lo,nis⟩:=LW j hjo;rw[hj j nis,bE (by simpa using lo),aN]at ej;cases z:own[j]? with
  | none=>rw[z]at ej;cases ej
  | some q=>rw[z]at ej;cases ej
  rw[hj9 j hjo];exact ej;refine hgt2 _ ρ9 σ9 H8 n7 _ _ S9 r9 fun b n10 H10 r10 e10 hn10=>?_;have S10:=S9.on e10 hn10;have LN:H10 D=some (SDO X.w D zs):=e10 D _ (sm8 _ _ hz) nhd;have kk:∀{H'},ExtE C.hd H7 H'->∀a o,H6 a=some o->¬(Own C U σ a\/a=D)->H' a=some o:=fun e a o u no=>e a o (k7 a o u no) fun z=>no (.inl (.inl (St.hx a z)));cases b with
  | false=>exact iteF ⟨zs,LN,G,n10,by simpa using r10,r7,e7.trans ((Same.ext sm8).trans e10),hn10,kk ((Same.ext sm8).trans e10)⟩
  | true =>refine iteT (hge _ ρ9 σ9 H10 n10 _ _ S10 (by simpa using r10) fun t n11 v H11 r11 e11 hn11 q11=>?_);have LO:H11 D=some (SDO X.w D zs):=e11 D _ LN nhd;have LF:ExtE C.hd H7 H11:=(Same.ext sm8).trans (e10.trans e11);obtain⟨j,rfl,r11a,r11b⟩:=r11;have ev:=q11.intI;refine⟨zs,j,ev,LO,?_,G++[j],n11,r11b,?_,?_,?_,?_⟩;have:=(zld G).2.2;rw[r7];show _<4096;omega;rw[zmU,r7];exact ExtE.updR hD1 (e7.trans LF);exact Hn.updR nhd (.inr (.inr ⟨_,LO⟩)) hn11;exact fun a o u no=>by rw[Jc (show a≠D from fun z=>no (.inr z))];exact kk LF a o u no
  rintro zs H7 hz ⟨G,n7,c7,r7,e7,hn7,k7⟩;rw[gh]at c7;have S7:Stt X.K ⟨C.hd,fun a=>Own C U σ a\/a=D⟩ L Y H7 n7:=S6.onX k7 (fun a z=>z.elim (fun z=>(St1.on e7 hn7).lst z) fun z=>by subst z;exact .inr (.inr ⟨_,hz⟩)) (fun a ks u z nh=>z.elim (fun z=>by have Z:ExtE C.hd H1 H6:=e3.trans (e5.trans e6);rcases St1.lst z with⟨xs,q⟩|⟨xs,q⟩|⟨b,q⟩;rw[Z a _ q nh]at u;cases u;rw[Z a _ q nh]at u;cases u;exact e7 a _ q nh;rw[Z a _ q nh]at u;cases u) (fun z=>by subst z;rw[hy6]at u;cases u)) hn7;have LD:=it6 (Own ⟨C.hd,fun a=>Own C U σ a\/a=D⟩ L Y) H7 (fun a o u no=>k7 a o u fun z=>no (.inl z)) (fun a o u no=>no) (fun a z=>S7.dom z);exact⟨LD.2,zs,hz,G,n7,c7,r7,e7,hn7⟩
 rintro ys H2 hy ⟨acc,n2,c2,r2,e2,hn2⟩;rw[gh]at c2;have itq:=it (fun a=>Own C U σ a\/a=D) H2 (fun a o u nh=>e2 a o u nh) (fun a o u no z=>z.elim no fun z=>by subst z;rw[hD1]at u;cases u) (fun a z=>z.elim (fun z=>(St1.on e2 hn2).dom z) fun z=>by subst z;rw[hy];exact fun z=>by cases z);refine⟨itq.2,D,ys,rfl,hy,?_,fun js pm pw l hl=>?_⟩;have:=(zld acc).2.2;rw[r2];exact pW this c2.1;rw[r2]at pm;exact hq _ n2 l _ _ (c2.2 js (zrL pm pw)) ((e1.trans e2).trans (ExtE.new hl)) (hn2.same (JB hl)) (Q5 (e1.trans e2) hn2 hl) Jo (zjP js)
end
section
variable{ρ ρ0:En}{n m:Nat}{di di2:DTA}{g g2:DTG}{tt tt2:DTT}{te:DTE}{capt:List Nat}{Rl:List ah->Nat->Prop}
instance zt9 [h:CompN m capt ρ ρ0]:Stp (zo_ m capt di g tt di2 g2 tt2 te ρ n Rl) (di ρ n fun ts n1=>set2Go g tt di2 g2 tt2 te ρ0 ts [] n1 (SrtR Rl)):=⟨fun k=>by unfold zo_;rw[h.e];exact k⟩
theorem zjI{α:Type}{cs:List α}{D:α->ah}{R:List Int->Nat->Prop}(f:α->List Int)(hf:∀c,(f c).length<=2)(I:cs.length<=1000)
  (turn:∀c∈cs,∀(acc:List Int) (K:List Int->Nat->Prop),acc.length+2<4000->K (acc++f c) n->g (D c) ρ0 fun o=>tt o n fun b v=>if b=true then di2 o v fun ts G=>Qy g2 tt2 te o ts acc G K else K acc v) (h:R (cs.flatMap f) n) :
  set2Go g tt di2 g2 tt2 te ρ0 (cs.map D) [] n R:=by
 have key:∀(ds:List α) (acc:List Int),(∀c∈ds,c∈cs)->acc.length+2*ds.length<3000->R (acc++ds.flatMap f) n->set2Go g tt di2 g2 tt2 te ρ0 (ds.map D) acc n R:=by
  intro ds;induction ds with
  | nil=>intro acc _ _ h;simpa[set2Go] using h
  | cons d ds y =>intro acc x hz h;rw[bp];unfold set2Go;rw[aL]at hz;have:=hf d;refine turn d (x d (.head _)) acc (fun u C=>set2Go g tt di2 g2 tt2 te ρ0 (ds.map D) u C R) (by omega) (y _ (fun c hc=>x c (.tail _ hc)) (by rw[aS];omega) ?_);rw[aY];simpa using h
 exact key cs [] (fun _ h=>h) (by simp;omega) (by simpa using h)
end
end L2
namespace L2
open PySem PySem.Spec PyProof PyProof.Rows
section
variable{X:Cx}
theorem zg0(hc:X.calm=true)(S:X.A.units+64<cLine):JI X (.type "dict") (fun xs H Q=>∃(p:aj) (vs:List V) (zs:ZT),xs=[.ref p]/\tyT X.K (.ref p) H/\SqT X.K H p vs/\bR (KZp X.K H) vs zs/\(zs.map (·.1)).Nodup/\∀l ep,H l=none->Q (.ref l) (upd H l (ZDO l zs ep))):=by
 intro pins s σ H xs us Q I r h;obtain⟨p,vs,zs,rfl,ty,J,pr,nd,q⟩:=h;obtain⟨u,rfl,G⟩:=r.one;cases(show u=aO p from G);obtain⟨its,rel,⟨o,g1,g2,n,g3⟩,Z⟩:=I.tuple J;obtain⟨_,Y⟩:=zpH I G ty;obtain⟨o',C,d'⟩:=Y p rfl;rw[g1]at C;cases C;obtain⟨ps,x,U⟩:=zj4 I rel pr;have lp:zs.length=vs.length:=(fP pr).symm;have l2:ps.length=zs.length:=(fP x).symm;have v:(ps.map (·.1)).Nodup:=by rw[zgq x];exact AU kL (fun a b h e=>h (UX.mp e)) nd
 refine ze3 (A:=X.A) (its:=its.toArray) (ps:=ps) g1 g2 g3 d' (I.ok.hd hc) S (by simpa using U) (by lia) v fun h' tk kp L=>?_;have R:(s.heap.objs.size == sysModules)=false:=beq_eq_false_iff_ne.mpr (dW (aA I.big));obtain⟨ep,ok⟩:=zjc (X:=X) (H':=H) R (by lia) x L;exact⟨.ref s.heap.objs.size,_,I.laid (a:=s.heap.objs.size) (o:=ZDO s.heap.objs.size zs ep) (t':=tk) kp (aD _) ok,rfl,q _ ep (I.hok.fresh (aD _))⟩
theorem ziw{K:qF}{hd:Option aj}{O:aj->Prop}{H:Hp}{zs:ZT}{l:KT2}(r:Jj K hd O H zs l):zs.map (·.1)=l.map (·.1) :=
 r.ind (P:=fun(zs:ZT) (l:KT2)=>zs.map (·.1)=l.map (·.1)) rfl (fun _ _ _ i=>by simp[i])
end
section
variable{X:Cx}{e:bg}{d:DTE}{p2 cp:Pos}
def znA(d:DTE):DTE:=fun y n R=>d y n fun t x=>∃v:KT2,t=.tuple (v.map prT)/\(v.map (·.1)).Nodup/\R (.dict (JF v)) x
theorem zmR(hc:X.calm=true)(hu:X.A.units+64<cLine)(I:X.mg "dict" = none) (h:DE X e d) (u:starEach [e] X.env=[(false,eval e X.env)]:=by rfl) (G:Gl X "dict":=by rfl) :
  DE X (.Call (.Name "dict" p2) [e] [] cp) (znA d):=by
 obtain⟨ta,pa,h⟩:=h;refine⟨_,zfv (zg0 hc hu) G I rfl (Qv pa Q3 u) (he:=u),fun C ρ σ H n Q R S hd hq=>?_⟩;refine h C ρ σ H n _ _ S hd fun t n1 v H1 r1 U x J=>?_;obtain⟨ks,rfl,nd,r⟩:=r1;have Z:=S.on U x;have ty:tyT X.K v H1:=by
  cases J with
  | tup h o r=>exact⟨_,_,rfl,.inl h⟩
  | tupS h r=>exact⟨_,_,rfl,.inr h⟩
 obtain⟨p,vs,rfl,sq,rp⟩:=J.tupI;obtain⟨zs,z1,L⟩:=zhn rp;refine⟨p,vs,zs,rfl,ty,sq,z1,by rw[ziw L];exact nd,fun l ep y=>?_⟩;exact hq _ n1 _ _ r (U.trans (ExtE.new y)) (x.same (JB y)) (.dcT Jo (Z.free y) (L.mono (fun _ _ _ z=>z) (fun b o _ Y=>JB y b o Y)) rfl)
instance ztd {ρ:En}{n:Nat}{R:qN}:Stp (znA d ρ n R) (d ρ n fun t n1=>∃ks:KT2,t=.tuple (ks.map prT)/\(ks.map (·.1)).Nodup/\R (.dict (JF ks)) n1):=⟨fun h=>h⟩
end
def decT(S:Int×Int->Option Int):Nat->Int->Int->Int->Int
 | 0,i,d,_=>(S (i,0)).getD d
 | n+1,i,d,x=>if x<i+2 ^ n then decT S n i ((S (i,((n+1:Nat):Int))).getD d) x else decT S n (i+2 ^ n) ((S (i,((n+1:Nat):Int))).getD d) x
theorem zpJ(n:Nat):(2:Int) ^ (n+1)=2 ^ n+2 ^ n:=by rw[bM];omega
def sgAt(rs:RL)(b:Int×Int):Option Int:=(rs.find? fun r=>decide (r.1=b)).map (·.2)
theorem ZL{rs:RL}{b:Int×Int}{s:Int}(h:sgAt rs b=some s):(b,s)∈rs:=by
 unfold sgAt at h;obtain⟨r,h1,l⟩:=cO.mp h;have e:r.1=b:=by simpa using List.find?_some h1
 have m:=List.mem_of_find?_eq_some h1;have:r=(b,s):=fJ e l;rwa [this]at m
theorem ZE{rs:RL}{b:Int×Int}(h:sgAt rs b=none):∀r∈rs,r.1≠b:=fun r l e=>by unfold sgAt at h;rw[nW,p7]at h;exact h r l (decide_eq_true e)
theorem zjF{rs:RL}(nd:(rs.map (·.1)).Nodup){r:(Int×Int)×Int}(h:r∈rs):sgAt rs r.1=some r.2:=by
 cases e:sgAt rs r.1 with
 | none=>exact absurd rfl (ZE e r h)
 | some s =>
  have m:=ZL e;have:∀{l:RL},(l.map (·.1)).Nodup->∀a∈l,∀b∈l,a.1=b.1->a=b:=by
   intro l;induction l with
   | nil=>intro _ a v;cases v
   | cons c l y =>intro nd a v b x e;rw[bp,dI]at nd;rcases au.mp v with rfl|v <;> rcases au.mp x with rfl|x;rfl;exact absurd (cE.mpr ⟨b,x,e.symm⟩) nd.1;exact absurd (show b.1∈l.map (·.1) from cE.mpr ⟨a,‹a∈l›,e⟩) nd.1;exact y nd.2 a v b x e
  have:=this nd _ m _ h rfl;rw[<- this]
def Aln(b:Int×Int):Prop:=0<=b.2/\∃k:Int,b.1=k*2 ^ b.2.toNat
theorem zr1{bits:Int}{b:Int×Int}(B:IsBk bits b.1 b.2):Aln b:=⟨B.1,let ⟨k,_,e,_⟩:=B.2.2;⟨k,e⟩⟩
def inb(b:Int×Int)(x:Int):Prop:=b.1<=x/\x<eB b
theorem zdG{k j P x:Int}(o:0<P)(h1:k*P<=x)(u:x<k*P+P)(l:j*P<=x)(v:x<j*P+P):k=j:=by rcases mL k j with z|z|z;have:(k+1)*P<=j*P:=cG (by omega) (by omega);rw[eG]at this;omega;exact z;have:(j+1)*P<=k*P:=cG (by omega) (by omega);rw[eG]at this;omega
theorem Zo{b c:Int×Int}{x:Int}(v:Aln b)(hc:Aln c)(e:b.2=c.2)(h1:inb b x)(l:inb c x):b=c:=by obtain⟨_,k,o⟩:=v;obtain⟨_,j,u⟩:=hc;unfold inb eB at h1 l;rw[e]at o h1;rw[o]at h1;rw[u]at l;have:=zdG (Bd.Qt c.2.toNat) h1.1 h1.2 l.1 l.2;exact fJ (by rw[o,u,this]) e
def Rok(rs:RL):Prop:=(∀r∈rs,Aln r.1/\(r.2=0\/r.2=1))/\(rs.map (·.1)).Nodup
def AlnN(n:Nat)(i:Int):Prop:=∃k:Int,i=k*2 ^ n
theorem AlnN.lo{n:Nat}{i:Int}(h:AlnN (n+1) i):AlnN n i:=by obtain⟨k,e⟩:=h;exact⟨k*2,by rw[e,bM,fe,cQ (2 ^ n) 2]⟩
theorem AlnN.up{n:Nat}{i:Int}(h:AlnN (n+1) i):AlnN n (i+2 ^ n):=by obtain⟨k,e⟩:=h.lo;exact⟨k+1,by rw[e,eG,cU]⟩
theorem AlnN.b{n:Nat}{i:Int}(h:AlnN n i):Aln (i,(n:Int)):=⟨by simp,by obtain⟨k,e⟩:=h;exact⟨k,by simpa using e⟩⟩
theorem zh8{rs:RL}(R:Rok rs){x:Int}:∀(n:Nat) (i d:Int),AlnN n i->i<=x->x<i+2 ^ n ->
  (∃r∈rs,r.1.2<=n/\inb r.1 x/\r.2=decT (sgAt rs) n i d x/\∀q∈rs,inb q.1 x->r.1.2<=q.1.2)\/(decT (sgAt rs) n i d x=d/\∀q∈rs,inb q.1 x->(n:Int)<q.1.2)
 | 0,i,d,A,h1,h2=>by
  have e:x=i:=by simp at h2;omega
  subst e;unfold decT;cases es:sgAt rs (x,0) with
  | some s =>refine .inl ⟨_,ZL es,by simp,⟨aV _,by simp[eB];omega⟩,rfl,fun q u _=>(R.1 q u).1.1⟩
  | none =>refine .inr ⟨rfl,fun q u y=>?_⟩;have q0:=(R.1 q u).1.1;rcases gY 0 q.1.2 with z|z;simpa using z;exact absurd (Zo (R.1 q u).1 A.b (by simp;omega) y ⟨aV _,by simp[eB];omega⟩) (ZE es q u)
 | n+1,i,d,A,h1,h2=>by
  have p2:=zpJ n;have key:∀j,AlnN n j->j<=x->x<j+2 ^ n->∀v,v=decT (sgAt rs) n j ((sgAt rs (i,((n+1:Nat):Int))).getD d) x ->
    (∃r∈rs,r.1.2<=((n+1:Nat):Int)/\inb r.1 x/\r.2=v/\∀q∈rs,inb q.1 x->r.1.2<=q.1.2)\/(v=d/\∀q∈rs,inb q.1 x->((n+1:Nat):Int)<q.1.2):=fun j I G Y v ev=>by
   rcases zh8 R n j ((sgAt rs (i,((n+1:Nat):Int))).getD d) I G Y with⟨r,U,r1,L,J,S⟩|⟨e,C⟩;exact .inl ⟨r,U,by push_cast;omega,L,by rw[ev];exact J,S⟩;rw[e]at ev;cases es:sgAt rs (i,((n+1:Nat):Int)) with
   | some s =>
    rw[es]at ev;refine .inl ⟨_,ZL es,aV _,⟨h1,by show x<i+2 ^ ((n+1:Nat):Int).toNat;simpa using h2⟩,ev.symm,fun q u y=>?_⟩;have:=C q u y;show((n+1:Nat):Int)<=_
    push_cast
    omega
   | none =>
    rw[es]at ev;refine .inr ⟨ev,fun q u y=>?_⟩;have Z:=C q u y;rcases gY ((n+1:Nat):Int) q.1.2 with z|z;exact z;refine absurd (Zo (R.1 q u).1 A.b ?_ y ⟨h1,by show x<i+2 ^ ((n+1:Nat):Int).toNat;simpa using h2⟩) (ZE es q u);show q.1.2=((n+1:Nat):Int)
    push_cast at z ⊢
    omega
  by_cases z:x<i+2 ^ n;have e:decT (sgAt rs) (n+1) i d x=decT (sgAt rs) n i ((sgAt rs (i,((n+1:Nat):Int))).getD d) x:=by rw[decT,if_pos z]
  rw[e];exact key i A.lo h1 z _ rfl;have e:decT (sgAt rs) (n+1) i d x=decT (sgAt rs) n (i+2 ^ n) ((sgAt rs (i,((n+1:Nat):Int))).getD d) x:=by rw[decT,if_neg z]
  rw[e];exact key _ A.up (by omega) (by omega) _ rfl
def SgX(rs:RL)(a s:Int):Prop:=(s=0/\∀r∈rs,¬inb r.1 a)\/∃r∈rs,inb r.1 a/\r.2=s/\∀l∈rs,inb l.1 a->r.1.2<=l.1.2
theorem zeG{rs:RL}(R:Rok rs){a s t:Int}(h1:SgX rs a s)(u:SgX rs a t):s=t:=by rcases h1 with⟨rfl,h1⟩|⟨r,o,v,rfl,m1⟩ <;> rcases u with⟨rfl,u⟩|⟨q,l,x,rfl,m2⟩;rfl;exact absurd x (h1 q l);exact absurd v (u r o);have e:=Zo (R.1 r o).1 (R.1 q l).1 (Int.le_antisymm (m1 q l x) (m2 r o v)) v x;have a1:=zjF R.2 o;have a2:=zjF R.2 l;rw[e,a2]at a1;exact(aQ a1).symm
def YG(n:Nat)(rs:RL):Prop:=∀r∈rs,r.1.2<=n/\0<=r.1.1/\r.1.1<2 ^ n
theorem zjE{rs:RL}(R:Rok rs){n:Nat}(I:YG n rs){x:Int}(h0:0<=x)(h1:x<2 ^ n):SgX rs x (decT (sgAt rs) n 0 0 x):=by rcases zh8 R n 0 0 ⟨0,by simp⟩ h0 (by omega) with⟨r,v,L,C,G,J⟩|⟨e,y⟩;exact .inr ⟨r,v,C,G,J⟩;exact .inl ⟨e,fun q o u=>by have:=y q o u;have:=(I q o).1;omega⟩
theorem zjD{rs:RL}(R:Rok rs){n:Nat}(I:YG n rs){x s:Int}(h0:0<=x)(h1:x<2 ^ n):SgX rs x s↔decT (sgAt rs) n 0 0 x=s :=
 ⟨fun h=>(zeG R (zjE R I h0 h1) h),fun h=>h▸zjE R I h0 h1⟩
section
variable{bits:Int}{ps:BL}{Z:Int->Prop}
theorem zp9{rs:RL}(h:∀r∈rs,IsBk bits r.1.1 r.1.2/\(r.2=0\/r.2=1))(nd:(rs.map (·.1)).Nodup):Rok rs:=⟨fun r l=>⟨zr1 (h r l).1,(h r l).2⟩,nd⟩
theorem zmB{rs:RL}(o:0<=bits)(h:∀r∈rs,IsBk bits r.1.1 r.1.2):YG bits.toNat rs:=fun r l=>by have B:=h r l;have b:=B.bounds o;have:=Bd.Qt r.1.2.toNat;exact⟨by have:=B.2.1;omega,b.1,by omega⟩
end
theorem U9:∀{o:List Int},o.Pairwise (·<·)->∀q∈o.zip o.tail,q.1∈o/\q.2∈o/\q.1<q.2/\∀e∈o,e<=q.1\/q.2<=e
 | [],_,q,h=>by simp at h
 | [a],_,q,h=>by simp at h
 | a::b::o,p,q,h=>by
  rw[bo]at p;obtain⟨v,p2⟩:=p;have h':q=(a,b)\/q∈(b::o).zip (b::o).tail:=by simpa using h
  have rest:∀e∈o,b<e:=(bo.mp p2).1;rcases h' with rfl|h';refine⟨.head _,.tail _ (.head _),v b (.head _),fun e he=>?_⟩;rcases au.mp he with rfl|he;exact .inl (aV _);rcases au.mp he with rfl|he;exact .inr (aV _);exact .inr (cP (rest e he));obtain⟨u,C,x,y⟩:=U9 p2 q h';refine⟨.tail _ u,.tail _ C,x,fun e he=>?_⟩;rcases au.mp he with rfl|he;exact .inl (cP (v _ u));exact y e he
theorem zjb{x:Int}:∀{l:List Int},l.Pairwise (·<·)->(∃a∈l,a<=x)->(∃b∈l,x<b)->∃q∈l.zip l.tail,q.1<=x/\x<q.2
 | [],_,⟨a,o,_⟩,_=>by cases o
 | [c],_,⟨a,o,h1⟩,⟨b,hb,h2⟩=>by rw[aF]at o hb;omega
 | a::b::l,p,h1,h2=>by
  rw[bo]at p;obtain⟨y,p2⟩:=p;have o:a<=x:=by obtain⟨c,hc,hx⟩:=h1;rcases au.mp hc with rfl|hc;exact hx;have:=y c hc;omega
  by_cases z:x<b;exact⟨(a,b),by simp,o,z⟩;obtain⟨q,v,u⟩:=zjb (x:=x) p2 ⟨b,.head _,by omega⟩ (by obtain⟨c,hc,hx⟩:=h2;rcases au.mp hc with rfl|hc;omega;exact⟨c,hc,hx⟩);exact⟨q,by simpa using .inr (by simpa using v),u⟩
def QH(rs:RL):List Int:=rs.flatMap fun r=>[r.1.1,eB r.1]
theorem Yn{rs:RL}{x:Int}:x∈QH rs↔∃r∈rs,x=r.1.1\/x=eB r.1:=by unfold QH;simp[List.mem_flatMap]
theorem zjK{rs:RL}{y:List Int}(E:Edg (QH rs) y){q:Int×Int}(I:q∈y.zip y.tail){x:Int}(h1:q.1<=x)(N:x<q.2)(s:Int):SgX rs x s↔SgX rs q.1 s:=by
 obtain⟨_,_,L,G⟩:=U9 E.1 q I;have key:∀r∈rs,(inb r.1 x↔inb r.1 q.1):=fun r o=>by have R:=G r.1.1 ((E.2 _).mpr (Yn.mpr ⟨r,o,.inl rfl⟩));have J:=G (eB r.1) ((E.2 _).mpr (Yn.mpr ⟨r,o,.inr rfl⟩));unfold inb;omega
 unfold SgX;constructor;rintro(⟨e,h⟩|⟨r,o,C,e,m⟩);exact .inl ⟨e,fun r o z=>h r o ((key r o).mpr z)⟩;exact .inr ⟨r,o,(key r o).mp C,e,fun v u z=>m v u ((key v u).mpr z)⟩;rintro(⟨e,h⟩|⟨r,o,C,e,m⟩);exact .inl ⟨e,fun r o z=>h r o ((key r o).mp z)⟩;exact .inr ⟨r,o,(key r o).mpr C,e,fun v u z=>m v u ((key v u).mp z)⟩
theorem zmi{rs:RL}{o:List Int}(E:Edg (QH rs) o){x:Int}(h:SgX rs x 1):∃q∈o.zip o.tail,q.1<=x/\x<q.2:=by rcases h with⟨e,_⟩|⟨r,u,v,_,_⟩;omega;exact zjb E.1 ⟨_,(E.2 _).mpr (Yn.mpr ⟨r,u,.inl rfl⟩),v.1⟩ ⟨_,(E.2 _).mpr (Yn.mpr ⟨r,u,.inr rfl⟩),v.2⟩
theorem zfX{rs:RL}:(QH rs).length=2*rs.length:=by
 unfold QH;induction rs with
 | nil=>rfl
 | cons r rs o=>rw[List.flatMap_cons,aS,o,aL];simp;omega
theorem zni:∀{o acc:List Int},o.Nodup->(∀x∈o,x∈acc)->o.length<=acc.length
 | [],_,_,_=>cw _
 | a::o,acc,nd,h=>by rw[dI]at nd;have u:=h a (.head _);have:=zni (acc:=acc.erase a) nd.2 fun x hx=>(oY (fun(e:x=a)=>nd.1 (e▸hx))).mpr (h x (.tail _ hx));rw[mW u]at this;have pos:0<acc.length:=nV u;rw[aL];omega
theorem zoY{acc l:List Int}(E:Edg acc l):l.length<=acc.length:=zni (E.1.imp fun h=>Int.ne_of_lt h) fun x hx=>(E.2 x).mp hx
section
variable{g:DTG}{tt:DTT}{te:DTE}{ρ0:En}{x:ah}{xs:qD}{acc:List Int}{n:Nat}{R:List Int->Nat->Prop}
instance zt8:Stp (Qy g tt te ρ0 (x::xs) acc n R) (g x ρ0 fun ρ1=>tt ρ1 n fun b n2=>if b=true then te ρ1 n2 fun t n3=>∃j,t=.int j/\acc.length<4000/\Qy g tt te ρ0 xs (acc++[j]) n3 R else Qy g tt te ρ0 xs acc n2 R):=⟨fun h=>h⟩
instance zt7:Stp (Qy g tt te ρ0 [] acc n R) (R acc n):=⟨fun h=>h⟩
end
end L2
namespace L2
open PySem PySem.Spec PySem.W PyProof.Rows
section
variable{X:Cx}{a b:bg}{ds es:DTA}{pos:Pos}{x y:Str}
def zp6(i j:Nat)(ds es:DTA):DTS:=fun D l n=>ds l n fun ts C=>es l C fun v u=>v=[]/\D.nx ((l.set i (some (.own ts))).set j (some (.own []))) u
theorem zo4{i j:Nat}{Y py pt:Pos}{kt k2 pt2}(hc:X.calm=true)(hN:X.N.Nodup)(hi:X.N[i]?=some x)(hj:X.N[j]?=some y)(I:i≠j)
  (hx:X.env.scope.names.lookup x=some .local) (hy:X.env.scope.names.lookup y=some .local) (h:DN X a ds) (h':DN X b es)
  (G:starEach [a,b] X.env=(false,eval a X.env)::starEach [b] X.env:=by rfl) (v:starEach [b] X.env=[(false,eval b X.env)]:=by rfl)
  (hw:swappedStores [.Tuple [.Name x Y,.Name y py] kt pt] (.Tuple [a,b] k2 pt2) X.env=pure (some [x,y]):=by rfl)
  (hs:swapsWithSole [.Tuple [.Name x Y,.Name y py] kt pt] (.Tuple [a,b] k2 pt2) pos.line X.env=pure false:=by rfl) :
  DS X (.Assign [.Tuple [.Name x Y,.Name y py] kt pt] (.Tuple [a,b] k2 pt2) pos) (zp6 i j ds es):=by
 obtain⟨ta,pa,h⟩:=h;obtain⟨tb,pb,h'⟩:=h';refine⟨_,znc hc hN hi hj I hx hy (Qv pa (Qv pb Q3 v) G) hw hs,fun C ρ σ H n D D' S hd g=>?_⟩;refine h C ρ σ H n _ _ S hd fun ts n1 p vs H1 r1 U h1 Z L q1=>?_;have S1:=S.on U h1;refine h' C ρ σ H1 n1 _ _ S1 r1 fun us n2 q ws H2 J e2 h2 hq R q2=>?_;obtain⟨rfl,J⟩:=J;cases q2;refine⟨_,_,rfl,?_⟩;have T1:=S.putOwn (i:=i) U h1 Z L q1;have SO:=T1.putOwn (i:=j) e2 h2 hq R .nil;exact g.nx _ _ H2 n2 J SO ((zcb U Z).trans (zcb e2 hq))
variable{ρ:En}{n i j:Nat}{D:JL}
instance zuc:Stp (zp6 i j ds es D ρ n) (ds ρ n fun ts n1=>es ρ n1 fun us n2=>us=[]/\SetK i (some (.own ts)) (fun ρ1 n1=>SetK j (some (.own [])) D.nx ρ1 n1) ρ n2):=⟨fun h=>h⟩
end
section
variable{X:Cx}{es:List bg}{gs:DTGs}{is:List Nat}{pos p1 p2 p3 pt:Pos}{x:Str}
def YH(l:Nat)(gs:DTGs):DTS:=fun D C n=>match C[l]? with
 | some (some (.own ts))=>∃init y,ts=init++[.tuple y]/\gs y (C.set l (some (.own init))) fun v=>D.nx v n
 | _=>False
theorem zo3(l:Nat){kt:_}(hc:X.calm=true)(hg:DGs X es is gs)(hn:(assignEach es X.env).length=es.length:=by rfl)(L:(assignEach es X.env).findIdx? (·.1)=none:=by rfl)(hl:X.N[l]?=some x:=by rfl)(hv:Vis X.env.scope x:=by walk_at "V")(hd:(x == ("__debug__":Str))=false:=by rfl)
  (G:(x == ("__classdict__":Str))=false:=by rfl)
  (La:attributeBase (.Name x p1) "pop" X.env (eval (.Name x p1) X.env)=eval (.Name x p1) X.env:=by rfl) (Lb:(p2.endLine == p3.line)=true:=by rfl)
  (hs:swapsWithSole [.Tuple es kt pt] (.Call (.Attribute (.Name x p1) "pop" p2) [] [] p3) pos.line X.env=pure false:=by rfl) (hw:swappedStores [.Tuple es kt pt] (.Call (.Attribute (.Name x p1) "pop" p2) [] [] p3) X.env=pure none:=by rfl)
  (h1:(assignEach [.Tuple es kt pt] X.env).map (·.2)=[assign (.Tuple es kt pt) X.env]:=by rfl) :
  DS X (.Assign [.Tuple es kt pt] (.Call (.Attribute (.Name x p1) "pop" p2) [] [] p3) pos) (YH l gs):=by
 obtain⟨ln,w,g,pg,hg⟩:=hg;refine⟨_,UT (znf ni PySem.F.slot_list_pop PySem.F.type_list_pop zqI (Qr hl hv hd G) La Lb) (znd hc pg hn L) hs hw h1,fun C ρ σ H n D D' S hd gd=>?_⟩;unfold YH at hd;split at hd;rename_i ts et;obtain⟨init,J,rfl,hd⟩:=hd;obtain⟨p,vs,h1,v,R,h4⟩:=S.own l _ et;have lv:vs.length=init.length+1:=by rw[R.length];simp
 obtain⟨vl,y,rl⟩:=R.get (i:=init.length) (d:=.tuple J) (by simp);have Z:Reps X.K C.hd (Own C ρ σ) H vs.dropLast init:=by have:=R.take init.length;rw[List.take_left]at this;rw[List.dropLast_eq_take,lv];exact this
 obtain⟨q,ws,rfl,o,rq⟩:=rl.tupI;obtain⟨S2,Y⟩:=S.chg et h1 Z;have U:SqT X.K (upd H p (.lst vs.dropLast)) q ws:=by rcases o with o|o;rcases o with o|⟨u,o⟩;exact .inl (.inl (by rw[Jc (fun z=>by rw[z,v]at o;cases o)];exact o));exact .inl (.inr ⟨u,by rw[Jc (fun z=>by rw[z,v]at o;cases o)];exact o⟩);exact .inr o
 refine⟨.ref p,h1,.inl ⟨rfl,_,SqL.of v⟩,p,vs,.ref q,rfl,rfl,v,by rw[lv];exact y,?_⟩;exact⟨q,ws,rfl,U,(Y.reps S.hx rq).length.trans (ln J _ _ hd),hg C _ σ _ n ws J _ _ S2 (Y.reps S.hx rq) hd fun ρ' σ' hr S' kp _ _=>gd.nx ρ' σ' _ n hr S' (Y.trans kp)⟩;exact hd.elim
variable{ρ:En}{n l:Nat}{D:JL}{init us:qD}
theorem zqW[h1:GetN ρ l (some (.own (init++[.tuple us])))](h:SetK l (some (.own init)) (fun v C=>gs us v fun y=>D.nx y C) ρ n):YH l gs D ρ n:=by unfold YH;rw[h1.e];exact⟨init,us,rfl,h⟩
end
section
variable{X:Cx}{e:bg}{d:DTE}{p p2 p3 p4 pos:Pos}
theorem zi4:JI X (.builtin "isinstance") (fun xs H Q=>∃(i:Int) (p:aj),xs=[.int i,.ref p]/\H p=some (.tup [.ty "bool",.ty "int"])/\Q (.bl true) H):=by
 intro pins s σ H xs us Q I r h;obtain⟨i,p,rfl,C,q⟩:=h;cases r with
 | cons U R =>
  cases R with
  | cons N S =>
   cases S;obtain⟨tk,rfl⟩:=U;cases N;obtain⟨_,its,o,⟨oc,Z,dt,sl⟩,x,hc,⟨n,hd⟩,v⟩:=I.hok p _ C;cases o with
   | cons G o =>
    cases o with
    | cons L o =>
     cases o;cases G;cases L;dsimp only at hc hd v;subst hc hd v;have Y:kitOne X.K (.type "int") (.type "bool")=some false:=(QM X.K "int" "bool").trans (zgP (.int 0) "int" rfl);have J:kitOne X.K (.type "int") (.type "int")=some true:=(QM X.K "int" "int").trans (znr (.int 0) "int" rfl);have e:kitAny X.K (.type "int") [.type "bool",.type "int"]=some true:=by unfold kitAny;rw[Y];dsimp only;unfold kitAny;rw[J]
     exact kia_tup kitx_int I.kIn ip x e (fun z=>by cases z) fun tk=>⟨.bl true,H,I.tok tk,rfl,q⟩
def zrX(d:DTE):DTE:=fun v n R=>d v n fun t u=>(∃i,t=.int i)/\R (.bool true) u
instance zug {ρ:En}{n:Nat}{R:qN}:Stp (zrX d ρ n R) (d ρ n fun t n1=>(∃i,t=.int i)/\R (.bool true) n1):=⟨fun h=>h⟩
theorem zo8(hm:X.mg "isinstance" = none) (h1:X.mg "bool" = none) (Z:X.mg "int" = none) (h:DE X e d) {k:_} (Y:starEach (e::[.Tuple [.Name "bool" p2,.Name "int" p3] k p4]) X.env=(false,eval e X.env)::starEach [.Tuple [.Name "bool" p2,.Name "int" p3] k p4] X.env)
  (J:starEach [.Tuple [.Name "bool" p2,.Name "int" p3] k p4] X.env=[(false,eval (.Tuple [.Name "bool" p2,.Name "int" p3] k p4) X.env)]:=by rfl) (G:starEach [.Name "bool" p2,.Name "int" p3] X.env=(false,eval (.Name "bool" p2) X.env)::starEach [.Name "int" p3] X.env:=by rfl) (I:starEach [.Name "int" p3] X.env=[(false,eval (.Name "int" p3) X.env)]:=by rfl)
  (hg:Gl X "isinstance":=by rfl) (x:Gl X "bool":=by rfl) (y:Gl X "int":=by rfl) :
  DE X (.Call (.Name "isinstance" p) [e,.Tuple [.Name "bool" p2,.Name "int" p3] k p4] [] pos) (zrX d):=by
 obtain⟨ta,pa,h⟩:=h;refine⟨_,QT zi4 hm zig (JW pa (JW (zne (Qv (Bd.zoe h1 zcS x) (Qv (Bd.zoe Z boot_int y) Q3 I) G)) Qi J) Y) hg,fun C ρ σ H n Q R S hd hq=>?_⟩;refine h C ρ σ H n _ _ S hd fun t n1 v H1 L e1 h1 U=>?_;obtain⟨⟨i,rfl⟩,L⟩:=L;rw[U.intI];refine⟨by show 2<=sizeLine;rw[eT];decide,fun q o=>?_⟩;exact⟨i,q,rfl,Jo,hq _ n1 _ _ L (e1.trans (ExtE.new o)) (h1.same (JB o)) (.bl _)⟩
end
def zq9:ah->Bool|.list _=>true|_=>false
theorem zoD(y:String)(h:y∈["NoneType","bool","int","str","list","tuple","dict"]):kitB y "list" = some (decide (y = "list")):=by simp only[au,bq,or_false]at h;rcases h with rfl|rfl|rfl|rfl|rfl|rfl|rfl <;> decide +kernel
theorem zkN:∀t y,tyN t=some y->kitB y "list" = some (zq9 t):=fun t y e=>by rw[zoD y (Zk e)];unfold tyN at e;split at e <;> cases e <;> rfl
theorem zex:bootBuiltins "list" = some (.type "list"):=by decide +kernel
instance znP {i:Int}{R:ah->Prop}:Stp (lIsi zq9 (.int i) R) (R (.bool false)):=⟨fun h=>⟨Q6,h⟩⟩
end L2
namespace Bd
open PySem L2
def top(i:Nat):eK:=PySem.Challenge.pw_blockdeal_k15_patches_by_rules.main.body.getD i (.Pass ⟨0,0,0,0⟩)
set_option maxHeartbeats 4000000
local macro_rules | `(tactic| walk_at "S") => `(tactic| first | with_reducible refine ziq ?_ | with_reducible refine Stp.go ?_ | with_reducible refine j_all (by with_unfolding_all rfl) ?_ | with_reducible refine j_any (by with_unfolding_all rfl) ?_ | with_reducible refine zno (by with_unfolding_all rfl) ?_ | with_reducible refine znp (by with_unfolding_all rfl) ?_ | with_reducible refine zhT (by with_unfolding_all rfl) ?_ | with_reducible refine zhS (by with_unfolding_all rfl) ?_)
set_option hygiene false in
local macro_rules | `(tactic| walk_at "K") => `(tactic| first | walk_at "S" | with_reducible refine zrg (fun hc => ?_) (fun hc => ?_) | with_reducible refine ztR (fun hc => ?_) (fun hc => ?_) | with_reducible refine And.intro ?_ ?_)
set_option hygiene false in
local macro_rules | `(tactic| wp_walk using $ts:term,*) => `(tactic| repeat' (first $[| with_reducible refine $ts:term]* | walk_at "K"))
local macro_rules | `(tactic| wp_walk) => `(tactic| repeat' walk_at "K")
structure Txt(mg:qM):Prop where
 isi:mg "isinstance" = none
 int:mg "int" = none
 boo:mg "bool" = none
 tup:mg "tuple" = none
 len:mg "len" = none
 min:mg "min" = none
 max:mg "max" = none
 str:mg "str" = none
 rep:mg "repr" = none
 all:mg "all" = none
 any:mg "any" = none
 ran:mg "range" = none
 sum:mg "sum" = none
 srt:mg "sorted" = none
 lst:mg "list" = none
 abs:mg "abs" = none
 zip:mg "zip" = none
 dct:mg "dict" = none
 rev:mg "reversed" = none
 enu:mg "enumerate" = none
 vae:mg "ValueError" = none
section
variable{P:aJ}{w:a7}{K:qF}{mg:qM}{base:aW}{Z:ZZ}
def zfT:GD:=fun ts n R=>∃i h:Int,ts=[.tuple [.int i,.int h]]/\0<=h/\h<=1000/\R (.int (2 ^ h.toNat)) n
theorem zls{i h:Int}{n:Nat}{R:qN}(o:0<=h)(g1:h<=1000)(h':R (.int (2 ^ h.toNat)) n):zfT [.tuple [.int i,.int h]] n R:=⟨_,_,rfl,o,g1,h'⟩
def zfo(Z:ZZ):Prop:=FQ Z "size_of" (top 1) ["block"] 1 (spD Z.K 1 zfT)
theorem ziC(D:Dq Z.K Z.mg "size_of" (top 1) ["block"]) (T:Txt Z.mg):zfo Z:=by refine' okQ D (fnS (N:=["block"]) (by decide +kernel)) rfl fun f o A outer s H E v=>⟨_,(Jd (Jn (JX dli (dl (JT (dlv 0) dli))))),?_⟩;intro ts n R u l;obtain⟨i,h,rfl,x,g1,l⟩:=l;wp_walk;exact cpow (by lia) (by lia);rw[Zw];exact l
def zeY:GD:=fun ts n R=>∃i h g:Int,ts=[.tuple [.int i,.int h],.int g]/\0<=g/\g<=1000/\0<=i/\i<2 ^ 64/\R (.tuple [.int (i / 2 ^ g.toNat*2 ^ g.toNat),.int g]) n
theorem zmZ{i h g:Int}{n:Nat}{R:qN}(v:0<=g)(g1:g<=1000)(o:0<=i)(x:i<2 ^ 64)(h':R (.tuple [.int (i / 2 ^ g.toNat*2 ^ g.toNat),.int g]) n):zeY [.tuple [.int i,.int h],.int g] n R:=⟨_,_,_,rfl,v,g1,o,x,h'⟩
def zhs(Z:ZZ):Prop:=FQ Z "around" (top 2) ["block","height"] 1 (spD Z.K 2 zeY)
theorem zke(D:Dq Z.K Z.mg "around" (top 2) ["block","height"]) (T:Txt Z.mg):zhs Z:=by refine' okQ D (fnS (N:=["block","height"]) (by decide +kernel)) rfl fun f v A outer s H E C=>⟨_,(Jd (Jn (JR (dbc (JX (dl (zk8 (dl (JT (dlv 0) dli)) (dlv 1))) (dlv 1)) (dbv 1 Jb))))),?_⟩;intro ts n R x l;obtain⟨i,h,g,rfl,u,g1,o,y,l⟩:=l;simp only[zjp,zjq,zjo,u_dC,znF,zju,zjs,zjt,zgr,znG,zeB,zjr,zkw,Ze,YR,YS,YT,Zl,YU,YV,ZN,YJ,oSub,oMul,oMod,Uh,oShl,oShr,oXor,oAnd,isInt,isBool,isTup,l_gI,zoC,YZ,Yu,Yt,Yz,Yw,Yv,Y0,Y1,Y2,Y3,Ys,Yy,Yx,Zv,Zf,Zu,Q6,ZC,JS,Jl,capV,bp,gx,aL,cT,fY,kW,eN,fC,df,gj,iE,iz,mj,kX,kY,eS,Nat.reduceAdd,Nat.reduceSub,nY,true_and,and_true,aU,if_true,if_false,ite_true,ite_false,fU,gT,nE];refine⟨u,⟨u,by lia,?_⟩,l⟩;have:i / 2 ^ g.toNat<=i:=Int.ediv_le_self _ o;have:0<=i / 2 ^ g.toNat:=Int.ediv_nonneg o (cP (Qt _));lia
def zhY:GD:=fun ts n R=>∃i h:Int,ts=[.tuple [.int i,.int h]]/\0<=h/\h<=1000/\R (.int (i+2 ^ h.toNat)) n
theorem Zp{i h:Int}{n:Nat}{R:qN}(o:0<=h)(g1:h<=1000)(h':R (.int (i+2 ^ h.toNat)) n):zhY [.tuple [.int i,.int h]] n R:=⟨_,_,rfl,o,g1,h'⟩
def ZJ(Z:ZZ):Prop:=FQ Z "end_of" (top 6) ["block"] 2 (spD Z.K 1 zhY)
theorem zkd(D:Dq Z.K Z.mg "end_of" (top 6) ["block"]) (u:zfo Z) (T:Txt Z.mg):ZJ Z:=by refine' okQ D (fnS (N:=["block"]) (by decide +kernel)) rfl fun f o A outer s H E v=>⟨_,(Jd (Jn (Qc (dl (JT (dlv 0) dli)) (dl (Jf u v (dbv 0 Jb)))))),?_⟩;intro ts n R x l;obtain⟨i,h,rfl,y,g1,l⟩:=l;wp_walk using zls ?_ ?_ ?_;lia;lia;exact l
theorem ziW{hi:Int}(h:0<hi):Qn 0 hi hi.toNat.log2:=⟨by simp,by have:=zkr h;lia,fun z=>by have:=zkn h;have:=z.2;lia⟩
theorem zkP{lo hi:Int}{t:Nat}(h:lo<hi)(h1:lo % 2 ^ t=0)(u:¬lo % 2 ^ (t+1)=0):Qn lo hi (min (hi - lo).toNat.log2 t):=by have a:=zkr (i:=hi - lo) (by lia);have b:=zkn (i:=hi - lo) (by lia);rcases wy (hi - lo).toNat.log2 t with z|z;rw[kG z];exact⟨Uc z h1,a,fun y=>by have:=y.2;lia⟩;rw[Nat.min_eq_right z];exact⟨h1,eR (J9 z) a,fun y=>u y.1⟩
theorem zml(t:Nat):((2:Int) ^ t).toNat.log2=t:=by
 have e:((2:Int) ^ t).toNat=2 ^ t:=by
  have:((2 ^ t:Nat):Int)=(2:Int) ^ t:=by rw[gF];rfl
  rw[<- this];rfl
 rw[e,Nat.log2_two_pow]
def zbr:GD:=fun ts n R=>∃lo hi:Int,ts=[.int lo,.int hi]/\0<=lo/\lo<hi/\∀g:Nat,Qn lo hi g->R (.int g) n
theorem zcR{lo hi:Int}{n:Nat}{R:qN}(l:0<=lo)(o:lo<hi)(h:∀g:Nat,Qn lo hi g->R (.int g) n):zbr [.int lo,.int hi] n R:=⟨lo,hi,rfl,l,o,h⟩
def zbo(Z:ZZ):Prop:=FQ Z "greatest_height" (top 7) ["begin","high"] 1 (spD Z.K 2 zbr)
theorem zcr(D:Dq Z.K Z.mg "greatest_height" (top 7) ["begin","high"]) (T:Txt Z.mg):zbo Z:=by
 refine' okQ D (fnS (N:=["begin","high","room"]) (by decide +kernel)) rfl fun f x A outer s H E y=>⟨_,(Je (dsv 2 (ndB rfl) (Qd (dl (zf2 (dl (Qd (dlv 1) (dlv 0))))) dli)) (Je (JQ (J1 (Qe y) Qb (dlv 0) dli (JE _)) (Jd (Jn (Jr 2))) JZ) (Jd (Jn (JJ (Yl rfl) UW T.min Yk (Jk (dlv 2) (Jk (dl (Qd (dl (zf2 (dl (zrW (dlv 0) (dl (U2 (Jr 0))))))) dli)) JA YQ) Js)))))),?_⟩;intro ts n R C h;obtain⟨lo,hi,rfl,G,v,h⟩:=h;have room:=zdO (i:=hi - lo) (by lia);wp_walk;rw[room];subst hc;have:=h _ (ziW v);rw[Int.sub_zero];exact this;obtain⟨t,t1,t2⟩:=zsH (b:=lo) (by lia);have an:=zpl (b:=lo) (by lia) t1 t2;have u:=zdO (i:=(2:Int) ^ t) (Qt t);rw[zml]at u;rw[an,room,u];have:=h _ (zkP v t1 t2);have e:(if (t:Int)<((hi - lo).toNat.log2:Int) then(t:Int) else((hi - lo).toNat.log2:Int))=((min (hi - lo).toNat.log2 t:Nat):Int):=by split <;> lia
 rw[e];exact this
def UV:GD:=fun ts n R=>∃lo hi:Int,ts=[.int lo,.int hi]/\0<=lo/\lo<=hi/\hi<=2 ^ 64/\∀bs,Jh lo hi bs->R (.tuple (pD bs)) n
theorem znC{lo hi:Int}{n:Nat}{R:qN}(o:0<=lo)(v:lo<=hi)(l2:hi<=2 ^ 64)(h:∀bs,Jh lo hi bs->R (.tuple (pD bs)) n):UV [.int lo,.int hi] n R:=⟨lo,hi,rfl,o,v,l2,h⟩
def zjT(Z:ZZ):Prop:=FQ Z "span" (top 5) ["low","high"] 3 (spD Z.K 2 UV)
theorem zop(D:Dq Z.K Z.mg "span" (top 5) ["low","high"]) (Y:ZJ Z) (K3:zbo Z) (T:Txt Z.mg):zjT Z:=by
 refine' okQ D (fnS (N:=["low","high","blocks","begin","block"]) (by decide +kernel)) rfl fun f U A outer s H E C=>⟨_,(Je (Y9 (i:=2) (ndB rfl) rfl (iA rfl) (J6 Jb)) (Je (dsv 3 (ndB rfl) (Jr 0)) (Je (zh3 dN (J1 (zj9 C) zkQ (dlv 3) (dlv 1) (JE _)) (Je (dsv 4 (ndB rfl) (JR (dbv 3 (dbc (Jf K3 C (dbv 3 (dbv 1 Jb))) Jb)))) (Je (Qx 2 (Jr 4)) (Jd (dsv 3 (ndB rfl) (Jf Y C (dbv 4 Jb))))))) (Yi 2 (Jd (Jn (YC ZW Zt T.tup Ub (Jk (dlv 2) JA Js)))))))),?_⟩;intro ts n R hl h;obtain⟨lo,hi,rfl,l0,l1,l2,h⟩:=h;obtain⟨all,A⟩:=zjA _ lo hi (aD _) l1;have al:=A.len l0 l2;wp_walk;refine zjk (fun m L J=>J=n/\∃(bs rest:qB) (y:Int) (I:Option Cell),L=[some (.val (.int lo)),some (.val (.int hi)),some (.own (pD bs)),some (.val (.int y)),I]/\all=bs++rest/\Jh y hi rest/\lo<=y/\m=rest.length) (m:=all.length) ⟨rfl,[],all,lo,_,rfl,rfl,A,aV _,rfl⟩ ?_;rintro m L J NX RT BK ⟨rfl,bs,rest,y,I,rfl,x,S,lb,rfl⟩ hN hR hB;wp_walk
 ·cases rest with
  | nil=>have:y=hi:=S;lia
  | cons b r =>
   obtain⟨s1,s2,s3,s4,s5⟩:=S;refine zcR (by lia) hc fun g G=>?_;have eg:b.2.toNat=g:=s4.uniq G;have eb:b=(y,(g:Int)):=fJ s2 (by show b.2=(g:Int);lia);have gl:g<=64:=by
    rcases cx 64 g with z|z;have:=J9 (show 65<=g by lia);have:=G.2.1;have e:(2:Int) ^ 65=2*2 ^ 64:=by decide
    lia;exact z
   wp_walk using Zp (by lia) (by lia) ?_;rw[JM];have:=congrArg fI x;rw[aS]at this;lia;refine hN r.length _ _ (by simp) ⟨rfl,bs++[b],r,y+2 ^ (g:Int).toNat,some (.val (.tuple [.int y,.int (g:Int)])),by rw[eb,<- Q1],by rw[x];simp,?_,?_,rfl⟩;rw[eg]at s5;simpa using s5;have:=Qt (g:Int).toNat;lia
 ·have e:y=hi:=by have:=S.le;lia
  cases rest with
  | cons b r=>have:=S.1;lia
  | nil =>refine hB _ _ ?_;wp_walk;rw[df]at x;rw[<- x];exact h _ A
def zeo:GD:=fun ts n R=>∃rs:List (Int×Int),ts=[.list (pD rs)]/\(∀r∈rs,0<=r.1/\r.1<=r.2/\r.2<=2 ^ 64)/\rs.length<=100000/\∀ps,PatS rs ps->R (.tuple (pD ps)) n
theorem zi5{rs:qB}{n:Nat}{R:qN}(w:∀r∈rs,0<=r.1/\r.1<=r.2/\r.2<=2 ^ 64)(l:rs.length<=100000)(h:∀ps,PatS rs ps->R (.tuple (pD ps)) n):zeo [.list (pD rs)] n R:=⟨rs,rfl,w,l,h⟩
theorem zj3:∀{rs:qB},(∀r∈rs,r.1<=r.2)->∃ps,PatS rs ps
 | [],_=>⟨[],rfl⟩
 | r::rs,h=>by obtain⟨a,A⟩:=zjA _ r.1 r.2 (aD _) (h r (by simp));obtain⟨b,B⟩:=zj3 (rs:=rs) fun s l=>h s (by simp[l]);exact⟨a++b,a,b,rfl,A,B⟩
theorem zid{g:DTG}{d:DTE}{o:En}{n:Nat}{u:List ah->Nat->Prop}:∀(xs acc:qD),(∀x∈xs,∀K:ah->Nat->Prop,K x n->g x o fun l=>d l n K)->acc.length+xs.length<=16777216->u (acc++xs) n->JD g dYes d o xs acc n u
 | [],acc,_,_,h=>by simpa[JD] using h
 | x::xs,acc,hg,hl,h=>by
  have e:(fun l=>dYes l n fun b v=>if b=true then d l v fun t C=>acc.length<16777216/\JD g dYes d o xs (acc++[t]) C u else JD g dYes d o xs acc v u)=fun l=>d l n fun t C=>acc.length<16777216/\JD g dYes d o xs (acc++[t]) C u:=by funext l;exact propext ⟨fun z=>by simpa[dYes] using z,fun z=>by simpa[dYes] using z⟩
  show g x o fun l=>dYes l n fun b v=>if b=true then d l v fun t C=>acc.length<16777216/\JD g dYes d o xs (acc++[t]) C u else JD g dYes d o xs acc v u
  rw[e];refine hg x (by simp) _ ⟨by simp at hl;lia,zid xs (acc++[x]) (fun y G=>hg y (by simp[G])) (by simp at hl ⊢;lia) (by simpa using h)⟩
def zeh(Z:ZZ):Prop:=FQ Z "patch_of" (top 8) ["runs"] 4 (spD Z.K 1 zeo)
theorem zgC(D:Dq Z.K Z.mg "patch_of" (top 8) ["runs"]) (Lk:zjT Z) (T:Txt Z.mg):zeh Z:=by
 refine' okQ D (fnS (N:=["runs"]) (by decide +kernel)) rfl fun f U A outer s H E I=>⟨_,(Jd (Jn (YC ZW Zt T.tup Ub (Jk (dl (Jm (zh5 (own:=["low","high","block"]) (capt:=[]) rfl (JC.of rfl) (dil (znx (Jr 0))) (fun _ _ _ _=>(J5 rfl (Jt (dgv 0 (ndB rfl)) (Jt (dgv 1 (ndB rfl)) JY)))) (by decide) (fun _ _ _ _=>Q4) (fun _ _ _ _=>(U3 (Jf Lk I (dbv 0 (dbv 1 Jb))))) (fun _ _ _ _=>(dgv 2 (ndB rfl))) (by decide) (fun _ _ _ _=>Q4) (fun _ _ _ _=>(Jr 2))))) JA U8)))),?_⟩;intro ts n R hl h;obtain⟨rs,rfl,w,l,h⟩:=h;wp_walk;have key:∀(rs:qB) (acc ps:qB),(∀r∈rs,0<=r.1/\r.1<=r.2/\r.2<=2 ^ 64)->acc.length+130*rs.length<=16777216->PatS rs ps->∀K:List ah->Nat->Prop,K (pD (acc++ps)) n ->
   Qo (Uf (QC (Qf 0) (QC (Qf 1) Ue))) dYes (dItT (dFn UV (Qa (dVar 0) (Qa (dVar 1) dNil)))) (Qf 2) dYes (dVar 2) [none,none,none] (pD rs) (pD acc) n K:=by
  intro rs;induction rs with
  | nil =>intro acc ps _ _ P K C;cases(show ps=[] from P);rw[df]at C;exact C
  | cons r rs S =>
   intro acc ps w la P K C;obtain⟨a,b,rfl,J,Pb⟩:=P;have v:=w r (by simp);have ll:=J.len v.1 v.2.2;show Uf (QC (Qf 0) (QC (Qf 1) Ue)) (.tuple [.int r.1,.int r.2]) [none,none,none] fun o=>dYes o n fun b L=>if b=true then dItT (dFn UV (Qa (dVar 0) (Qa (dVar 1) dNil))) o L fun ts n3=>JD (Qf 2) dYes (dVar 2) o ts (pD acc) n3 fun y n4=>Qo (Uf (QC (Qf 0) (QC (Qf 1) Ue))) dYes (dItT (dFn UV (Qa (dVar 0) (Qa (dVar 1) dNil)))) (Qf 2) dYes (dVar 2) [none,none,none] (pD rs) y n4 K else _
   rw[aL]at la;wp_walk using znC v.1 v.2.1 v.2.2 (fun bs B=>?_);rw[B.uniq J];refine zid _ _ (fun x hx K2 G=>?_) (by rw[JM,JM];lia) ?_
   ·wp_walk;exact G
   rw[zj7];exact S (acc++a) b (fun s Y=>w s (by simp[Y])) (by rw[aS];lia) Pb K (by rw[aY];exact C)
 obtain⟨ps,P⟩:=zj3 (rs:=rs) fun r I=>(w r I).2.1;refine key rs [] ps w (by simp;lia) P _ ?_;wp_walk;exact h ps P
theorem zoF{bits:Int}{bs:qB}{t:ah}{C:List ah->Prop}(S:t=.list (pD bs)\/t=.tuple (pD bs))(v:bits<=64)(B:Bks bits bs)(I:bs.length<100000)
  (h:∀cs:List (Int×Int),cs.Perm bs->cs.Pairwise (fun a b=>a.1<=b.1)->C (pD cs)):UK t C:=by
 have key:(pD bs).length<100000/\(∀x∈pD bs,IsPr x)/\∀o:List ah,o.Perm (pD bs)->o.Pairwise (fun a b=>rkD a<=rkD b)->C o:=by
  refine⟨by rw[JM];exact I,fun x hx=>?_,fun o pm pw=>?_⟩;obtain⟨b,G,rfl⟩:=cE.mp hx;have:=B b G;exact⟨b.1,b.2,rfl,this.1,by have:=this.2.1;lia⟩;have J:o.Perm ((bs.map fun b=>(b,prD b)).map (·.2)):=by
   have:(bs.map fun b=>(b,prD b)).map (·.2)=pD bs:=by simp[pD]
   rw[this];exact pm
  obtain⟨zs,N,p2⟩:=Ux J;have Y:∀z∈zs,z.2=prD z.1:=fun z hz=>by obtain⟨b,_,rfl⟩:=cE.mp (N.mem_iff.mp hz);rfl
  have e:o=pD (zs.map (·.1)):=by rw[<- p2];unfold pD;rw[cD];exact e9 fun z hz=>Y z hz
  have pc:(zs.map (·.1)).Perm bs:=by
   have:=N.map (·.1);rw[cD]at this;have U:bs.map ((fun x:(Int×Int)×ah=>x.1)∘fun b=>(b,prD b))=bs:=by show bs.map id=bs;exact xJ _
   rwa [U]at this
  rw[e];have y:Bks bits (zs.map (·.1)):=fun b v=>B b (pc.mem_iff.mp v);rw[e]at pw;unfold pD at pw;rw[cz]at pw;refine h _ pc (mU ?_ pw);intro a b L v R;have R:a.1*1000+a.2<=b.1*1000+b.2:=R;have a0:=(y a L).1;have a1:=(y a L).2.1;have b0:=(y b v).1;have b1:=(y b v).2.1;lia
 rcases S with rfl|rfl <;> exact key
def zfV:GD:=fun ts n R=>∃(bits:Int) (bs:qB) (t:ah),ts=[t]/\(t=.list (pD bs)\/t=.tuple (pD bs))/\0<=bits/\bits<=64/\Bks bits bs/\bs.length<100000/\∀rs,NR rs->(∀x,mR x rs↔mB x bs)->rs.length<=bs.length->R (.list (pD rs)) n
theorem zlv{bits:Int}{bs:qB}{t:ah}{n:Nat}{R:qN}(o:t=.list (pD bs)\/t=.tuple (pD bs))(y:0<=bits)(v:bits<=64)(B:Bks bits bs)(l:bs.length<100000)(h:∀rs,NR rs->(∀x,mR x rs↔mB x bs)->rs.length<=bs.length->R (.list (pD rs)) n):zfV [t] n R:=⟨bits,bs,t,rfl,o,y,v,B,l,h⟩
def zfq(Z:ZZ):Prop:=FQ Z "runs_of" (top 9) ["blocks"] 3 (spD Z.K 1 zfV)
theorem ziE(D:Dq Z.K Z.mg "runs_of" (top 9) ["blocks"]) (KZ:ZJ Z) (T:Txt Z.mg):zfq Z:=by
 refine' okQ D (fnS (N:=["blocks","runs","block","low","high"]) (by decide +kernel)) rfl fun f cdv A outer s H E G=>⟨_,(Je (Y9 (i:=1) (ndB rfl) rfl (iA rfl) (J6 Jb)) (Je (QK dN rfl (Uq (Jm (zfZ G T.srt (dlv 0) Js))) (dgv 2 (ndB rfl)) (Jd (JQ (UM (zkU (Qw (Uj 1)) (zgS (J1 zka zkR (dl (JT (dlv 2) dli)) (dl (JT (dl (JT (Uj 1) (dl (U2 Jg)))) dli)) (JE _))))) (Je (znw (JT (Uj 1) (dl (U2 Jg))) (J5 rfl (Jt (dgv 3 (ndB rfl)) (Jt (dgv 4 (ndB rfl)) JY)))) (Jd (zrO 1 (U2 Jg) (JR (dbv 3 (dbc (JJ (ZB rfl) YX T.max Zz (Jk (dlv 4) (Jk (dl (Jf KZ G (dbv 2 Jb))) JA Ut) Js)) Jb)))))) (Jd (Qx 1 (JR (dbc (JT (dlv 2) dli) (dbc (Jf KZ G (dbv 2 Jb)) Jb)))))))) (Yi 1 (Jd (Jn (Jr 1)))))),?_⟩;intro ts n R hl h;obtain⟨bits,bs,t,rfl,ht,b0,b1,B,l,h⟩:=h;wp_walk;refine zoF ht b1 B l fun cs pm pw=>?_;have Bc:Bks bits cs:=fun b C=>B b (pm.mem_iff.mp C);have lc:=pm.length_eq;refine zkS 1 2 3 4 (fun k a1 _ _ _ m=>m=n/\∃rs:List (Int×Int),a1=some (.own (pD rs))/\NR rs/\(∀x,mR x rs↔mB x (cs.take k))/\rs.length<=k/\∀r∈rs,∀b∈cs.drop k,r.1<=b.1) ⟨rfl,[],rfl,⟨(fun r G=>nomatch G),.nil⟩,(fun x=>⟨fun z=>absurd z Y5,fun z=>absurd z Y4⟩),aD _,fun r G=>nomatch G⟩ ?_ ?_
 ·rintro k t' a1 a2 a3 a4 m K RT BK et ⟨rfl,rs,rfl,J,me,lr,lo⟩ hK hRT hBK;obtain⟨i,g,eb,rfl⟩:=zj6 et;have kl:=(aH.mp eb).1;have Bb:=Bc _ (aP eb);have g0:0<=g:=Bb.1;have g1:g<=bits:=Bb.2.1;have pg:=Qt g.toNat;have tk:cs.take (k+1)=cs.take k++[(i,g)]:=by rw[gR,eb];rfl
  have S:cs.drop k=(i,g)::cs.drop (k+1):=by rw[br kl];congr 1;have:=av kl;rw[eb]at this;exact(aQ this).symm
  have after:∀b∈cs.drop (k+1),i<=b.1:=fun b C=>by have:cs.Pairwise fun a b=>a.1<=b.1:=pw;have:=(this.sublist (mM k cs));rw[S]at this;exact(bo.mp this).1 b C
  have m1:∀x,mB x (cs.take (k+1))↔mB x (cs.take k)\/(i<=x/\x<i+2 ^ g.toNat):=fun x=>by rw[tk,znl,zkl];constructor;rintro(z|z|z);exact .inl z;exact .inr z;exact absurd z Y4;rintro(z|z);exact .inl z;exact .inr (.inl z)
  have new:(∀r∈rs,r.2<i)->∀c2 c3 c4,K [some (.val t),some (.own (pD rs++[.tuple [.int i,.int (i+2 ^ g.toNat)]])),c2,c3,c4] m:=fun hlt c2 c3 c4 =>
   hK _ _ _ _ _ ⟨rfl,rs++[(i,i+2 ^ g.toNat)],by rw[<- Q1],⟨fun r G=>by
    rcases aC.mp G with z|z;exact J.1 r z;cases aF.mp z;show i<i+2 ^ g.toNat;lia,by
    rw[eW];exact⟨J.2,iF _ _,fun a ha b C=>by cases aF.mp C;exact hlt a ha⟩⟩,(fun x=>by
    rw[zkk,me,m1,Zg];constructor;rintro(z|z|z);exact .inl z;exact .inr z;exact absurd z Y5;rintro(z|z);exact .inl z;exact .inr (.inl z)),by simp;lia,fun r G b C=>by
    rcases aC.mp G with z|z;exact lo r z b (by rw[S];simp[C]);cases aF.mp z;exact after b C⟩
  rcases oB rs with rfl|⟨I,r,rfl⟩
  ·wp_walk using Zp g0 (by lia) ?_;show 0<16777216;decide;exact new (fun r G=>nomatch G) _ _ _;exact absurd hc (by simp[pD])
  ·rw[oC]at *;have sn:pD (I++[r])=pD I++[.tuple [.int r.1,.int r.2]]:=by simp[pD]
   have lr':I.length+1<=k:=by simpa using lr
   have r12:=J.1 r (by simp);have rlo:r.1<=i:=lo r (by simp) (i,g) (by rw[S];simp);have L:=eW.mp J.2;rw[sn]at new ⊢;wp_walk using zmz ?_,Zp g0 (by lia) ?_;all_goals first
    | (exfalso;simp at hc;done)
    | (exfalso;rename_i y;simp at y;done)
    | (simp[JM];lia)
    | skip
   ·refine zqf zhO ?_;wp_walk;rw[List.set_append_right _ _ (aD _),nY];have mx:(if i+2 ^ g.toNat > r.2 then i+2 ^ g.toNat else r.2)=max r.2 (i+2 ^ g.toNat):=by split <;> lia
    refine hK _ _ _ _ _ ⟨rfl,I++[(r.1,max r.2 (i+2 ^ g.toNat))],?_,⟨fun s U=>?_,?_⟩,fun x=>?_,by simp;lia,fun s U b C=>?_⟩;rw[mx];simp[pD];rcases aC.mp U with z|z;exact J.1 s (by simp[z]);cases aF.mp z;show r.1<max r.2 _;lia;rw[eW];exact⟨L.1,iF _ _,fun a ha b C=>by cases aF.mp C;exact L.2.2 a ha r (by simp)⟩;have Y:=me x;rw[zkk,Zg]at Y;rw[zkk,Zg,m1,<- Y];have nn:=Y5 (x:=x);show _\/(r.1<=x/\x<max r.2 (i+2 ^ g.toNat))\/_↔_;constructor;rintro(z|z|z);exact .inl (.inl z);by_cases w:x<r.2;exact .inl (.inr (.inl ⟨z.1,w⟩));exact .inr (by lia);exact absurd z nn;rintro((z|z|z)|z);exact .inl z;exact .inr (.inl (by lia));exact absurd z nn;exact .inr (.inl (by lia));rcases aC.mp U with z|z;exact lo s (by simp[z]) b (by rw[S];simp[C]);cases aF.mp z;exact lo r (by simp) b (by rw[S];simp[C])
   refine new (fun s U=>?_) _ _ _;rcases aC.mp U with z|z;have:=L.2.2 s z r (by simp);have:=J.1 r (by simp);lia;cases aF.mp z;lia
 ·rintro a1 a2 a3 a4 m ⟨rfl,rs,rfl,J,me,lr,lo⟩;rw[JM]at me lr;rw[ny]at me;wp_walk;exact h rs J (fun x=>by rw[me x,zow pm]) (by lia)
def zhX:GD:=fun ts n R=>∃(bits:Int) (bs:qB) (t:ah),ts=[t]/\(t=.list (pD bs)\/t=.tuple (pD bs))/\0<=bits/\bits<=64/\Bks bits bs/\bs.length<100000/\∀ps,CanP (fun x=>mB x bs) ps->ps.length<=bs.length->R (.tuple (pD ps)) n
theorem zmY{bits:Int}{bs:qB}{t:ah}{n:Nat}{R:qN}(o:t=.list (pD bs)\/t=.tuple (pD bs))(y:0<=bits)(v:bits<=64)(B:Bks bits bs)(l:bs.length<100000)(h:∀ps,CanP (fun x=>mB x bs) ps->ps.length<=bs.length->R (.tuple (pD ps)) n):zhX [t] n R:=⟨bits,bs,t,rfl,o,y,v,B,l,h⟩
def zhr(Z:ZZ):Prop:=FQ Z "fewest" (top 4) ["blocks"] 5 (spD Z.K 1 zhX)
theorem zkc(D:Dq Z.K Z.mg "fewest" (top 4) ["blocks"]) (J:zeh Z) (L:zfq Z) (T:Txt Z.mg):zhr Z:=by refine' okQ D (fnS (N:=["blocks"]) (by decide +kernel)) rfl fun f I A outer s H E v=>⟨_,(Jd (Jn (Jf J v (dbc (Jf L v (dbv 0 Jb)) Jb)))),?_⟩;intro ts n R U h;obtain⟨bits,bs,t,rfl,G,o,y,B,l,h⟩:=h;wp_walk using zlv G o y B l (fun rs u me S=>?_);have w:=ztq o y u me fun x hx=>zr0 o B hx;wp_walk using zi5 w ?_ (fun ps P=>?_);lia;have C:CanP (fun x=>mB x bs) ps:=⟨rs,u,me,P⟩;exact h ps C (C.le o B)
theorem zm5{rs:RL}{b:Int×Int}:valT (kR rs) b=(sgAt rs b).map cg:=by unfold valT kR sgAt;rw[List.find?_map];simp[fL]
theorem ZK{bits:Int}{rs:RL}(h:Rls0 bits rs):Rok rs:=zp9 (bits:=bits) (fun r l=>⟨(h.1 r l).1,by have:=(h.1 r l).2;lia⟩) h.2
theorem zr4{a:Int}{k:Nat}:inb (a / 2 ^ k*2 ^ k,(k:Int)) a:=by have pp:(0:Int)<2 ^ k:=Qt k;have:=oD a (2 ^ k);have h1:=ie a (show(2:Int) ^ k≠0 by lia);have l:=gA a pp;rw[cQ]at this;constructor;show a / 2 ^ k*2 ^ k<=a;lia;show a<a / 2 ^ k*2 ^ k+2 ^ (k:Int).toNat;rw[bQ];lia
def zfU:GD:=fun ts n R=>∃(bits:Int) (rs:RL) (a:Int),ts=[.int bits,.dict (JF (kR rs)),.int a]/\0<=bits/\bits<=64/\Rls0 bits rs/\0<=a/\a<2 ^ bits.toNat/\∀s,SgX rs a s->R (.int s) n
theorem zlu{bits:Int}{rs:RL}{a:Int}{n:Nat}{R:qN}(u:0<=bits)(l:bits<=64)(Q:Rls0 bits rs)(o:0<=a)(a1:a<2 ^ bits.toNat)(h:∀s,SgX rs a s->R (.int s) n):zfU [.int bits,.dict (JF (kR rs)),.int a] n R:=⟨bits,rs,a,rfl,u,l,Q,o,a1,h⟩
def zfp(Z:ZZ):Prop:=FQ Z "sign_at" (top 12) ["bits","signs","address"] 2 (spD Z.K 3 zfU)
theorem ziD(D:Dq Z.K Z.mg "sign_at" (top 12) ["bits","signs","address"]) (Lr:zhs Z) (T:Txt Z.mg):zfp Z:=by
 refine' okQ D (fnS (N:=["bits","signs","address","height","block"]) (by decide +kernel)) rfl fun f cdv A outer s H E x=>⟨_,(Je (QK dN rfl (Ym T.ran (Qc (dlv 0) dli)) (dgv 3 (ndB rfl)) (Je (dsv 4 (ndB rfl) (Jf Lr x (dbc (JR (dbv 2 (dbc Jg Jb))) (dbv 3 Jb)))) (Jd (JQ (J1 (zqC (zjN x)) zrA (dlv 4) (dlv 1) rfl) (Jd (Jn (zrT (zjN x) (dlv 1) (dlv 4)))) JZ)))) (Jd (Jn Jg))),?_⟩;intro ts n R hl hh;obtain⟨bits,rs,a,rfl,b0,b1,Q,a0,a1,h⟩:=hh;have RK:=ZK Q;have a2:a<2 ^ 64:=Int.lt_of_lt_of_le a1 (J9 (show bits.toNat<=64 by lia));wp_walk;lia;lia;refine znu 3 4 (fun k _ _ m=>m=n/\∀r∈rs,inb r.1 a->(k:Int)<=r.1.2) ⟨rfl,fun r x _=>(Q.1 r x).1.1⟩ ?_ ?_
 ·rintro k t x1 x2 m K RT BK et ⟨rfl,inv⟩ hK hRT hBK;obtain⟨hk,rfl⟩:=ZP et;obtain⟨j,ej⟩:∃j:Int,j=(0:Int)+(k:Int):=⟨_,rfl⟩;rw[<- ej];have S:0<=j:=by lia
  have j1:j<=1000:=by lia
  obtain⟨v,rfl⟩:∃v:Nat,j=(v:Int):=⟨j.toNat,by lia⟩;have ek:v=k:=by lia
  subst ek;have I:=zr4 (a:=a) (k:=v);have al:Aln (a / 2 ^ v*2 ^ v,(v:Int)):=⟨S,a / 2 ^ v,by rw[bQ]⟩;obtain⟨b,J⟩:∃b:Int×Int,b=(a / 2 ^ ((v:Int)).toNat*2 ^ ((v:Int)).toNat,(v:Int)):=⟨_,rfl⟩;have L:b=(a / 2 ^ v*2 ^ v,(v:Int)):=by rw[J,bQ]
  rw[<- L]at I al;have e1:a / 2 ^ ((v:Int)).toNat*2 ^ ((v:Int)).toNat=b.1:=by rw[J]
  have G:(v:Int)=b.2:=by rw[J]
  have ca:∀{Y:qN} {U:Nat},Y (.tuple [.int b.1,.int b.2]) U->zeY [.tuple [.int a,.int 0],.int (v:Int)] U Y:=fun x=>zmZ S j1 a0 a2 (by rw[e1,G];exact x);cases es:sgAt rs b with
  | none =>
   have y:valT (kR rs) b=none:=by rw[zm5,es];rfl
   wp_walk using ca ?_,zri (k:=b) ?_;rw[y]at hc;cases hc;refine hK _ _ _ ⟨rfl,fun r x C=>?_⟩;have:=inv r x C;rcases iB this with z|z
   push_cast;lia
   exact absurd (Zo (RK.1 r x).1 al (by rw[<- z,G]) C I) (ZE es r x)
  | some s =>
   have y:valT (kR rs) b=some (.int s):=by rw[zm5,es];rfl
   wp_walk using ca ?_,zri (k:=b) ?_,ztQ y ?_;exact hRT _ _ (h s (.inr ⟨(b,s),ZL es,I,rfl,fun q hq iq=>by show b.2<=q.1.2;rw[<- G];exact inv q hq iq⟩));rw[y]at hc;cases hc
 ·rintro x1 x2 m ⟨rfl,inv⟩;rw[zix]at inv;wp_walk;refine h 0 (.inl ⟨rfl,fun r x C=>?_⟩);have:=inv r x C;have:=(Q.1 r x).1.2.1;lia
theorem zfW{α:Type}{m:Nat}:∀{l:List (List α)},(∀c∈l,c.length<=m)->l.flatten.length<=m*l.length
 | [],_=>cw _
 | c::l,h=>by have:=zfW (l:=l) fun d hd=>h d (.tail _ hd);have:=h c (.head _);rw[List.flatten_cons,aS,aL,Nat.mul_succ];lia
theorem zja{l m:List Int}:zipD (l.map cg) (m.map cg)=(l.zip m).map fun q=>nZ [.int q.1,.int q.2]:=by unfold zipD;rw[wo,cD];rfl
theorem znV{bits:Int}{rs:RL}(h:Rls bits rs):Rls0 bits rs:=⟨h.1,cz.mpr (h.2.imp fun {a b} z e=>by rw[e]at z;unfold bkLt at z;lia)⟩
theorem zqa{rs:RL}:L2.rD rs=(kR rs).map prT:=by unfold L2.rD kR;rw[cD];rfl
def zcL:GD:=fun ts n R=>∃(bits:Int) (rs:RL),ts=[.int bits,.tuple (L2.rD rs)]/\0<=bits/\bits<=64/\Rls bits rs/\rs.length<=100/\∀ps,CanP (fun x=>SgX rs x 1) ps->ps.length<=260*rs.length->R (.tuple (pD ps)) n
theorem zew{bits:Int}{rs:RL}{n:Nat}{R:qN}(v:0<=bits)(o:bits<=64)(Q:Rls bits rs)(l:rs.length<=100)(h:∀ps,CanP (fun x=>SgX rs x 1) ps->ps.length<=260*rs.length->R (.tuple (pD ps)) n):zcL [.int bits,.tuple (L2.rD rs)] n R:=⟨bits,rs,rfl,v,o,Q,l,h⟩
def zcG(Z:ZZ):Prop:=FQ Z "patch_by" (top 11) ["bits","rules"] 6 (spD Z.K 2 zcL)
theorem zgD(D:Dq Z.K Z.mg "patch_by" (top 11) ["bits","rules"]) (Ls:zhr Z) (Lm:zfp Z) (Lk:zjT Z) (KZ:ZJ Z) (T:Txt Z.mg):zcG Z:=by
 refine' okQ D (fnS (N:=["bits","rules","signs","edges","runs"]) (by decide +kernel)) rfl fun f cdv A outer s H E U=>⟨_,(Je (dsv 2 (ndB rfl) (zmR rfl U.units T.dct (Jr 1))) (Je (dsv 3 (ndB rfl) (Jm (ziZ T.srt (own:=["block","sign","edge"]) (capt:=[]) rfl (JC.of rfl) (dil (U3 (Jr 1))) (fun _ _ _ _=>(J5 rfl (Jt (dgv 0 (ndB rfl)) (Jt (dgv 1 (ndB rfl)) JY)))) (by decide) (fun _ _ _ _=>Q4) (fun _ _ _ _=>(U3 (JR (dbc (JT (dlv 0) dli) (dbc (Jf KZ U (dbv 0 Jb)) Jb))))) (fun _ _ _ _=>(dgv 2 (ndB rfl))) (by decide) (fun _ _ _ _=>Q4) (fun _ _ _ _=>(Jr 2))))) (Je (zo2 (zmQ (i:=4) (ndB rfl) rfl (iA rfl) (own:=["low","high"]) (capt:=[0,2]) rfl (JC.of rfl) (dil (Y7 T.zip (Jr 3) (Jm (Zq (dlv 3) (Ur Jg) Zn)))) (fun _ _ _ _=>(J5 rfl (Jt (dgv 0 (ndB rfl)) (Jt (dgv 1 (ndB rfl)) JY)))) (by decide) (fun _ _ _ _=>(zoZ (J1 (Qe U) Qb (dl (Jf Lm U (dbv 2 (dbv 3 (dbv 0 Jb))))) dli (JE _)))) (fun _ _ _ _=>(JR (dbv 0 (dbv 1 Jb)))))) (Jd (Jn (Jf Ls U (dbc (Jm (zh5 (own:=["low","high","block"]) (capt:=[]) rfl (JC.of rfl) (dil (Uq (Jr 4))) (fun _ _ _ _=>(J5 rfl (Jt (dgv 0 (ndB rfl)) (Jt (dgv 1 (ndB rfl)) JY)))) (by decide) (fun _ _ _ _=>Q4) (fun _ _ _ _=>(U3 (Jf Lk U (dbv 0 (dbv 1 Jb))))) (fun _ _ _ _=>(dgv 2 (ndB rfl))) (by decide) (fun _ _ _ _=>Q4) (fun _ _ _ _=>(Jr 2)))) Jb))))))),?_⟩;intro ts n R hl hh;obtain⟨bits,rs,rfl,b0,b1,Q,l,h⟩:=hh;have Q0:=znV Q;have RK:=ZK Q0;have p64:(2:Int) ^ bits.toNat<=2 ^ 64:=J9 (by lia);wp_walk;refine⟨kR rs,by rw[zqa],by rw[show(kR rs).map (·.1)=rs.map (·.1) from by simp[kR]];exact Q0.2,?_⟩;wp_walk;unfold L2.rD;refine zjI (cs:=rs) (fun r=>[r.1.1,eB r.1]) (fun _=>aD _) (by lia) ?_ ?_
 ·intro r U acc K ha hK;have B:=(Q0.1 r U).1;have h0:0<=r.1.2:=B.1;have h1:r.1.2<=1000:=by have:=B.2.1;lia
  wp_walk using Zp h0 h1 ?_;refine⟨_,rfl,by lia,?_⟩;wp_walk;refine⟨_,rfl,by rw[aS,eI];lia,?_⟩;wp_walk;rw[aY];exact hK
 ·refine⟨?_,fun y E=>?_⟩;have:=zfX (rs:=rs);unfold QH at this;lia;have E:Edg (QH rs) y:=E;have lj:=zoY E;rw[zfX]at lj;have I:∀e∈y,0<=e/\e<=2 ^ bits.toNat:=fun e he=>by
   obtain⟨r,U,z⟩:=Yn.mp ((E.2 e).mp he);have b:=((Q0.1 r U).1).bounds b0;have:=Qt r.1.2.toNat;unfold eB at z;lia
  wp_walk;rw[zh_,<- vo,zja]
  classical
  refine zgW (cs:=y.zip y.tail) (fun q=>decide (SgX rs q.1 1)) (fun q=>nZ [.int q.1,.int q.2]) (by rw[kN];lia) ?_ ?_
  ·intro q L K X h1 h2;obtain⟨z1,z2,z3,z4⟩:=U9 E.1 q L;have r1:=I _ z1;have r2:=I _ z2;wp_walk using zlu b0 b1 Q0 r1.1 (by lia) (fun s hs=>?_);exact h1 (decide_eq_true (hc▸hs));exact h2 (decide_eq_false fun z=>hc (zeG RK hs z))
  ·wp_walk;refine zln (cs:=(y.zip y.tail).filter fun q=>decide (SgX rs q.1 1)) (D:=fun q=>nZ [.int q.1,.int q.2]) (G:=prD) (P:=fun q v=>Jh q.1 q.2 v/\v.length<=130) 130 (fun _ _ z=>z.2) ?_ ?_
   ·intro q L acc K X ha hK;obtain⟨z1,z2,z3,z4⟩:=U9 E.1 q (fA.mp L).1;have r1:=I _ z1;have r2:=I _ z2;have lf:((y.zip y.tail).filter fun q=>decide (SgX rs q.1 1)).length<=200:=bZ (iX ..) (by rw[kN];lia);wp_walk using znC r1.1 (by lia) (by lia) (fun v S=>?_);have lu:=S.len r1.1 (by lia);refine zes (cs:=v) (D:=prD) prD ?_ v acc (fun _ h=>h) (by lia) (hK v ⟨S,lu⟩);intro c hc K X hK;wp_walk;exact hK
   ·intro J el pw;have pm:∀v∈J,∃q∈y.zip y.tail,SgX rs q.1 1/\Jh q.1 q.2 v/\v.length<=130:=fun v hu=>by
     obtain⟨i,hi⟩:=oE.mp hu;have il:=(aH.mp hi).1;have gi:=av (l:=(y.zip y.tail).filter fun q=>decide (SgX rs q.1 1)) (i:=i) (by lia);have:=pw i _ v gi hi;obtain⟨m1,m2⟩:=fA.mp (aP gi);exact⟨_,m1,of_decide_eq_true m2,this⟩
    have lf:J.flatten.length<=130*(2*rs.length):=by refine bZ (zfW (m:=130) fun v hu=>?_) ?_;obtain⟨_,_,_,_,z⟩:=pm v hu;exact z;refine Nat.mul_le_mul_left _ ?_;rw[el];exact bZ (iX ..) (by rw[kN];lia)
    have BB:Bks bits J.flatten:=fun b Y=>by obtain⟨v,hu,Y⟩:=nF.mp Y;obtain⟨q,L,_,S,_⟩:=pm v hu;obtain⟨z1,z2,z3,z4⟩:=U9 E.1 q L;exact S.blk b0 (I _ z1).1 (I _ z2).2 b Y
    have fl:∀x,mB x J.flatten↔SgX rs x 1:=fun x=>by constructor;rintro⟨b,Y,bx⟩;obtain⟨v,hu,Y⟩:=nF.mp Y;obtain⟨q,L,s1,S,_⟩:=pm v hu;obtain⟨x1,x2⟩:=(S.mem x).mp ⟨b,Y,bx⟩;exact(zjK E L x1 x2 1).mpr s1;intro s1;obtain⟨q,L,x1,x2⟩:=zmi E s1;have sq:=(zjK E L x1 x2 1).mp s1;have mq:q∈(y.zip y.tail).filter fun q=>decide (SgX rs q.1 1):=fA.mpr ⟨L,decide_eq_true sq⟩;obtain⟨i,hi⟩:=oE.mp mq;have il:=(aH.mp hi).1;have gu:=av (l:=J) (i:=i) (by lia);obtain⟨S,_⟩:=pw i q _ hi gu;obtain⟨b,Y,bx⟩:=(S.mem x).mpr ⟨x1,x2⟩;exact⟨b,nF.mpr ⟨_,aP gu,Y⟩,bx⟩
    wp_walk;refine zmY (bs:=J.flatten) (.inl rfl) b0 b1 BB (by lia) fun ps C lp=>?_;exact h ps (C.congr fl) (by lia)
theorem scH:Qk ["_law_script","_law_k","_law_cell"] ["_law_script","_law_k"] (Jw (top 14)):=⟨rfl,rfl,rfl,by decide +kernel,rfl,by decide +kernel,by decide +kernel⟩
theorem zfE{f:aj}{fd:dz}(D:Def K mg "_law_hand" (top 14) ["_law_script","_law_k"] f fd) (T:Txt mg):FnOk P w K mg base CX0 1 f fd ["_law_script","_law_k"] (YO K):=by
 refine D.F.ok scH (fun vs H Q E h=>?_) (fun x A outer s H vs Q E I h=>?_);obtain⟨a,ns,k,rfl,_⟩:=h;rfl;obtain⟨a,ns,k,rfl,u,G,C,J,q⟩:=h;refine⟨_,Qj (Qs (i:=2) scH.nd rfl (iA rfl) Jz)
  (Qj (zn5 (zgx zqA (pv 1) (QT zge T.len Q7 (pb_v 0 Qi)) (JE _)) (U4 (Qs (i:=2) scH.nd rfl (iA rfl) (QF QR (pv 0) (pv 1) (fun _ _=>rfl)))) zgy)
  (U4 (YM (zj0 (zng (Jy QB (pv 2) (zoi zlr T.int boot_int (zqq (zj2 zto (pv 2) (Jy zqx Jz Jz) (JE _)) Qi)))
   (zng (Jy QA (Jy QA (Jy QZ (pv 2) Jz) (Jy QB Jz (pv 1))) Jz) (pb_i Qi))))))),?_⟩
 refine⟨_,rfl,_,rfl,a,_,rfl,.inl u,_,_,rfl,rfl,_,rfl,?_⟩;have fin:∀c:Int,tRet (tLst (Qm (tOp (rI CMul fun i j=>V.int (i*j)) (tVar 2) (tCB (fun xs H Q=>(∃i,xs=[.int i]/\Q (.int i) H)\/∃k,xs=[.bl k]/\Q (.int (if k then 1 else 0)) H) (Qm (tOp (rI0 fun i j=>.bl (decide (j<=i))) (tVar 2) (tOp (rI CPow fun i j=>.int (i ^ j.toNat)) (tC (.int 10)) (tC (.int 18)))) tNil)))
   (Qm (tOp (rI0 fun i j=>.int (i+j)) (tOp (rI0 fun i j=>.int (i+j)) (tOp (rI (fun _ j=>0<j) fun i j=>.int (i % j)) (tVar 2) (tC (.int 2305843009213693951))) (tOp (rI CMul fun i j=>V.int (i*j)) (tC (.int 7919)) (tVar 1))) (tC (.int 3))) (Qm (tC (.int 0)) tNil))))
   { nx:=fun _ H'=>Q .non H',rt:=Q } [some (.ref a),some (.int k),some (.int c)] H:=by
  intro c;refine⟨_,rfl,_,rfl,_,_,rfl,rfl,⟨by decide,by decide,by decide⟩,_,_,rfl,rfl,.inr ⟨_,rfl,_,_,rfl,rfl,.inr ?_,?_⟩⟩;split <;> decide;refine⟨_,rfl,_,_,rfl,rfl,(by show(0:Int)<2305843009213693951;decide),_,rfl,_,_,rfl,rfl,.inl ⟨by decide,by decide⟩,_,_,rfl,rfl,_,_,rfl,rfl,(by show 3<=sizeLine;decide),fun l v=>?_⟩;refine q l _ v ⟨_,_,_,Jo,?_,?_,aV _,aV _⟩ (zlU v);lia;lia
 refine zq8 (fun c=>?_) (fun c=>?_);have y:k.toNat<ns.length:=by rw[aR]at c;lia
 refine⟨_,rfl,_,rfl,a,_,_,V.int (ns[k.toNat]),rfl,rfl,u,?_,?_⟩;exact zg3 C (by rw[aN,av y];rfl);exact fin _;exact fin 0
def zdx(Z:ZZ):Prop:=FQ Z "_law_hand" (top 14) ["_law_script","_law_k"] 1 (YO Z.K)
theorem zeL(D:Dq Z.K Z.mg "_law_hand" (top 14) ["_law_script","_law_k"]) (T:Txt Z.mg):zdx Z:=by obtain⟨f,fd,D⟩:=D;exact⟨f,fd,D,zfE D T⟩
theorem zfm{H:Hp}{hd:aj}{o:HO}:zr5 hd H (upd H hd o):=fun b u e n=>by rw[Jc n];exact e
theorem scT:Qk ["_law_hand_here","_law_many","_law_digit","_law_turn","_law_mixed","_law_odd"] ["_law_hand_here","_law_many"] (Jw (top 15)):=⟨rfl,rfl,rfl,by decide +kernel,rfl,by decide +kernel,by decide +kernel⟩
theorem zmj{f:aj}{fd:dz}(D:Def K mg "_law_take" (top 15) ["_law_hand_here","_law_many"] f fd) (T:Txt mg):FnOk P w K mg base CX0 1 f fd ["_law_hand_here","_law_many"] zm8:=by
 refine D.F.ok scT (fun vs H Q E h=>?_) (fun x A outer s H vs Q E C h=>?_);obtain⟨hd,many,n,rfl,_⟩:=h;rfl;obtain⟨hd,many,n,rfl,⟨d,m,t,u,m0,m1,t0,t1⟩,G,v,y,q⟩:=h;refine⟨_,Qj (zn5 (zgx YA (QF QR (pv 0) Jz (fun _ _=>rfl)) Jz (JE _))
   (Qj (Qs (i:=2) scT.nd rfl (iA rfl) (Jy QZ (QF QR (pv 0) Jz (fun _ _=>rfl)) (pv 1)))
   (Qj (UT (Jy Zx (QF QR (pv 0) Jz (fun _ _=>rfl)) (pv 1)) (pg_sub (pv 0) Jz set_list))
   (U4 (YM (pv 2))))) zgy)
  (Qj (UT (Jy QA (QF QR (pv 0) Jz (fun _ _=>rfl)) Jz) (pg_sub (pv 0) Jz set_list))
  (Qj (Qs (i:=3) scT.nd rfl (iA rfl) (QF QR (pv 0) Jz (fun _ _=>rfl)))
  (Qj (Qs (i:=4) scT.nd rfl (iA rfl) (Jy QZ (Jy QB (QF QR (pv 0) Jz (fun _ _=>rfl)) (Jy QA (Jy QA Jz (Jy QB (Jy QB Jz (pv 3)) (pv 3))) (Jy QB Jz (pv 3)))) Jz))
  (Qj (Qs (i:=5) scT.nd rfl (iA rfl) (Jy QA (Jy QA (Jy QZ (pv 4) Jz) (Jy QB (pv 3) Jz)) Jz))
  (Qj (Qs (i:=4) scT.nd rfl (iA rfl) (Jy QZ (Jy QB (pv 4) (pv 5)) Jz))
  (U4 (YM (Jy QZ (Jy QA (Jy Zx (pv 4) Jz) (Jy Zx (pv 4) Jz)) (pv 1))))))))),?_⟩
 refine⟨_,rfl,hd,_,_,_,rfl,rfl,.of u,rfl,_,_,rfl,rfl,_,rfl,?_⟩;refine zq8 (fun c=>?_) (fun c=>?_);refine⟨_,rfl,hd,_,_,_,rfl,rfl,.of u,rfl,_,rfl,_,_,rfl,rfl,v,?_⟩;refine⟨_,rfl,hd,_,_,_,rfl,rfl,.of u,rfl,_,rfl,_,_,rfl,rfl,⟨v,y⟩,?_⟩;refine⟨_,rfl,hd,_,_,0,rfl,rfl,u,rfl,?_⟩;refine⟨_,rfl,?_⟩;exact q _ _ (ie _ (by lia)) (gA _ v) ⟨_,_,_,Jo,m0,m1,t0,by lia⟩ zfm;refine⟨_,rfl,hd,_,_,_,rfl,rfl,.of u,rfl,_,_,rfl,rfl,?_⟩;refine⟨_,rfl,hd,_,_,2,rfl,rfl,u,rfl,?_⟩;refine⟨_,rfl,hd,_,_,_,rfl,rfl,.of Jo,rfl,?_⟩;refine⟨_,rfl,hd,_,_,_,rfl,rfl,.of Jo,rfl,_,rfl,_,_,rfl,rfl,.inl ⟨by decide,by decide⟩,_,rfl,_,_,rfl,rfl,.inr ⟨by lia,by lia⟩,_,_,rfl,rfl,_,rfl,_,_,rfl,rfl,.inl ⟨by decide,by decide⟩,_,_,rfl,rfl,_,_,rfl,rfl,.inl ⟨by lia,by lia⟩,_,_,rfl,rfl,(by show(0:Int)<2305843009213693921;decide),?_⟩;refine⟨_,rfl,_,_,rfl,rfl,(by show(0:Int)<1000003;decide),_,rfl,_,_,rfl,rfl,.inr ⟨by decide,by decide⟩,_,_,rfl,rfl,_,_,rfl,rfl,?_⟩;refine⟨_,rfl,_,rfl,_,_,rfl,rfl,.inl ⟨by lia,by lia⟩,_,_,rfl,rfl,(by show(0:Int)<2305843009213693907;decide),?_⟩;refine⟨_,rfl,_,_,rfl,rfl,⟨by decide,by decide⟩,_,rfl,_,_,rfl,rfl,⟨by decide,by decide⟩,_,_,rfl,rfl,_,rfl,_,_,rfl,rfl,v,?_⟩;exact q _ _ (ie _ (by lia)) (gA _ v) ⟨_,_,_,Jo,m0,m1,by lia,by lia⟩ zfm
theorem zfz{f:aj}{fd:dz}(D:Def K mg "_law_take" (top 15) ["_law_hand_here","_law_many"] f fd) (T:Txt mg):FnOk P w K mg base CX0 1 f fd ["_law_hand_here","_law_many"] (spD K 2 QX) :=
 (zmj D T).imp zlL
def UB(Z:ZZ):Prop:=FQ Z "_law_take" (top 15) ["_law_hand_here","_law_many"] 1 (spD Z.K 2 QX)
theorem zeK(D:Dq Z.K Z.mg "_law_take" (top 15) ["_law_hand_here","_law_many"]) (T:Txt Z.mg):UB Z:=by obtain⟨f,fd,D⟩:=D;exact⟨f,fd,D,zfz D T⟩
def ZQ:GD:=fun ts n R=>match ts with
 | [h,.list xs]=>h=HAND/\xs≠[]/\xs.length<=1000000/\n<=1000000000000/\∀x∈xs,R x (n+1)
 | [h,.tuple xs]=>h=HAND/\xs≠[]/\xs.length<=1000000/\n<=1000000000000/\∀x∈xs,R x (n+1)
 | _=>False
theorem Yj{xs:qD}{n:Nat}{R:qN}(h0:xs≠[])(h1:xs.length<=1000000)(o:n<=1000000000000)(h:∀x∈xs,R x (n+1)):ZQ [HAND,.list xs] n R:=⟨rfl,h0,h1,o,h⟩
def Yr(Z:ZZ):Prop:=FQ Z "_law_pick" (top 16) ["_law_hand_here","_law_some"] 2 (spD Z.K 2 ZQ)
theorem zfC(D:Dq Z.K Z.mg "_law_pick" (top 16) ["_law_hand_here","_law_some"]) (y:UB Z) (T:Txt Z.mg):Yr Z:=by
 refine' okQ D (fnS (N:=["_law_hand_here","_law_some"]) (by decide +kernel)) rfl fun f x A outer s H E G=>⟨_,(Jd (Jn (JT (dlv 1) (dl (Jf y G (dbv 0 (dbc (JJ Uz Uk T.len Q7 (Jk (dlv 1) JA Js)) Jb))))))),?_⟩;intro ts n R I h;unfold ZQ at h;split at h
 ·rename_i hd xs;obtain⟨rfl,h0,h1,u,h⟩:=h;have v:0<xs.length:=pF.mpr h0;wp_walk using Ui (by lia) (by lia) u (fun r o C=>?_);have l:r.toNat<xs.length:=by lia
  rw[zqM (zg3 o (av l))];exact h _ (dS l)
 ·rename_i hd xs;obtain⟨rfl,h0,h1,u,h⟩:=h;have v:0<xs.length:=pF.mpr h0;wp_walk using Ui (by lia) (by lia) u (fun r o C=>?_);have l:r.toNat<xs.length:=by lia
  rw[zoB (zg3 o (av l))];exact h _ (dS l)
 exact h.elim
def zbP:GD:=fun ts n R=>match ts with
 | [h,.int bits]=>h=HAND/\1<=bits/\bits<=64/\n<=1000000000000 - 10/\∀i h:Int,IsBk bits i h->R (.tuple [.int i,.int h]) (n+3)
 | _=>False
theorem zc0{bits:Int}{n:Nat}{R:qN}(x:1<=bits)(o:bits<=64)(v:n<=1000000000000 - 10)(h:∀i h:Int,IsBk bits i h->R (.tuple [.int i,.int h]) (n+3)):zbP [HAND,.int bits] n R:=⟨rfl,x,o,v,h⟩
def zbJ(Z:ZZ):Prop:=FQ Z "_law_block" (top 17) ["_law_hand_here","_law_bits"] 3 (spD Z.K 2 zbP)
theorem zeN(D:Dq Z.K Z.mg "_law_block" (top 17) ["_law_hand_here","_law_bits"]) (J:Yr Z) (y:UB Z) (T:Txt Z.mg):zbJ Z:=by
 refine' okQ D (fnS (N:=["_law_hand_here","_law_bits","_law_height"]) (by decide +kernel)) rfl fun f G A outer s H E v=>⟨_,(Je (dsv 2 (ndB rfl) (JJ (Yl rfl) UW T.min Yk (Jk (dlv 1) (Jk (dl (Jf J v (dbv 0 (dbc (Jm (J6 (dbc Jg (dbc Jg (dbc Jg (dbc Jg (dbc Jg (dbc Jg (dbc (Jf y v (dbv 0 (dbc (Qc (dlv 1) dli) Jb))) (dbv 1 Jb)))))))))) Jb)))) JA Ut) Js))) (Jd (Jn (JR (dbc (zk_ (dl (Jf y v (dbv 0 (dbc (JX dli (dl (Qd (dlv 1) (dlv 2)))) Jb)))) (dl (JX dli (dlv 2)))) (dbv 2 Jb)))))),?_⟩;intro ts n R hl h;unfold zbP at h;split at h;rename_i hd bits;obtain⟨rfl,b0,b1,hn,h⟩:=h;simp only[zjp,zjq,zjo,u_dC,znF,zju,zjs,zjt,zgr,znG,zeB,zjr,zkw,Ze,YR,YS,YT,Zl,YU,YV,ZN,YJ,oSub,oMul,oMod,Uh,oShl,oShr,oXor,oAnd,isInt,isBool,isTup,l_gI,zoC,YZ,Yu,Yt,Yz,Yw,Yv,Y0,Y1,Y2,Y3,Ys,Yy,Yx,Zv,Zf,Zu,Q6,ZC,JS,Jl,capV,bp,gx,aL,cT,fY,kW,eN,fC,df,gj,iE,iz,mj,kX,kY,eS,Nat.reduceAdd,Nat.reduceSub,nY,true_and,and_true,aU,if_true,if_false,ite_true,ite_false,fU,gT,nE,ZQ,QX];refine⟨by lia,by lia,by lia,fun r r0 r1=>⟨by simp,by decide,by lia,fun x hx=>?_⟩⟩;have C:∃b:Int,x=.int b/\0<=b:=by simp only[au,bq,or_false]at hx;rcases hx with h|h|h|h|h|h|h|h <;> first|exact⟨_,h,by decide⟩|exact⟨_,h,by lia⟩
 obtain⟨b,rfl,Y⟩:=C;simp only[zjp,zjq,zjo,u_dC,znF,zju,zjs,zjt,zgr,znG,zeB,zjr,zkw,Ze,YR,YS,YT,Zl,YU,YV,ZN,YJ,oSub,oMul,oMod,Uh,oShl,oShr,oXor,oAnd,isInt,isBool,isTup,l_gI,zoC,YZ,Yu,Yt,Yz,Yw,Yv,Y0,Y1,Y2,Y3,Ys,Yy,Yx,Zv,Zf,Zu,Q6,ZC,JS,Jl,capV,bp,gx,aL,cT,fY,kW,eN,fC,df,gj,iE,iz,mj,kX,kY,eS,Nat.reduceAdd,Nat.reduceSub,nY,true_and,and_true,aU,if_true,if_false,ite_true,ite_false,fU,gT,nE,QX];have key:∀m:Int,0<=m->m<=bits->(CPow 1 (bits - m)/\(0:Int)<1*2 ^ (bits - m).toNat/\1*2 ^ (bits - m).toNat<(2:Int) ^ 128/\n+1+1<=1000000000000/\∀r:Int,0<=r->r<1*2 ^ (bits - m).toNat->CPow 1 m/\CMul r (1*2 ^ m.toNat)/\R (.tuple [.int (r*(1*2 ^ m.toNat)),.int m]) (n+1+1+1)):=by intro m m0 m1;have L:(1:Int)*2 ^ (bits - m).toNat=2 ^ (bits - m).toNat:=cU _;have I:(1:Int)*2 ^ m.toNat=2 ^ m.toNat:=cU _;rw[L,I];refine⟨cpow (by lia) (by lia),Qt _,zfs (by lia),by lia,fun k S U=>⟨cpow m0 (by lia),.inl ⟨by lia,?_⟩,?_⟩⟩;have:=zhu (k:=(bits - m).toNat) (by lia);lia;exact h _ m ⟨m0,m1,k,S,rfl,U⟩
 exact key (if b<bits then b else bits) (by split <;> lia) (by split <;> lia);exact h.elim
def zdS:GD:=fun ts n R=>∃bits i h:Int,ts=[HAND,.int bits,.tuple [.int i,.int h]]/\1<=bits/\bits<=64/\n<=1000000000000 - 100/\IsBk bits i h/\∀j g:Int,IsBk bits j g->R (.tuple [.int j,.int g]) (n+7)
theorem zdZ{bits i h:Int}{n:Nat}{R:qN}(x:1<=bits)(o:bits<=64)(v:n<=1000000000000 - 100)(B:IsBk bits i h)(h':∀j g:Int,IsBk bits j g->R (.tuple [.int j,.int g]) (n+7)):zdS [HAND,.int bits,.tuple [.int i,.int h]] n R:=⟨_,_,_,rfl,x,o,v,B,h'⟩
def zdw(Z:ZZ):Prop:=FQ Z "_law_near" (top 18) ["_law_hand_here","_law_bits","_law_block_here"] 4 (spD Z.K 3 zdS)
theorem zfD(D:Dq Z.K Z.mg "_law_near" (top 18) ["_law_hand_here","_law_bits","_law_block_here"]) (I:Yr Z) (C:zbJ Z) (T:Txt Z.mg):zdw Z:=by
 refine' okQ D (fnS (N:=["_law_hand_here","_law_bits","_law_block_here","_law_begin","_law_height","_law_size","_law_some"]) (by decide +kernel)) rfl fun f G A outer s H E v=>⟨_,(Je (znw (Jr 2) (J5 rfl (Jt (dgv 3 (ndB rfl)) (Jt (dgv 4 (ndB rfl)) JY)))) (Je (dsv 5 (ndB rfl) (JX dli (dlv 4))) (Je (Y9 (i:=6) (ndB rfl) rfl (iA rfl) (J6 (dbv 2 (dbc (JR (dbv 3 (dbc (JJ (ZB rfl) YX T.max Zz (Jk dli (Jk (dl (Qd (dlv 4) dli)) JA YQ) UU)) Jb))) (dbc (Jf C v (dbv 0 (dbv 1 Jb))) (dbc (Jf C v (dbv 0 (dbv 1 Jb))) Jb)))))) (Je (JQ (J1 YA gp_B (dlv 4) dli (JE _)) (Jd (Qx 6 (JR (dbc (Qc (dlv 3) (dl (zlb (dlv 5) dli))) (dbc (Qd (dlv 4) dli) Jb))))) JZ) (Je (JQ (J1 (zj9 v) zkQ (dlv 4) (dlv 1) (JE _)) (Je (Qx 6 (JR (dbc (Qd (dlv 3) (dl (zrS (dlv 3) (dl (zk_ dli (dlv 5)))))) (dbc (Qc (dlv 4) dli) Jb)))) (Jd (Qx 6 (JR (dbc (znz (dlv 3) (dlv 5)) (dbv 4 Jb)))))) JZ) (Je (JQ (J1 zka zkR (dl (Qc (dlv 3) (dl (zk_ dli (dlv 5))))) (dl (JX dli (dlv 1))) (JE _)) (Jd (Qx 6 (JR (dbc (Qc (dlv 3) (dlv 5)) (dbv 4 Jb))))) JZ) (Yi 6 (Jd (Jn (Jf I v (dbv 0 (dbv 6 Jb)))))))))))),?_⟩;intro ts n R L y;obtain⟨bits,i,h,rfl,S,U,Y,B,y⟩:=y;have h0:=B.1;have h1:=B.2.1;have o:∀j g:Int,IsBk bits j g->∀m,m=n+7->R (.tuple [.int j,.int g]) m:=fun j g b m e=>e▸y j g b;have J:IsBk bits i (if h - 1 > 0 then h - 1 else 0):=by
  split;exact B.low (by lia);by_cases z:h=0;subst z;exact B;have:h=1:=by lia
  subst this;exact B.low (by decide)
 wp_walk using zc0 ?_ ?_ ?_ (fun _ _ _=>?_),Yj ?_ ?_ ?_ ?_;all_goals first
  | lia
  | exact cpow (by lia) (by lia)
  | exact zt1
  | exact zt2
  | (rw[Zw];exact Int.mul_pos (by decide) (Qt _))
  | (intro z;simp at z;done)
  | (simp only[eN,fC,aL,cT];decide)
  | skip
 all_goals
  simp only[eN,fC,oW,Zw]at *;repeat' (with_reducible refine fD ?_ ?_)
 all_goals first
  | exact o _ _ B _ rfl
  | exact o _ _ J _ rfl
  | exact o _ _ (by assumption) _ rfl
  | exact o _ _ (B.up (by lia)) _ rfl
  | exact o _ _ (B.abt (by lia)) _ rfl
  | exact o _ _ (B.oth (by lia)) _ rfl
  | exact o _ _ (B.nxt (by assumption)) _ rfl
  | (intro x hx;simp at hx)
def zcu:GD:=fun ts n R=>∃bits most:Int,ts=[HAND,.int bits,.int most]/\1<=bits/\bits<=64/\0<=most/\most<=1000/\n<=1000000000000 - 100000/\∀(bs:qB) (m:Nat),Bks bits bs->bs.length<=most.toNat->m<=n+1+12*most.toNat->R (.list (pD bs)) m
theorem ze5{bits most:Int}{n:Nat}{R:qN}(v:1<=bits)(o:bits<=64)(m0:0<=most)(m1:most<=1000)(u:n<=1000000000000 - 100000)(h:∀(bs:qB) (m:Nat),Bks bits bs->bs.length<=most.toNat->m<=n+1+12*most.toNat->R (.list (pD bs)) m):zcu [HAND,.int bits,.int most] n R:=⟨bits,most,rfl,v,o,m0,m1,u,h⟩
def zcn(Z:ZZ):Prop:=FQ Z "_law_blocks" (top 19) ["_law_hand_here","_law_bits","_law_most"] 5 (spD Z.K 3 zcu)
theorem zd4(D:Dq Z.K Z.mg "_law_blocks" (top 19) ["_law_hand_here","_law_bits","_law_most"]) (KQ:UB Z) (KW:zbJ Z) (Lc:zdw Z) (KR:Yr Z) (T:Txt Z.mg):zcn Z:=by
 refine' okQ D (fnS (N:=["_law_hand_here","_law_bits","_law_most","_law_found","_law_k","_law_block_here"]) (by decide +kernel)) rfl fun f cdv A outer s H E G=>⟨_,(Je (Y9 (i:=3) (ndB rfl) rfl (iA rfl) (J6 Jb)) (Je (QK dN rfl (Ym T.ran (Jf KQ G (dbv 0 (dbc (Qc (dlv 2) dli) Jb)))) (dgv 4 (ndB rfl)) (Je (dsv 5 (ndB rfl) (Jf KW G (dbv 0 (dbv 1 Jb)))) (Je (JQ (UM (zkU (J1 (znh G) zry (Uj 3) (dl (Jm (J6 Jb))) (JE _)) (zgS (J1 YA gp_B (dl (Jf KQ G (dbv 0 (dbc Jg Jb)))) dli (JE _))))) (Jd (dsv 5 (ndB rfl) (Jf Lc G (dbv 0 (dbv 1 (dbc (zrU KR G (Jk (dlv 0) (Jk (Uj 3) JA Js) Js)) Jb)))))) JZ) (Jd (Qx 3 (Jr 5)))))) (Yi 3 (Jd (Jn (Jr 3)))))),?_⟩;intro ts n R hl L;obtain⟨bits,most,rfl,b0,b1,m0,m1,hn,L⟩:=L;wp_walk using Ui ?_ ?_ ?_ (fun r r0 r1=>?_);lia;lia;lia;lia;lia;refine Yc (fun k ρ m=>∃bs:List (Int×Int),∃U J,ρ=[some (.val HAND),some (.val (.int bits)),some (.val (.int most)),some (.own (pD bs)),U,J]/\Bks bits bs/\bs.length=k/\m<=n+1+12*k) ⟨[],_,_,rfl,(fun b S=>nomatch S),rfl,by lia⟩ ?_ ?_
 ·rintro k t ρ m K et ⟨bs,U,J,rfl,B,Y,hm⟩ hK;obtain⟨hk2,rfl⟩:=ZP et;have hk3:k<1000:=by lia
  have fin:∀(i h:Int) (x4 x5:Option Cell) (I:Nat),IsBk bits i h->I<=m+12->K [some (.val HAND),some (.val (.int bits)),some (.val (.int most)),some (.own (pD bs++[.tuple [.int i,.int h]])),x4,x5] I:=fun i h x4 x5 I C hm' =>
   hK _ _ ⟨bs++[(i,h)],_,_,by rw[<- Q1],B.app C,by simp[Y],by lia⟩
  wp_walk using zc0 ?_ ?_ ?_ (fun i h C=>?_),Ui ?_ ?_ ?_ (fun q q0 q1=>?_),Yj ?_ ?_ ?_ ?_,zdZ ?_ ?_ ?_ ?_ (fun j g C'=>?_);all_goals first
   | lia
   | exact zkb
   | exact zoo
   | (rw[JM];lia)
   | decide
   | (intro z
      have y:pX (.list (pD bs)) (.list [])=false:=by assumption
      rw[zgR]at y;have y2:bs=[]:=by have:=congrArg fI z;rw[JM]at this;exact gm.mp this
      rw[y2]at y;cases y)
   | exact fin _ _ _ _ _ (by assumption) (by lia)
   | skip
  all_goals
   intro x hx;obtain⟨b,S,rfl⟩:=cE.mp hx;refine⟨ziG,?_⟩;have C0:=B b S;wp_walk using zdZ ?_ ?_ ?_ ?_ (fun j g C'=>?_);all_goals first
    | lia
    | exact C0
    | (rw[JM];lia)
    | exact fin _ _ _ _ _ (by assumption) (by lia)
 ·rintro ρ m ⟨bs,U,J,rfl,B,Y,hm⟩;have el:bs.length<=most.toNat:=by
   rw[Y];unfold J8;simp;lia
  wp_walk;exact L bs m B el (by lia)
def zbO:GD:=fun ts n R=>∃bits most:Int,ts=[HAND,.int bits,.int most]/\1<=bits/\bits<=64/\0<=most/\most<64/\n<=1000000000000 - 100000/\∀(rs:RL) (m:Nat),Rls bits rs->rs.length<=most.toNat->m<=n+1+13*most.toNat->R (.tuple (L2.rD rs)) m
theorem zcZ{bits most:Int}{n:Nat}{R:qN}(x:1<=bits)(o:bits<=64)(m0:0<=most)(m1:most<64)(v:n<=1000000000000 - 100000)(h:∀(rs:RL) (m:Nat),Rls bits rs->rs.length<=most.toNat->m<=n+1+13*most.toNat->R (.tuple (L2.rD rs)) m):zbO [HAND,.int bits,.int most] n R:=⟨bits,most,rfl,x,o,m0,m1,v,h⟩
def zcV(Z:ZZ):Prop:=FQ Z "_law_rules" (top 20) ["_law_hand_here","_law_bits","_law_most"] 6 (spD Z.K 3 zbO)
theorem zeM(D:Dq Z.K Z.mg "_law_rules" (top 20) ["_law_hand_here","_law_bits","_law_most"]) (K8:zcn Z) (KQ:UB Z) (T:Txt Z.mg):zcV Z:=by
 refine' okQ D (fnS (N:=["_law_hand_here","_law_bits","_law_most","_law_found","_law_block_here"]) (by decide +kernel)) rfl fun f cdv A outer s H E x=>⟨_,(Je (zo1 (i:=3) (ndB rfl) rfl (iA rfl)) (Je (QK dN rfl (Uq (Jf K8 x (dbv 0 (dbv 1 (dbv 2 Jb))))) (dgv 4 (ndB rfl)) (Jd (zo0 3 (zjN x) (Jr 4) (Jf KQ x (dbv 0 (dbc Jg Jb)))))) (Jd (Jn (YC ZW Zt T.tup Ub (Jk (dl (Jm (zkY 3 rfl x T.srt))) JA Ut)))))),?_⟩;intro ts n R hl y;obtain⟨bits,most,rfl,b0,Y,m0,m1,hn,y⟩:=y;wp_walk using ze5 ?_ ?_ ?_ ?_ ?_ (fun bs m B L hm=>?_);lia;lia;lia;lia;lia;refine Yc (fun k J u=>u<=m+k/\∃rs:RL,∃I,J=[some (.val HAND),some (.val (.int bits)),some (.val (.int most)),some (.dtt (kR rs)),I]/\Rls0 bits rs/\rs.length<=k) ⟨aD _,[],_,rfl,⟨(fun b C=>nomatch C),by simp⟩,aD _⟩ ?_ ?_
 ·rintro k t J u K et ⟨o,rs,I,rfl,A,U⟩ hK;obtain⟨i,h,S,rfl⟩:=zj6 et;have C:=B _ (aP S);have hk3:k<64:=by
   have:=(aH.mp S).1;lia
  wp_walk using Ui ?_ ?_ ?_ (fun r r0 r1=>?_);lia;lia;lia;rw[zqS];lia;rw[zn1];exact hK _ _ ⟨by lia,_,_,rfl,A.put C r0 (by lia),by have:=zl7 (rs:=rs) (k:=(i,h)) (s:=r);lia⟩
 ·rintro J u ⟨o,rs,I,rfl,A,U⟩;rw[JM]at U o;wp_walk;refine⟨rs,rfl,by lia,A.ok Y,fun G pm pw=>?_⟩;wp_walk;exact y G u (A.sort Y pm pw) (by rw[pm.length_eq];lia) (by lia)
def zdR:GD:=fun ts n R=>∃(bits:Int) (rs:RL) (a:Int) (t:ah),ts=[t,.int a]/\(t=.list (L2.rD rs)\/t=.tuple (L2.rD rs))/\bits<=64/\0<=a/\(∀r∈rs,IsBk bits r.1.1 r.1.2)/\rs.length<64/\∀s,SgX rs a s->R (.int s) n
theorem zdY{bits:Int}{rs:RL}{a:Int}{t:ah}{n:Nat}{R:qN}(o:t=.list (L2.rD rs)\/t=.tuple (L2.rD rs))(v:bits<=64)(x:0<=a)(A:∀r∈rs,IsBk bits r.1.1 r.1.2)(l:rs.length<64)(h:∀s,SgX rs a s->R (.int s) n):zdR [t,.int a] n R:=⟨bits,rs,a,t,rfl,o,v,x,A,l,h⟩
def hgtD:ah->Int
 | .tuple [.tuple [_,.int h],_]=>h
 | _=>0
theorem znY{rs:RL}{ts:qD}(pm:ts.Perm (L2.rD rs)):∃qs:RL,qs.Perm rs/\ts=L2.rD qs:=by
 have e:L2.rD rs=(rs.map fun r=>(r,nZ [.tuple [.int r.1.1,.int r.1.2],.int r.2])).map (·.2):=by unfold L2.rD;rw[cD];rfl
 rw[e]at pm;obtain⟨v,o,p2⟩:=Ux pm;refine⟨v.map (·.1),?_,?_⟩;have:=o.map (·.1);rw[cD]at this;simpa[fL] using this;rw[<- p2];unfold L2.rD;rw[cD];refine e9 fun w hw=>?_;obtain⟨r,_,rfl⟩:=cE.mp (o.mem_iff.mp hw);rfl
theorem zkI{bits b g a:Int}(ok:IsBk bits b g):(a / 2 ^ g.toNat=b / 2 ^ g.toNat)↔inb (b,g) a:=by obtain⟨x,g1,k,y,rfl,_⟩:=ok;have p:=Qt g.toNat;rw[kT _ (by lia)];have e:=oD a (2 ^ g.toNat);have v:=ie a (show(2:Int) ^ g.toNat≠0 by lia);have o:=gA a p;show _↔k*2 ^ g.toNat<=a/\a<k*2 ^ g.toNat+2 ^ g.toNat;constructor;intro h;rw[h,cQ]at e;lia;rintro⟨h1,l⟩;have u:k<=a / 2 ^ g.toNat:=(nK p).mpr h1;have l2:a / 2 ^ g.toNat<k+1:=(nL p).mpr (by rw[eG,cU];exact l);lia
def QL:Str:=aM "_law_sign.<locals>.<lambda>"
theorem zt3:(aM "_law_sign" ++ aM ".<locals>.")++aM "<lambda>" = QL:=by decide +kernel
def zb_(Z:ZZ)(l:aj):Prop:=FQT Z l QL "_law_sign" (top 21) ["_law_rules_here","_law_address"] 4 2 zdR
theorem zfA  {cL PL:aj}(LZ:LamZ Z "_law_sign" cL PL) (D:Dq Z.K Z.mg "_law_sign" (top 21) ["_law_rules_here","_law_address"]) (T:Txt Z.mg):zb_ Z PL:=by
 refine' okQT LZ D (fnS (N:=["_law_rules_here","_law_address","_law_block_here","_law_sign_here"]) (by decide +kernel)) rfl fun f A outer s H E C hP=>⟨_,(Je (QK dN rfl (Uq (Jm (ziY (x:="_law_rule") C T.srt (dlv 0) Js LZ.2 hP rfl zt3 (fnS (by decide +kernel)) rfl rfl (fun _ _ _ _=>rfl) (fun _ _ _ _ _=>(JT (dl (JT (dlv 0) dli)) dli))))) (J5 rfl (Jt (dgv 2 (ndB rfl)) (Jt (dgv 3 (ndB rfl)) JY))) (Jd (JQ (J1 (Qe C) Qb (dl (zk8 (dlv 1) (dl (JT (dlv 2) dli)))) (dl (zk8 (dl (JT (dlv 2) dli)) (dl (JT (dlv 2) dli)))) (JE _)) (Jd (Jn (Jr 3))) JZ))) (Jd (Jn Jg))),?_⟩;intro ts n R hl h;obtain⟨bits,rs,a,t,rfl,L,b1,a0,A,l,h⟩:=h;have it:∀{J:List ah->Prop},J (L2.rD rs)->JG t J:=by rintro J h;rcases L with rfl|rfl;exact zkD h;exact zhN h
 wp_walk;refine it ⟨by rw[znb];exact l,hgtD,fun t L R' hR=>?_,fun ts' pm pw=>?_⟩
 ·obtain⟨r,C,rfl⟩:=cE.mp L;wp_walk;exact hR
 obtain⟨qs,Y,rfl⟩:=znY pm;wp_walk;refine znu 2 3 (fun k _ _ m=>m=n/\∀(i:Nat) r,i<k->qs[i]?=some r->¬inb r.1 a) ⟨rfl,fun i r z=>by lia⟩ ?_ ?_
 ·rintro k t _ _ m K RT BK v ⟨rfl,hi⟩ hK hRT hBK;obtain⟨r,I,rfl⟩:∃r,qs[k]?=some r/\t=.tuple [.tuple [.int r.1.1,.int r.1.2],.int r.2]:=by
   unfold L2.rD at v;rw[aN]at v;cases z:qs[k]? with
   | none=>rw[z]at v;cases v
   | some r=>rw[z]at v;exact⟨r,rfl,(aQ v).symm⟩
  have mr:r∈rs:=Y.mem_iff.mp (aP I);have ok:=A r mr;have k0:=ok.1;have k1:=ok.2.1;wp_walk;all_goals try exact k0
  rw[zkI ok]at hc;refine hRT _ _ (h r.2 (.inr ⟨r,mr,hc,rfl,fun r' S z=>?_⟩));obtain⟨j,o⟩:=gV (Y.mem_iff.mpr S);rcases ef k j with kj|rfl|kj;have G:=(aH.mp o);have hk:=(aH.mp I);unfold L2.rD at pw;rw[cz]at pw;have:=aZ.mp pw k j hk.1 G.1 kj;rw[hk.2,G.2]at this;exact this;rw[I]at o;cases o;exact aV _;exact absurd z (hi j r' kj o);rw[zkI ok]at hc;refine hK _ _ _ ⟨rfl,fun i r' U e=>?_⟩;rcases Nat.lt_succ_iff_lt_or_eq.mp U with z|rfl;exact hi i r' z e;rw[I]at e;cases e;exact hc
 ·rintro _ _ m ⟨rfl,hi⟩;wp_walk;refine h 0 (.inl ⟨rfl,fun r C=>?_⟩);obtain⟨j,o⟩:=gV (Y.mem_iff.mpr C);have G:=(aH.mp o).1;exact hi j r (by rw[znb];exact G) o
def bD(l:List Bool):List ah:=l.map eU
def ThOk(bits:Int)(l:List Bool)(Z:Int->Prop):Prop:=(l.length:Int)=2 ^ bits.toNat/\∀x:Nat,x<l.length->(l[x]?=some true↔Z x)
theorem p8b{bits:Int}(l:0<=bits)(o:bits<=8):1<=(2:Int) ^ bits.toNat/\(2:Int) ^ bits.toNat<=256:=by
 have:bits.toNat<=8:=by lia
 generalize bits.toNat=m at *;rcases m with _|_|_|_|_|_|_|_|_|m <;> first|decide|lia
def disD(a b:Int×Int):Prop:=eB a<=b.1\/eB b<=a.1
def allZ(Z:Int->Prop)(c:Int×Int):Prop:=∀x,c.1<=x->x<eB c->Z x
def wsz(l:BL):Nat:=(l.map fun b:Int×Int=>2*2 ^ b.2.toNat - 1).sum
theorem Uu{a b:BL}:wsz (a++b)=wsz a+wsz b:=by unfold wsz;rw[dM,List.sum_append]
theorem Ua{b:Int×Int}:wsz [b]=2*2 ^ b.2.toNat - 1:=by simp[wsz]
theorem zjh:∀{a:BL},a.length<=wsz a
 | []=>cw _
 | b::a=>by have:=zjh (a:=a);have p:0<2 ^ b.2.toNat:=xX (by decide);rw[show b::a=[b]++a from rfl,Uu,Ua,aS,eI];lia
structure DfI(bits:Int)(Z:Int->Prop)(l fs:BL):Prop where
 bk:Bks bits l
 inS:∀f∈fs,allZ Z f
 dis:l.Pairwise disD
 mx:∀q∈l,∀c:Int×Int,IsBk bits c.1 c.2->allZ Z c->c.1<=q.1->eB q<=eB c->c=q
 me:∀x,Z x->mB x l
theorem zk0{a b:Int×Int}(h:disD a b):disD b a:=h.symm
theorem DfI.perm{bits:Int}{Z:Int->Prop}{l v fs o:BL}(I:DfI bits Z l fs)(p:l.Perm v)(h:∀f∈o,allZ Z f):DfI bits Z v o :=
 ⟨fun b u=>I.bk b (p.mem_iff.mpr u),h,(p.pairwise_iff zk0).mp I.dis,fun q y=>I.mx q (p.mem_iff.mpr y),fun x z=>by obtain⟨b,u,h⟩:=I.me x z;exact⟨b,p.mem_iff.mp u,h⟩⟩
theorem DfI.drop{bits:Int}{Z:Int->Prop}{b:Int×Int}{l fs:BL}(I:DfI bits Z (b::l) fs)(h:∀x,b.1<=x->x<eB b->¬Z x):DfI bits Z l fs :=
 ⟨fun c hc=>I.bk c (.tail _ hc),I.inS,(bo.mp I.dis).2,fun q u=>I.mx q (.tail _ u),fun x z=>by obtain⟨c,hc,h1,o⟩:=I.me x z;rcases au.mp hc with rfl|hc;exact absurd z (h x h1 o);exact⟨c,hc,h1,o⟩⟩
theorem DfI.start{bits:Int}{Z:Int->Prop}(o:0<=bits)(w:∀x,Z x->0<=x/\x<2 ^ bits.toNat):DfI bits Z ([(0,bits)]++[]) []:=by
 have B:IsBk bits 0 bits:=⟨o,aV _,0,aV _,by simp,Bd.Qt _⟩;refine⟨fun b v=>?_,(fun f hf=>nomatch hf),iF _ _,fun q y c C G h1 l=>?_,fun x z=>⟨(0,bits),.head _,(w x z).1,?_⟩⟩;cases aF.mp v;exact B;cases aF.mp y;have bd:=C.bounds o;have h1:c.1<=0:=h1;have l:(0:Int)+2 ^ bits.toNat<=c.1+2 ^ c.2.toNat:=l;have e:c.1=0:=by lia
 refine fJ e ?_;have u:=C.2.1;have I:=C.1;rcases iB u with z|z;have:=J9 (show c.2.toNat+1<=bits.toNat by lia);have:=Bd.Qt c.2.toNat;rw[bM]at *;lia;exact z;show x<0+2 ^ bits.toNat;have:=(w x z).2;lia
theorem zkz{bits:Int}{Z:Int->Prop}{w q c:Int×Int}(W:IsBk bits w.1 w.2)(Q:IsBk bits q.1 q.2)(e:q.2=w.2 - 1)(G:w.1<=q.1)(S:eB q<=eB w)(nw:¬allZ Z w)(C:IsBk bits c.1 c.2)(o:allZ Z c)(h1:c.1<=q.1)(L:eB q<=eB c):c=q:=by
 have I:=J7 q;have sz:∀p:Int×Int,eB p=p.1+2 ^ p.2.toNat:=fun p=>rfl;rcases Q8 C W (x:=q.1) ⟨h1,by lia⟩ ⟨G,by lia⟩ with⟨a,b,_⟩|⟨a,b,g⟩;exact absurd (fun x v y=>o x (by lia) (by lia)) nw;by_cases z:c.2=w.2;refine absurd (fun x v y=>o x ?_ ?_) nw;have s1:=sz c;have:=sz w;rw[z]at s1;lia;have s1:=sz c;have:=sz w;rw[z]at s1;lia;have u:c.2<=q.2:=by lia
 rcases Q8 C Q (x:=q.1) ⟨h1,by lia⟩ ⟨aV _,by lia⟩ with⟨_,_,k⟩|⟨N,U,_⟩;have l:c.2=q.2:=by lia
 have s1:=sz c;have:=sz q;rw[l]at s1;exact fJ (by lia) l;have:=sz c;have:=sz q;have J:(2:Int) ^ c.2.toNat=2 ^ q.2.toNat:=by lia
 have l:c.2=q.2:=by have Y:=C.1;have R:=Q.1;rcases iB u with z|z;have:=J9 (show c.2.toNat+1<=q.2.toNat by lia);have:=Bd.Qt c.2.toNat;rw[bM]at *;lia;exact z
 exact fJ (by lia) l
theorem DfI.part{bits:Int}{Z:Int->Prop}{i h:Int}{l fs:BL}(I:DfI bits Z ((i,h)::l) fs)(h1:1<=h)(nw:¬allZ Z (i,h)):DfI bits Z ((i,h - 1)::(i+2 ^ h.toNat / 2,h - 1)::l) fs:=by
 have W:IsBk bits i h:=I.bk _ (.head _);have L:=W.low (by lia);have U:=W.up (by lia);obtain⟨P,J⟩:∃P:Int,P=2 ^ (h - 1).toNat:=⟨_,rfl⟩;have e:(2:Int) ^ h.toNat=2*P:=by rw[show h.toNat=(h - 1).toNat+1 by lia,bM,J];lia
 have p0:0<P:=J▸Bd.Qt _;have R:eB (i,h)=i+2*P:=by unfold eB;rw[e]
 have Y:eB (i,h - 1)=i+P:=by unfold eB;rw[J]
 have S:eB (i+2 ^ h.toNat / 2,h - 1)=i+P+P:=by unfold eB;rw[e,J];lia
 have eh:(2:Int) ^ h.toNat / 2=P:=by lia
 have dl:=bo.mp I.dis;have dd:∀a∈l,i+2*P<=a.1\/eB a<=i:=fun a u=>by have:=dl.1 a u;unfold disD at this;rw[R]at this;exact this
 refine⟨fun b v=>?_,I.inS,bo.mpr ⟨fun a u=>?_,bo.mpr ⟨fun a u=>?_,dl.2⟩⟩,fun q G c C ac g1 g2=>?_,fun x z=>?_⟩;rcases au.mp v with rfl|v;exact L;rcases au.mp v with rfl|v;exact U;exact I.bk b (.tail _ v);unfold disD;rw[Y];rcases au.mp u with rfl|u;left;show i+P<=i+2 ^ h.toNat / 2;lia;rcases dd a u with z|z;left;lia;right;exact z;unfold disD;rw[S];rcases dd a u with z|z;left;lia;right;show eB a<=i+2 ^ h.toNat / 2;lia;rcases au.mp G with rfl|G;exact zkz (w:=(i,h)) (q:=(i,h - 1)) W L rfl (aV _) (by rw[R,Y];lia) nw C ac g1 g2;rcases au.mp G with rfl|G;exact zkz (w:=(i,h)) (q:=(i+2 ^ h.toNat / 2,h - 1)) W U rfl (by show i<=i+2 ^ h.toNat / 2;lia) (by rw[R,S];lia) nw C ac g1 g2;exact I.mx q (.tail _ G) c C ac g1 g2;obtain⟨c,hc,x1,x2⟩:=I.me x z;rcases au.mp hc with rfl|hc;rw[R]at x2;by_cases y:x<i+P;exact⟨_,.head _,x1,by rw[Y];exact y⟩;exact⟨_,.tail _ (.head _),by show i+2 ^ h.toNat / 2<=x;lia,by rw[S];lia⟩;exact⟨c,.tail _ (.tail _ hc),x1,x2⟩
theorem zpm{o:List Bool}{i l:Nat}(h:i+l<=o.length):((o.drop i).take l).all id=true↔∀k,k<l->o[i+k]?=some true:=by
 rw[dw];constructor;intro a k u;have e:o[i+k]?=some o[i+k]:=av (by lia);have m:o[i+k]∈(o.drop i).take l:=by refine aP (i:=k) ?_;rw[dG u,eM,e]
 rw[e,show o[i+k]=true from a _ m];intro a b x;obtain⟨k,v⟩:=gV x;have u:k<l:=by have:=(aH.mp v).1;rw[dQ]at this;lia
 rw[dG u,eM,a k u]at v;cases v;rfl
theorem zpj{u:List Bool}{i l:Nat}(h:i+l<=u.length):((u.drop i).take l).any id=false↔∀k,k<l->¬u[i+k]?=some true:=by
 rw[mE];constructor;intro a k o e;have m:true∈(u.drop i).take l:=by refine aP (i:=k) ?_;rw[dG o,eM,e]
 exact a _ m rfl;intro a b x e;obtain⟨k,v⟩:=gV x;have o:k<l:=by have:=(aH.mp v).1;rw[dQ]at this;lia
 rw[dG o,eM]at v;have e:b=true:=e;rw[e]at v;exact a k o v
theorem zrY{o:List Bool}{i l:Nat}(h:i+l<=o.length):cutD (bD o) (some (i:Int)) (some ((i+l:Nat):Int))=bD ((o.drop i).take l):=by have e:(bD o).length=o.length:=aR ..;unfold cutD;rw[e,HT.zgu,HT.zgu,kG h,kG (show i<=o.length by lia),Nat.add_sub_cancel_left];unfold bD;rw[vF,vG]
def zct:GD:=fun ts n R=>∃(bits:Int) (o:List Bool) (Z:Int->Prop),ts=[.int bits,.list (bD o)]/\0<=bits/\bits<=8/\ThOk bits o Z/\∀qs,MaxP bits (fun x=>0<=x/\x<2 ^ bits.toNat/\Z x) qs->qs.length<=600->R (.tuple (pD qs)) n
theorem ze4{bits:Int}{o:List Bool}{Z:Int->Prop}{n:Nat}{R:qN}(y:0<=bits)(v:bits<=8)(T:ThOk bits o Z)(h:∀qs,MaxP bits (fun x=>0<=x/\x<2 ^ bits.toNat/\Z x) qs->qs.length<=600->R (.tuple (pD qs)) n):zct [.int bits,.list (bD o)] n R:=⟨bits,o,Z,rfl,y,v,T,h⟩
def zcm(Z:ZZ):Prop:=FQ Z "_law_fewest" (top 22) ["_law_bits","_law_there"] 1 (spD Z.K 2 zct)
theorem zd3(D:Dq Z.K Z.mg "_law_fewest" (top 22) ["_law_bits","_law_there"]) (T:Txt Z.mg):zcm Z:=by
 refine' okQ D (fnS (N:=["_law_bits","_law_there","_law_waiting","_law_found","_law_begin","_law_height","_law_some"]) (by decide +kernel)) rfl fun f cdv A outer s H E hr=>⟨_,(Je (zo4 (i:=2) (j:=3) rfl (ndB rfl) rfl rfl (by decide) rfl rfl (J6 (dbc (JR (dbc Jg (dbv 0 Jb))) Jb)) (J6 Jb)) (Je (zh3 dN (J1 (znh hr) zry (Uj 2) (dl (Jm (J6 Jb))) (JE _)) (Je (zo3 2 rfl (Jt (dgv 4 (ndB rfl)) (Jt (dgv 5 (ndB rfl)) JY))) (Je (dsv 6 (ndB rfl) (Jm (Zq (dlv 1) (Ur (Jr 4)) (Ur (Qc (dlv 4) (dl (JX dli (dlv 5)))))))) (Jd (JQ (Qw (dl (JJ (ZA rfl) YW T.all Zy (Jk (dlv 6) JA Js)))) (Jd (Qx 3 (JR (dbv 4 (dbv 5 Jb))))) (Jd (JQ (Qw (dl (JJ (zgf rfl) zns T.any zgg (Jk (dlv 6) JA Js)))) (Je (Qx 2 (JR (dbv 4 (dbc (Qd (dlv 5) dli) Jb)))) (Jd (Qx 2 (JR (dbc (Qc (dlv 4) (dl (zlb (dl (JX dli (dlv 5))) dli))) (dbc (Qd (dlv 5) dli) Jb)))))) JZ))))))) (Yi 3 (Jd (Jn (YC ZW Zt T.tup Ub (Jk (dl (Jm (zfZ hr T.srt (dlv 3) Js))) JA Ut))))))),?_⟩;intro ts n R hl hh;obtain⟨bits,S,Z,rfl,b0,b1,T,h⟩:=hh;have p8:=p8b b0 b1;have tl:=T.1;have q8:(2:Nat) ^ bits.toNat<=256:=by
  have:((2 ^ bits.toNat:Nat):Int)=2 ^ bits.toNat:=by simp
  lia
 wp_walk;rfl;refine zjk (fun μ ρ m=>m=n/\∃(J fs:BL) (c4 c5 c6:Option Cell),ρ=[some (.val (.int bits)),some (.val (.list (bD S))),some (.own (pD J)),some (.own (pD fs)),c4,c5,c6]/\DfI bits (fun x=>0<=x/\x<2 ^ bits.toNat/\Z x) (J++fs) fs/\wsz J=μ/\fs.length+wsz J<=511) (m:=wsz [(0,bits)]) ⟨rfl,[(0,bits)],[],_,_,_,rfl,?_,rfl,?_⟩ ?_;exact DfI.start b0 fun x z=>⟨z.1,z.2.1⟩;rw[Ua];simp;lia
 ·rintro μ ρ m K RT BK ⟨rfl,J,fs,c4,c5,c6,rfl,I,rfl,lw⟩ hK hRT hBK;wp_walk;exact zkb;exact zkb (bs:=[])
  ·rw[zgR,List.isEmpty_iff]at hc;subst hc;refine hBK _ _ ?_;wp_walk;have L:DfI bits (fun x=>0<=x/\x<2 ^ bits.toNat/\Z x) fs fs:=I;refine zqV (by lia) L.bk L.dis (by lia) fun cs P pm=>?_;wp_walk;have lc:=pm.length_eq;refine h cs ⟨P,fun x=>?_,fun q hq=>L.mx q (pm.mem_iff.mp hq)⟩ (by lia);constructor;rintro⟨b,hb,G,C⟩;exact L.inS b (pm.mem_iff.mp hb) x G C;intro z;obtain⟨b,hb,G,C⟩:=L.me x z;exact⟨b,pm.mem_iff.mpr hb,G,C⟩
  ·rw[zgR]at hc;rcases oB J with rfl|⟨u,⟨i,g⟩,rfl⟩;cases hc;rw[oC]at *;rw[Uu,Ua]at lw hK;have ll:=zjh (a:=u);have Bb:IsBk bits i g:=I.bk (i,g) (by simp);have bd:=Bb.bounds b0;have g0:0<=g:=Bb.1;have g1:g<=bits:=Bb.2.1;have pn:((2 ^ g.toNat:Nat):Int)=2 ^ g.toNat:=by simp
   have p0:0<2 ^ g.toNat:=xX (by decide);have Y:i.toNat+2 ^ g.toNat<=S.length:=by lia
   obtain⟨tk,ek⟩:∃tk,tk=(S.drop i.toNat).take (2 ^ g.toNat):=⟨_,rfl⟩;have ec:cutD (bD S) (some i) (some (i+1*2 ^ g.toNat))=bD tk:=by have:=zrY Y;rw[show((i.toNat:Nat):Int)=i by lia,show((i.toNat+2 ^ g.toNat:Nat):Int)=i+1*2 ^ g.toNat by lia,<- ek]at this;exact this
   have ba:∀{R:ah->Prop},R (.bool (tk.all id))->bAll [.list (bD tk)] R:=fun h=>zrx h;have bn:∀{R:ah->Prop},R (.bool (tk.any id))->bAny [.list (bD tk)] R:=fun h=>znq (f:=id) h;have az:tk.all id=true↔allZ (fun x=>0<=x/\x<2 ^ bits.toNat/\Z x) (i,g):=by
    rw[ek,zpm Y];constructor;intro a x G C;have C:x<i+2 ^ g.toNat:=C;have G:i<=x:=G;have a1:=a (x - i).toNat (by lia);have e:((i.toNat+(x - i).toNat:Nat):Int)=x:=by lia
    have:=(T.2 _ (by lia)).mp a1;rw[e]at this;exact⟨by lia,by lia,this⟩;intro a k hk;have:=(a (i+k) (by show i<=i+(k:Int);lia) (by show i+(k:Int)<i+2 ^ g.toNat;lia)).2.2;refine(T.2 _ (by lia)).mpr ?_;rw[show((i.toNat+k:Nat):Int)=i+k by lia];exact this
   have nz:tk.any id=false↔∀x,i<=x->x<i+2 ^ g.toNat->¬Z x:=by rw[ek,zpj Y];constructor;intro a x G C z;refine a (x - i).toNat (by lia) ((T.2 _ (by lia)).mpr ?_);rw[show((i.toNat+(x - i).toNat:Nat):Int)=x by lia];exact z;intro a k hk e;have:=(T.2 _ (by lia)).mp e;rw[show((i.toNat+k:Nat):Int)=i+k by lia]at this;exact a (i+k) (by lia) (by lia) this
   have pm:((i,g)::(u++fs)).Perm (u++[(i,g)]++fs):=by rw[aY];exact gk.symm
   have I1:=I.perm pm.symm I.inS;rw[<- Q1];refine zqW ?_;wp_walk;any_goals (first|lia|exact cpow (by lia) (by lia))
   rw[ec];wp_walk using ba ?_,bn ?_;any_goals (first|exact cpow g0 (by lia)|exact⟨by decide,by decide⟩|(rw[JM];lia)|(rw[aS,JM,eI];lia))
   have pm2:(u++[(i,g)]++fs).Perm (u++(fs++[(i,g)])):=pm.symm.trans (by rw[<- aY];exact(List.perm_append_singleton _ _).symm);refine hK _ _ _ (by lia) ⟨rfl,u,fs++[(i,g)],_,_,_,by rw[<- Q1],I.perm pm2 fun f hf=>?_,rfl,by rw[aS,eI];lia⟩;rcases aC.mp hf with hf|hf;exact I.inS f hf;cases aF.mp hf;exact az.mp hc;have na:¬allZ (fun x=>0<=x/\x<2 ^ bits.toNat/\Z x) (i,g):=fun z=>by have:=az.mpr z;rw[show tk.all id=false from by assumption]at this;cases this
   have g1':1<=g:=by
    rcases iB g0 with z|z;lia;exfalso;have nn:¬tk.any id=false:=by rw[hc];simp
    refine nn (nz.mpr fun x G C zx=>na fun y y1 U=>?_);have U:y<i+2 ^ g.toNat:=U;have y1:i<=y:=y1;rw[<- z]at C U;have:y=x:=by simp at C U;lia
    rw[this];exact⟨by lia,by rw[<- z]at bd;simp at bd C;lia,zx⟩
   have I3:=I1.part g1' na;have e2:2 ^ g.toNat=2*2 ^ (g - 1).toNat:=by rw[show g.toNat=(g - 1).toNat+1 by lia,ly];lia
   rw[cU,Q1,Q1];refine hK _ _ _ ?_ ⟨rfl,u++[(i,g - 1)]++[(i+2 ^ g.toNat / 2,g - 1)],fs,_,_,_,rfl,I3.perm ?_ I.inS,rfl,?_⟩;rw[Uu,Uu,Ua,Ua];dsimp only;lia;rw[aY,aY];exact(List.Perm.cons _ (gk (a:=(i+2 ^ g.toNat / 2,g - 1)) (l₁:=u) (l₂:=fs)).symm).trans (gk (a:=(i,g - 1)) (l₁:=u) (l₂:=[(i+2 ^ g.toNat / 2,g - 1)]++fs)).symm;rw[Uu,Uu,Ua,Ua];dsimp only;lia;refine hK _ _ _ (by lia) ⟨rfl,u,fs,_,_,_,rfl,I1.drop fun x G C z=>nz.mp hc x G C z.2.2,rfl,by lia⟩
def Yq:Nat->GD
 | 0=>fun _ _ _=>False
 | j+1=>fun ts n R=>R (.bool true) n/\((∃i:Int,ts=[.int i,.int i])\/(1<=j/\∃b:Int×Int,ts=[prD b,prD b])\/(2<=j/\∃bs:BL,ts=[.tuple (pD bs),.tuple (pD bs)]/\bs.length<=100000))
theorem zfl{j:Nat}{t:ah}{n:Nat}{R:qN}(h:R (.bool true) n)(k:(1<=j/\∃i:Int,t=.int i)\/(2<=j/\∃b:Int×Int,t=prD b)):Yq j [t,t] n R:=by rcases j with _|j;lia;refine⟨h,?_⟩;rcases k with⟨_,i,rfl⟩|⟨u,b,rfl⟩;exact .inl ⟨i,rfl⟩;exact .inr (.inl ⟨by lia,b,rfl⟩)
theorem zg2{bs:BL}{n:Nat}{R:qN}(l:bs.length<=100000)(h:R (.bool true) n):Yq 3 [.tuple (pD bs),.tuple (pD bs)] n R:=⟨h,.inr (.inr ⟨aD _,bs,rfl,l⟩)⟩
theorem zg8:∀{xs:qD},zipD xs xs=xs.map fun t=>.tuple [t,t]:=by
 intro xs;unfold zipD;induction xs with
 | nil=>rfl
 | cons x xs o=>simpa using o
def zdv(Z:ZZ):Prop:=FQ Z "_law_same" (top 23) ["_law_one","_law_due"] 4 (spD Z.K 2 (Yq 3))
theorem zbz(D:Dq Z.K Z.mg "_law_same" (top 23) ["_law_one","_law_due"]) (T:Txt Z.mg) (j:Nat) (G:FQ Z "_law_same" (top 23) ["_law_one","_law_due"] (1+j) (spD Z.K 2 (Yq j))):FQ Z "_law_same" (top 23) ["_law_one","_law_due"] (1+j+1) (spD Z.K 2 (Yq (j+1))):=by
 refine' okQ D (fnS (N:=["_law_one","_law_due"]) (by decide +kernel)) rfl fun f I A outer s H E x=>⟨_,(Je (JQ (Qw (dl (QQ zeW T.isi T.tup Ub (dlv 1) Js))) (Jd (Jn (Uo (QQ zeW T.isi T.tup Ub (dlv 0) Js) (Uo (QJ (Qe x) Qb (dl (JJ Uz Uk T.len Q7 (Jk (dlv 0) JA Js))) (dl (JJ Uz Uk T.len Q7 (Jk (dlv 1) JA Js))) (JE _)) (zk9 (JJ (ZA rfl) YW T.all Zy (Jk (dl (Jm (dnc ["_law_a","_law_b"] [] (dil (Y7 T.zip (Jr 0) (Jr 1))) (fun _ _ _ _=>(J5 rfl (Jt (dgv 0 (ndB rfl)) (Jt (dgv 1 (ndB rfl)) JY)))) (fun _ _ _ _=>(Jf G x (dbv 0 (dbv 1 Jb)) (by omega)))))) JA U8))))))) JZ) (Je (JQ (Qw (dl (QQ zkN T.isi T.lst zex (dlv 1) Js))) (Jd (Jn (Uo (QQ zkN T.isi T.lst zex (dlv 0) Js) (Uo (QJ (Qe x) Qb (dl (JJ Uz Uk T.len Q7 (Jk (dlv 0) JA Js))) (dl (JJ Uz Uk T.len Q7 (Jk (dlv 1) JA Js))) (JE _)) (zk9 (JJ (ZA rfl) YW T.all Zy (Jk (dl (Jm (dnc ["_law_a","_law_b"] [] (dil (Y7 T.zip (Jr 0) (Jr 1))) (fun _ _ _ _=>(J5 rfl (Jt (dgv 0 (ndB rfl)) (Jt (dgv 1 (ndB rfl)) JY)))) (fun _ _ _ _=>(Jf G x (dbv 0 (dbv 1 Jb)) (by omega)))))) JA U8))))))) JZ) (Je (JQ (Qw (dl (zo8 T.isi T.boo T.int (Jr 1) Js))) (Jd (Jn (Uo (QQ znr T.isi T.int boot_int (dlv 0) Js) (Uo (QJ (Qe x) Qb (dl (QQ zgP T.isi T.boo zcS (dlv 0) Js)) (dl (QQ zgP T.isi T.boo zcS (dlv 1) Js)) (JE _)) (zk9 (QJ (Qe x) Qb (dlv 0) (dlv 1) (JE _))))))) JZ) (Jd (Jn (QJ (Qe x) Qb (dlv 0) (dlv 1) (JE _))))))),?_⟩;intro ts n R S h;obtain⟨h,⟨i,rfl⟩|⟨C,b,rfl⟩|⟨C,bs,rfl,l⟩⟩:=h
 ·wp_walk;exact⟨_,rfl⟩;rw[decide_eq_true rfl];exact h;exact absurd rfl hc
 ·unfold prD;wp_walk
  ·rw[zg8];refine Uv (cs:=[cg b.1,cg b.2]) (D:=fun t=>.tuple [t,t]) (fun _=>.bool true) (by simp) ?_ ?_
   ·intro t y J L v;wp_walk;refine zfl v (.inl ⟨C,?_⟩);rcases au.mp y with rfl|y;exact⟨_,rfl⟩;cases aF.mp y;exact⟨_,rfl⟩
   wp_walk using zkL (f:=fun _=>true) ?_;exact h
  exact absurd rfl hc
 ·wp_walk
  ·rw[zg8];refine Uv (cs:=pD bs) (D:=fun t=>.tuple [t,t]) (fun _=>.bool true) (by rw[JM];lia) ?_ ?_
   ·intro t y J L v;wp_walk;refine zfl v (.inr ⟨C,?_⟩);obtain⟨b,_,rfl⟩:=cE.mp y;exact⟨b,rfl⟩
   wp_walk using zkL (f:=fun _=>true) ?_;rw[show((pD bs).all fun _=>true)=true from dw.mpr fun _ _=>rfl];exact h
  exact absurd rfl hc
theorem zfB(D:Dq Z.K Z.mg "_law_same" (top 23) ["_law_one","_law_due"]) (T:Txt Z.mg):zdv Z:=(zbz D T 2 (zbz D T 1 (zbz D T 0 (zoW D fun _ _ _ h=>h))))
def zbH:GD:=fun ts n R=>∃(bits:Int) (bs:BL),ts=[.tuple (pD bs)]/\bits<=64/\Ptc bits bs/\bs.length<=1000000/\(∀q∈bs.zip bs.tail,¬(cY q.1.1 (2 ^ q.1.2.toNat)=q.2.1/\q.1.2=q.2.2))/\R (.bool true) n
theorem zc1{bits:Int}{bs:BL}{n:Nat}{R:qN}(v:bits<=64)(P:Ptc bits bs)(l:bs.length<=1000000)(hx:∀q∈bs.zip bs.tail,¬(cY q.1.1 (2 ^ q.1.2.toNat)=q.2.1/\q.1.2=q.2.2))(h:R (.bool true) n):zbH [.tuple (pD bs)] n R:=⟨bits,bs,rfl,v,P,l,hx,h⟩
theorem zm3:∀{l:BL},(l.Pairwise fun a b=>eB a<=b.1)->∀q∈l.zip l.tail,eB q.1<=q.2.1
 | [],_=>by simp
 | [a],_=>by simp
 | a::b::l,h=>by
  rw[bo]at h;intro q o;have o:q=(a,b)\/q∈(b::l).zip (b::l).tail:=by simpa using o
  rcases o with rfl|o;exact h.1 b (.head _);exact zm3 h.2 q o
def zbF(Z:ZZ):Prop:=FQ Z "_law_is_fewest" (top 24) ["_law_patch"] 1 (spD Z.K 1 zbH)
theorem zcI(D:Dq Z.K Z.mg "_law_is_fewest" (top 24) ["_law_patch"]) (T:Txt Z.mg):zbF Z:=by
 refine' okQ D (fnS (N:=["_law_patch","_law_begin","_law_height","_law_later","_law_other"]) (by decide +kernel)) rfl fun f J A outer s H E G=>⟨_,(Je (QK dN rfl (Y7 T.zip (Jr 0) (zk7 (dlv 0) (Ur Jg) Zn)) (J5 rfl (Jt (J5 rfl (Jt (dgv 1 (ndB rfl)) (Jt (dgv 2 (ndB rfl)) JY))) (Jt (J5 rfl (Jt (dgv 3 (ndB rfl)) (Jt (dgv 4 (ndB rfl)) JY))) JY))) (Jd (JQ (UM (zrM (J1 YA gp_B (dl (Qc (dlv 1) (dl (JX dli (dlv 2))))) (dlv 3) (JE _)) (znv (UM (zkU (J1 (Qe G) Qb (dlv 2) (dlv 4) (JE _)) (zgS (J1 (Qe G) Qb (dl (znz (dlv 1) (dl (JX dli (dlv 2))))) (dlv 3) (JE _)))))))) (Jd (Jn UH)) JZ))) (Jd (Jn (QQ zeW T.isi T.tup Ub (dlv 0) Js)))),?_⟩;intro ts n R Y h;obtain⟨bits,bs,rfl,b1,P,l,hx,h⟩:=h;wp_walk;rw[zh_,zpC];refine zkS 1 2 3 4 (fun k _ _ _ _ m=>m=n) rfl ?_ ?_
 ·rintro k u _ _ _ _ m K RT U o rfl x S L;obtain⟨q,eq,rfl⟩:∃q:(Int×Int)×(Int×Int),(bs.zip bs.tail)[k]?=some q/\u=.tuple [prD q.1,prD q.2]:=by
   rw[aN]at o;cases z:(bs.zip bs.tail)[k]? with
   | none=>rw[z]at o;cases o
   | some q=>rw[z]at o;exact⟨q,rfl,(aQ o).symm⟩
  have v:=aP eq;have C:=P.1 _ (cS v).1;have I:0<=q.1.2:=C.1;have g1:q.1.2<=bits:=C.2.1;have up:q.1.1+2 ^ q.1.2.toNat<=q.2.1:=zm3 P.2 _ v;have no:=hx _ v;wp_walk;exact cpow I (by lia);exfalso;rw[cU]at hc;lia;exact cpow I (by lia);exact absurd ⟨by rw[cU]at hc;exact hc,by assumption⟩ no;exact x _ _ _ _ _ rfl;exact x _ _ _ _ _ rfl
 ·rintro _ _ _ _ m rfl;wp_walk;exact h
def hasB(bs:qB)(x:Int):Bool:=bs.any fun b=>decide (b.1<=x)&&decide (x<eB b)
theorem zmH{bs:qB}{x:Int}:hasB bs x=true↔mB x bs:=by unfold hasB mB;rw[sN];constructor;rintro⟨b,l,h⟩;rw[cc,decide_eq_true_iff,decide_eq_true_iff]at h;exact⟨b,l,h⟩;rintro⟨b,l,h⟩;exact⟨b,l,by rw[cc,decide_eq_true_iff,decide_eq_true_iff];exact h⟩
def zep:GD:=fun ts n R=>∃(t:ah) (bs:qB) (x:Int),ts=[t,.int x]/\(t=.list (pD bs)\/t=.tuple (pD bs))/\(∀b∈bs,0<=b.2/\b.2<=64)/\bs.length<=1000000/\R (.bool (hasB bs x)) n
theorem zi6{t:ah}{bs:qB}{x:Int}{n:Nat}{R:qN}(v:t=.list (pD bs)\/t=.tuple (pD bs))(w:∀b∈bs,0<=b.2/\b.2<=64)(l:bs.length<=1000000)(h:R (.bool (hasB bs x)) n):zep [t,.int x] n R:=⟨t,bs,x,rfl,v,w,l,h⟩
def zei(Z:ZZ):Prop:=FQ Z "_law_has" (top 25) ["_law_patch","_law_address"] 1 (spD Z.K 2 zep)
theorem zgE(D:Dq Z.K Z.mg "_law_has" (top 25) ["_law_patch","_law_address"]) (T:Txt Z.mg):zei Z:=by
 refine' okQ D (fnS (N:=["_law_patch","_law_address"]) (by decide +kernel)) rfl fun f y A outer s H E G=>⟨_,(Jd (Jn (JJ (zgf rfl) zns T.any zgg (Jk (dl (Jm (dnc ["_law_begin","_law_height"] [1] (dil (znx (Jr 0))) (fun _ _ _ _=>(J5 rfl (Jt (dgv 0 (ndB rfl)) (Jt (dgv 1 (ndB rfl)) JY)))) (fun _ _ _ _=>(zmS zka zkR (zj9 G) zkQ (dlv 0) (dlv 2) (dl (Qc (dlv 0) (dl (JX dli (dlv 1)))))))))) JA U8)))),?_⟩;intro ts n R I h;obtain⟨t,bs,x,rfl,v,w,l,h⟩:=h;rcases v with rfl|rfl;all_goals
  wp_walk;refine Uv (cs:=bs) (D:=prD) (fun b=>.bool (decide (b.1<=x)&&decide (x<eB b))) (by lia) ?_ ?_
  ·intro b C J L u;have S:=w b C;wp_walk;exact cpow (by lia) (by lia);rw[Zw];rw[decide_eq_true hc,mS]at u;exact u;rw[decide_eq_false hc,lG]at u;exact u
  ·wp_walk using znq ?_;exact h
theorem zjC{bits:Int}(y:0<=bits){rs:RL}(Q:Rls bits rs):∀x,SgX rs x 1->0<=x/\x<2 ^ bits.toNat:=fun x h=>by rcases h with⟨e,_⟩|⟨r,l,v,_⟩;lia;have:=((Q.1 r l).1).bounds y;unfold inb eB at v;lia
theorem znB{ps:BL}{lo hi:Option Int}:∃qs:BL,cutD (pD ps) lo hi=pD qs/\(∀q∈qs,q∈ps)/\qs.length<=ps.length:=by unfold cutD;generalize HT.sIx (pD ps).length 0 lo=a;generalize HT.sIx (pD ps).length (pD ps).length hi=b;refine⟨(ps.drop a).take (b - a),by unfold pD;rw[vF,vG],fun q h=>gS (fM h),?_⟩;rw[dQ,gW];lia
def zdQ:GD:=fun ts n R=>∃(bits:Int) (rs:RL),ts=[HAND,.int bits,.tuple (L2.rD rs)]/\1<=bits/\bits<=64/\Rls bits rs/\rs.length<=40/\n<=1000000000/\∀m:Nat,m<=n+20->R (.bool true) m
theorem zg1{bits:Int}{rs:RL}{n:Nat}{R:qN}(y:1<=bits)(v:bits<=64)(A:Rls bits rs)(l:rs.length<=40)(x:n<=1000000000)(h:∀m:Nat,m<=n+20->R (.bool true) m):zdQ [HAND,.int bits,.tuple (L2.rD rs)] n R:=⟨bits,rs,rfl,y,v,A,l,x,h⟩
def zdu(Z:ZZ)(l:aj):Prop:=FQT Z l QL "_law_wide" (top 26) ["_law_hand_here","_law_bits","_law_rules_here"] 7 3 zdQ
theorem zfy  {PL:aj}(D:Dq Z.K Z.mg "_law_wide" (top 26) ["_law_hand_here","_law_bits","_law_rules_here"]) (K0:zcG Z) (K4:zbF Z) (KQ:UB Z) (Lh:zei Z) (K1:zb_ Z PL) (T:Txt Z.mg):zdu Z PL:=by
 obtain⟨f,fd,D⟩:=D;refine⟨f,fd,D,D.okT (fnS (N:=["_law_hand_here","_law_bits","_law_rules_here","_law_found","_law_some","_law_begin","_law_height","_law_end"]) (by decide +kernel)) rfl fun cdv A outer s H E _ G hP=>?_⟩;refine'⟨_,(Je (dsv 3 (ndB rfl) (Jf K0 G (dbv 1 (dbv 2 Jb)))) (Je (dsv 4 (ndB rfl) (Jm (Y8 (dl (Jm (J6 (dbc Jg (dbc (Qd (dl (JX dli (dlv 1))) dli) Jb))))) (dl (Jm (dnc ["_law_turn"] [0,1] (dil (Ym T.ran Jg)) (fun _ _ _ _=>(dgv 0 (ndB rfl))) (fun _ _ _ _=>(Jf KQ G (dbv 1 (dbc (JX dli (dlv 2)) Jb)))))))))) (Je (QK dN rfl (Uq (Jm (Y8 (dl (Jm (Y8 (dl (Jm (dnc ["_law_rule"] [] (dil (U3 (Jr 2))) (fun _ _ _ _=>(dgv 0 (ndB rfl))) (fun _ _ _ _=>(JT (dlv 0) dli))))) (dl (Jm (Zq (dl (Jm (zkZ T.lst (dlv 3) Js))) Zn (Ur Jg))))))) (dl (Jm (Zq (dl (Jm (zkZ T.lst (dlv 3) Js))) (Ur (U2 Jg)) Zn)))))) (J5 rfl (Jt (dgv 5 (ndB rfl)) (Jt (dgv 6 (ndB rfl)) JY))) (Je (dsv 7 (ndB rfl) (Qc (dlv 5) (dl (JX dli (dlv 6))))) (Jd (dsv 4 (ndB rfl) (Jm (Y8 (dlv 4) (dl (Jm (J6 (dbv 5 (dbc (Qd (dlv 7) dli) (dbc (JJ (ZB rfl) YX T.max Zz (Jk dli (Jk (dl (Qd (dlv 5) dli)) JA YQ) UU)) (dbc (JJ (Yl rfl) UW T.min Yk (Jk (dlv 7) (Jk (dl (Qd (dl (JX dli (dlv 1))) dli)) JA YQ) Js)) Jb))))))))))))) (Je (JQ (Za (Qw (dl (Jf K4 G (dbv 3 Jb))))) (Jd (Jn UH)) JZ) (Jd (Jn (JJ (ZA rfl) YW T.all Zy (Jk (dl (Jm (dnc ["_law_address"] [3,2] (dil (Uq (Jr 4))) (fun _ _ _ _=>(dgv 0 (ndB rfl))) (fun _ _ _ _=>(QJ (Qe G) Qb (dl (Jf Lh G (dbv 1 (dbv 0 Jb)))) (dl (QJ (Qe G) Qb (dl (zla K1 (zm7 hP) G (dbv 2 (dbv 0 Jb)))) dli (JE _))) (JE _)))))) JA U8)))))))),?_⟩;intro ts n R hl h;obtain⟨bits,rs,rfl,b0,b1,A,l,hn,h⟩:=h;have bb:0<=bits:=by lia
 have tp:=Bd.Qt bits.toNat;have t64:(2:Int) ^ bits.toNat<=2 ^ 64:=J9 (by lia);wp_walk using zew bb b1 A ?_ (fun ps C lp=>?_);any_goals (first|lia|exact cpow (by lia) (by lia)|decide)
 have wr:=zjC bb A;have P:=C.ptc bb wr;have RK:=ZK (znV A);refine zlm (fun j acc m'=>m'<=n+j/\∃bs:List Int,acc=bs.map .int/\bs.length<=j/\∀b∈bs,0<=b) ⟨fj _ _,[],rfl,aD _,fun b U=>nomatch U⟩ ?_ ?_
 ·rintro k x acc m' K ek ⟨hm',bs,rfl,hlb,U⟩ hK;obtain⟨hk,rfl⟩:=ZP ek;have hk:k<10:=hk;have p64:=zfs (k:=bits.toNat) (by lia);wp_walk using Ui ?_ ?_ ?_ (fun r r0 r1=>?_);any_goals (first|lia|exact cpow (by lia) (by lia))
  rw[aR];lia;refine hK _ _ ⟨by lia,bs++[r],by rw[dM];rfl,by simp only[aS,aL,cT];lia,fun b y=>?_⟩;rcases aC.mp y with y|y;exact U b y;cases aF.mp y;exact r0
 rintro acc m ⟨hm',bs,rfl,hlb,U⟩;have e10:(J8 0 (vW 10)).length=10:=by decide
 rw[e10]at hm' hlb;wp_walk;rw[aR];simp;lia;refine Uv (cs:=rs) (D:=fun r=>.tuple [.tuple [.int r.1.1,.int r.1.2],.int r.2]) (fun r=>prD r.1) (by lia) ?_ ?_
 ·intro r G K2 X2 S;wp_walk;exact S
 have er:(rs.map fun r=>prD r.1)=pD (rs.map (·.1)):=by unfold pD;rw[cD];rfl
 rw[er];obtain⟨q1,e1,s1,l1⟩:=znB (ps:=ps) (lo:=none) (hi:=some 20);obtain⟨q2,e2,s2,l2⟩:=znB (ps:=ps) (lo:=some (-20)) (hi:=none);obtain⟨L,eL⟩:∃L:BL,L=rs.map (·.1)++q1++q2:=⟨_,rfl⟩;have lpp:ps.length<=10400:=bZ lp (by lia);have LB:∀q∈L,IsBk bits q.1 q.2:=fun q I=>by rw[eL]at I;rcases aC.mp I with I|I;rcases aC.mp I with I|I;obtain⟨r,G,rfl⟩:=cE.mp I;exact(A.1 r G).1;exact P.1 q (s1 q I);exact P.1 q (s2 q I)
 have lL:L.length<=21000:=by rw[eL,aS,aS,aR];lia
 wp_walk;rw[e1,JM,JM,aR];lia;rw[e1,e2,aS,JM,JM,JM,aR];lia;rw[e1,e2,zj7,zj7,<- eL];refine zkS 4 5 6 7 (fun k c4 _ _ _ m'=>m'=m/\∃as:List Int,c4=some (.val (.list (as.map .int)))/\(∀a∈as,0<=a)/\as.length<=20+4*k) ?_ ?_ ?_;refine⟨rfl,0::(1*2 ^ bits.toNat - 1)::bs,rfl,fun a J=>?_,by simp;lia⟩;rcases au.mp J with rfl|J;exact aV _;rcases au.mp J with rfl|J;lia;exact U a J
 ·rintro k t c4 _ _ _ m' K RT BK ek ⟨rfl,as,rfl,J,hla⟩ hK hRT hBK;obtain⟨i,g,eb,rfl⟩:=zj6 ek;have hk:=(aH.mp eb).1;have Bb:=LB _ (aP eb);have bd:=Bb.bounds bb;have g0:0<=g:=Bb.1;have g1:g<=bits:=Bb.2.1;have pg:=Bd.Qt g.toNat;dsimp only at bd;wp_walk;any_goals (first|exact cpow (by lia) (by lia)|(rw[aR];simp;lia))
  refine hK _ _ _ _ _ ⟨rfl,as++[i,i+1*2 ^ g.toNat - 1,if i - 1 > 0 then i - 1 else 0,if 1*2 ^ bits.toNat - 1<i+1*2 ^ g.toNat then 1*2 ^ bits.toNat - 1 else i+1*2 ^ g.toNat],?_,fun a y=>?_,?_⟩;rw[dM];rfl;rcases aC.mp y with y|y;exact J a y;simp only[au,bq,or_false]at y;generalize (2:Int) ^ g.toNat=X at *;generalize (2:Int) ^ bits.toNat=Y at *;rcases y with rfl|rfl|rfl|rfl;lia;lia;split <;> lia;split <;> lia;simp only[aS,aL,cT];lia
 ·rintro c4 _ _ _ m' ⟨rfl,as,rfl,J,hla⟩;rw[JM]at hla;have nh:∀q∈ps.zip ps.tail,¬(cY q.1.1 (2 ^ q.1.2.toNat)=q.2.1/\q.1.2=q.2.2):=C.nohalf bb wr;wp_walk using zc1 b1 P ?_ nh ?_;lia;refine Uv (cs:=as) (D:=cg) (fun _=>.bool true) (by lia) ?_ ?_
  ·intro a y K2 X2 S;wp_walk;refine zi6 (.inr rfl) (fun b U=>?_) (by lia) ?_;have:=P.1 b U;exact⟨this.1,by have:=this.2.1;lia⟩;wp_walk;refine zdY (.inr rfl) b1 (J a y) (fun r G=>(A.1 r G).1) (by lia) fun s hs=>?_;have key:hasB ps a=decide (s=1):=by
    rw[ic,zmH,decide_eq_true_iff,C.mem];exact⟨fun z=>zeG RK hs z,fun e=>e▸hs⟩
   rw[key];wp_walk;rw[decide_eq_true rfl];exact S
  wp_walk using zkL (f:=fun _=>true) ?_;rw[show(as.all fun _=>true)=true from dw.mpr fun _ _=>rfl];exact h _ (by lia)
theorem zqG{f:aj}{fd:dz}{PL:aj}(D:Def Z.K Z.mg "law" (top 27) ["_law_script"] f fd) (Ld:zdx Z) (K6:zcV Z) (K9:zcm Z) (KR:Yr Z) (Le:zdu Z PL) (KY:zdv Z) (K1:zb_ Z PL) (K0:zcG Z) (T:Txt Z.mg):FnOk Z.P Z.w Z.K Z.mg Z.base CX0 8 f fd ["_law_script"] (spT PL QL (spD Z.K 1 zrC)):=by
 refine D.okT (fnS (N:=["_law_script","_law_k","_law_hand_here","_law_bits","_law_most","_law_rules_here","_law_due"]) (by decide +kernel)) rfl fun cdv A outer s H E _ y hP=>?_;refine'⟨_,(Je (QK dN rfl (Ym T.ran (JJ (ZB rfl) YX T.max Zz (Jk dli (Jk (dl (JJ (Yl rfl) UW T.min Yk (Jk (dl (JJ Uz Uk T.len Q7 (Jk (dlv 0) JA Js))) (Jk dli JA UU) Ut))) JA Ut) UU))) (dgv 1 (ndB rfl)) (zkW (i:=2) (j:=1) Ld y (ndB rfl) rfl (iA rfl) (Je (zrP (i:=3) (j:=4) rfl (ndB rfl) rfl rfl (by decide) rfl rfl (dbc (Jf KR y (dbv 2 (dbc (Jm (J6 (dbc Jg (dbc Jg (dbc Jg (dbc Jg (dbc Jg (dbc Jg (dbc Jg (dbc Jg Jb)))))))))) Jb))) (dbc (Jf KR y (dbv 2 (dbc (Jm (J6 (dbc Jg (dbc Jg (dbc Jg (dbc Jg (dbc Jg (dbc Jg (dbc Jg (dbc Jg Jb)))))))))) Jb))) Jb))) (Je (dsv 5 (ndB rfl) (Jf K6 y (dbv 2 (dbv 3 (dbv 4 Jb))))) (Je (dsv 6 (ndB rfl) (Jf K9 y (dbv 3 (dbc (Jm (dnc ["_law_address"] [5] (dil (Ym T.ran (JX dli (dlv 3)))) (fun _ _ _ _=>(dgv 0 (ndB rfl))) (fun _ _ _ _=>(QJ (Qe y) Qb (dl (zla K1 (zm7 hP) y (dbv 1 (dbv 0 Jb)))) dli (JE _))))) Jb)))) (Je (JQ (UM (zrM (Za (Qw (dl (Jf KY y (dbc (Jf K0 y (dbv 3 (dbv 5 Jb))) (dbv 6 Jb)))))) (znv (Za (Qw (dl (Jf KY y (dbc (Jf K0 y (dbv 3 (dbv 5 Jb))) (dbv 6 Jb))))))))) (Jd (Jn UH)) JZ) (Je (dsv 3 (ndB rfl) (Jf KR y (dbv 2 (dbc (Jm (J6 (dbc Jg (dbc Jg (dbc Jg Jb))))) Jb)))) (Jd (JQ (Za (Qw (dl (zla Le hP y (dbv 2 (dbv 3 (dbc (Jf K6 y (dbv 2 (dbv 3 (dbc (JJ (Yl rfl) UW T.min Yk (Jk (dlv 4) (Jk dli JA UU) Js)) Jb)))) Jb))))))) (Jd (Jn UH)) JZ))))))))) (Jd (Jn UH))),?_⟩;intro ts n R hl hh;obtain⟨ns,rfl,hl63,hh⟩:=hh;wp_walk;split <;> (try split) <;> lia;split <;> (try split) <;> lia;refine Yc (fun _ ρ m=>(∃c1 c3 c4 c5 c6,ρ=[some (.val (SCR ns)),c1,none,c3,c4,c5,c6])/\m=n) ⟨⟨_,_,_,_,_,rfl⟩,rfl⟩ ?_ ?_
 ·rintro k t ρ m K et ⟨⟨c1,c3,c4,c5,c6,rfl⟩,rfl⟩ hK;obtain⟨hk,rfl⟩:=ZP et;have hk8:k<8:=by
   revert hk;split <;> (try split) <;> lia
  clear hk et;have kn:(0:Int)+(k:Int)<=100:=by lia
  have k0:0<=(0:Int)+(k:Int):=by lia
  generalize (0:Int)+(k:Int)=kk at *;wp_walk;refine zmD hl63 (by lia) (by lia) fun NX RT BK CT hNX hRT hBK hCT=>?_;wp_walk;refine Yj (by decide) (by decide) (by lia) (fun x hx=>?_);obtain⟨bits,rfl,b0,b1⟩:∃bits:Int,x=.int bits/\1<=bits/\bits<=8:=by simp only[au,bq,or_false]at hx;rcases hx with rfl|rfl|rfl|rfl|rfl|rfl|rfl|rfl <;> exact⟨_,rfl,by decide,by decide⟩
  wp_walk;refine Yj (by decide) (by decide) (by lia) (fun x hx=>?_);obtain⟨most,rfl,m0,m1⟩:∃most:Int,x=.int most/\0<=most/\most<=40:=by simp only[au,bq,or_false]at hx;rcases hx with rfl|rfl|rfl|rfl|rfl|rfl|rfl|rfl <;> exact⟨_,rfl,by decide,by decide⟩
  have J:0<=bits:=by lia
  have p8:=p8b J b1;wp_walk;refine zcZ b0 (by lia) m0 (by lia) (by lia) fun rs m2 A lr hm2=>?_;have RO:=znV A;have RK:=ZK RO;have IR:YG bits.toNat rs:=zmB J fun r y=>(A.1 r y).1;have wr:=zjC J A;wp_walk;any_goals (first|lia|exact cpow (by lia) (by lia))
  refine Uv (cs:=eJ (1*(2:Int) ^ bits.toNat).toNat) (D:=fun k:Nat=>cg (0+(k:Int))) (fun k=>.bool (decide (decT (sgAt rs) bits.toNat 0 0 (k:Int)=1))) (by rw[gO];lia) ?_ ?_
  ·intro x hx K2 X2 Y;have hx:=lC.mp hx;wp_walk;refine zdY (.inr rfl) (show bits<=64 by lia) (by lia) (fun r y=>(A.1 r y).1) (by lia) (fun s hs=>?_);rw[Int.zero_add]at hs;rw[(zjD RK IR (by lia) (by lia)).mp hs]at Y;wp_walk;exact Y
  obtain⟨U,I⟩:∃U:List Bool,U=(eJ (1*(2:Int) ^ bits.toNat).toNat).map fun k:Nat=>decide (decT (sgAt rs) bits.toNat 0 0 (k:Int)=1):=⟨_,rfl⟩;have el:((eJ (1*(2:Int) ^ bits.toNat).toNat).map fun k:Nat=>eU (decide (decT (sgAt rs) bits.toNat 0 0 (k:Int)=1)))=bD U:=by rw[I];unfold bD;rw[cD];rfl
  rw[el];have tl:(U.length:Int)=2 ^ bits.toNat:=by rw[I,aR,gO];lia
  have T:ThOk bits U fun x=>SgX rs x 1:=⟨tl,fun x hx=>by rw[I,aN,kQ (by lia)];show some (decide _)=some true↔SgX rs (x:Int) 1;rw[zjD RK IR (by lia) (by lia)];simp⟩;wp_walk;refine ze4 J b1 T fun qs M lq=>?_;have same:∀ps,CanP (fun x=>SgX rs x 1) ps->ps=qs:=fun ps C=>M.eq J C (fun x=>⟨fun z=>z.2.2,fun z=>⟨(wr x z).1,(wr x z).2,z⟩⟩) fun x z=>⟨z.1,z.2.1⟩;have cp:∀{S:qN} {L:Nat},S (.tuple (pD qs)) L->zcL [.int bits,.tuple (L2.rD rs)] L S:=fun y=>zew J (by lia) A (by lia) fun ps C _=>by rw[same ps C];exact y
  wp_walk using cp ?_,zg2 ?_ ?_;lia;lia;refine Yj (by decide) (by decide) (by lia) (fun x hx=>?_);obtain⟨G,rfl,w0,w1⟩:∃G:Int,x=.int G/\1<=G/\G<=64:=by simp only[au,bq,or_false]at hx;rcases hx with rfl|rfl|rfl <;> exact⟨_,rfl,by decide,by decide⟩
  have mn:∀{S:qN} {L:Nat},L<=100000->(∀(rs:RL) (m:Nat),Rls G rs->rs.length<=40->m<=L+1000->S (.tuple (L2.rD rs)) m)->zbO [HAND,.int G,.int (if 16<most then 16 else most)] L S:=fun hn h=>by refine zcZ w0 w1 (by split <;> lia) (by split <;> lia) (by lia) fun rs m A l hm=>h rs m A ?_ ?_;split at l <;> lia;split at hm <;> lia
  wp_walk;refine mn (by lia) fun rs3 m3 A3 l3 hm3=>?_;wp_walk;refine zg1 w0 w1 A3 l3 (by lia) fun m4 hm4=>?_;wp_walk;exact hNX _ _ (hK _ _ ⟨⟨_,_,_,_,_,rfl⟩,rfl⟩)
 ·rintro ρ m ⟨⟨c1,c3,c4,c5,c6,rfl⟩,rfl⟩;wp_walk;exact hh _
end
section
open PySem.W PyProof.Rows
def pw:aJ:=PySem.Challenge.pw_blockdeal_k15_patches_by_rules
def zts:eK->Bool
 | .FunctionDef ..=>true
 | .ClassDef ..=>true
 | .Assign [.Name x _] _ _=>!(x == aM "__name__")
 | _=>false
def qv:aJ:={ pw with main:={ pw.main with body:=pw.main.body.filter zts } }
theorem znW:recsOf qv=(pw.main.body.filter YY).map recD:=by kernel_rfl
theorem zkj{i:Nat}(h:YY (top i)=true):recD (top i)∈recsOf qv:=by rw[znW];exact f9 (fA.mpr ⟨getD_mem h,h⟩)
theorem dqG{i:Nat}{x:Str}{ps:List Str}{u:rT->Option af}{mg l:qM}{h:aW}{c P:aj}(y:t9 [(c,P)] h)(T:i9 qv (looseW qv []) u mg l h)(v:BndA x (top i) ps)(h1:YY (top i)=true:=by kernel_rfl)(o:defName (top i)=x:=by kernel_rfl):Dq (JP (gho h c P)) mg x (top i) ps:=zrQ y T (zkj h1) o v
def zrE:List Str:=[aM "isinstance",aM "int",aM "bool",aM "tuple",aM "len",aM "min",aM "max",aM "str",aM "repr",aM "all",aM "any",aM "range",aM "sum",aM "sorted",aM "list",aM "abs",aM "zip",aM "dict",aM "reversed",aM "enumerate",aM "ValueError"]
def zrF(x:Str):Bool:=!startupNames.contains x&&!(looseW qv []).contains x&&!((recsOf qv).map (·.name)).contains x&&!((litsOf qv).map (·.1)).contains x&&!((clssOf qv (looseW qv [])).map (·.name)).contains x
theorem zoU:zrE.all zrF=true:=by kernel_rfl
theorem zoV{o:rT->Option af}{mg l:qM}{h:aW}(T:i9 qv (looseW qv []) o mg l h){x:Str}(m:x∈zrE):mg x=none:=by have e:=dw.mp zoU x m;unfold zrF at e;simp only[cc,gM,List.contains_eq_mem,decide_eq_false_iff_not]at e;obtain⟨⟨⟨⟨a,b⟩,c⟩,d⟩,f⟩:=e;exact T.free x a b c d f
theorem zpI{o:rT->Option af}{mg l:qM}{h:aW}(T:i9 qv (looseW qv []) o mg l h):Txt mg:=by constructor <;> exact zoV T (List.contains_iff_mem.mp (by kernel_rfl))
theorem znO:PySem.Challenge.rw_blockdeal_k15_patches_by_rules.wellSaid=true:=by kernel_rfl
theorem zqL(w:a7)(os:rV):(QS treeTable pw w 11 ((dF (w).params).nsMap mainGlobals "__annotations__") 20000 (zi7 w os) (topStub pw)).map (fun s=>(YD pw (dF (w).params) s.abs,(xZ ka) s.abs))=some (true,(x6 ka) w):=by kernel_rfl
theorem zqK(w:a7)(os:rV):(QS treeTable pw w 11 ((dF (w).params).nsMap mainGlobals "__annotations__") 20000 (zi7 w os) (topStub pw)).map (fun s=>(openSeen qv [] (importedModules pw.main.body) (fun s=>xlAt qv [] s&&recOk (n0 PySem.Challenge.rw_blockdeal_k15_patches_by_rules.row.toRowW) s) true s.abs).1)=some (openGood qv []).1:=by kernel_rfl
theorem zqJ(w:a7)(os:rV):(QS treeTable pw w 11 ((dF (w).params).nsMap mainGlobals "__annotations__") 20000 (zi7 w os) (topStub pw)).map (fun s=>(openSeen qv [] (importedModules pw.main.body) (fun s=>xlAt qv [] s&&recOk (n0 PySem.Challenge.rw_blockdeal_k15_patches_by_rules.row.toRowW) s) true s.abs).2)=some (openGood qv []).2:=by kernel_rfl
theorem ztr(w:a7)(os:rV):(QS treeTable pw w 11 ((dF (w).params).nsMap mainGlobals "__annotations__") 20000 (zi7 w os) (topStub pw)).map (fun s=>(YD pw (dF (w).params) s.abs,openSeen qv [] (importedModules pw.main.body) (fun s=>xlAt qv [] s&&recOk (n0 PySem.Challenge.rw_blockdeal_k15_patches_by_rules.row.toRowW) s) true s.abs,(xZ ka) s.abs))=some (true,openGood qv [],(x6 ka) w):=map3 (zqL w os) (zqK w os) (zqJ w os)
theorem zoz:LeftO pw qv [] (fun s=>xlAt qv [] s&&recOk (n0 PySem.Challenge.rw_blockdeal_k15_patches_by_rules.row.toRowW) s) (xZ ka) (x6 ka) 20000:=zks (by kernel_rfl) (by decide) (fun _=>rfl) (ztr)
theorem zr2{Lq:rT->Option af}{mg mb:qM}{h:aW}{w:a7}{L:aj}(T0:i9 qv (looseW qv []) Lq mg mb h)(J:mg (defName (top 27))=some (.ref L)) :
  ∃(c P:aj) (qn:Str) (fd:dz),t9 [(c,P)] h/\isCodeTable h P/\(∀(s:aq) (v:af),tJ s fd ⟨[v],[]⟩ [("_law_script",v)])/\∀base:aW,(JP (gho h c P)).In base->base.Ns mainGlobals mg->FnOk PySem.Challenge.rw_blockdeal_k15_patches_by_rules.prog w (JP (gho h c P)) mg base CX0 8 L fd ["_law_script"] (spT P qn (znL (JP (gho h c P)))):=by
 have T:=zpI T0;obtain⟨c,P,l,G,hL⟩:=zsI (x:="_law_sign") T0 (zkj (i:=21) (by kernel_rfl)) (by kernel_rfl);obtain⟨f,fd,DL⟩:=zrQ (x:="law") (ps:=["_law_script"]) l T0 (zkj (i:=27) (by kernel_rfl)) (by kernel_rfl) fun _ _ _ _ _ _ us hl=>by obtain⟨_,rfl⟩:=len1 hl;rfl
 have e0:aO f=aO L:=aQ (DL.m.symm.trans J);cases e0;refine⟨c,P,QL,fd,l,G,fun s v=>?_,fun base hB _=>?_⟩;obtain⟨oc,od,kV,doc,pm,an,cdv,ct,Y,rfl,_,_⟩:=DL.F.ex;exact .of_eq rfl;let Z:ZZ:=⟨PySem.Challenge.rw_blockdeal_k15_patches_by_rules.prog,w,JP (gho h c P),mg,base⟩;have LZ:=hL base w PySem.Challenge.rw_blockdeal_k15_patches_by_rules.prog hB;have Lj:=ziC (Z:=Z) (dqG (i:=1) l T0 (bnd1 fun _ _ _ _ _ _ _=>rfl))  T;have Lr:=zke (Z:=Z) (dqG (i:=2) l T0 (bnd2 fun _ _ _ _ _ _ _ _=>rfl))  T;have C:=zkd (Z:=Z) (dqG (i:=6) l T0 (bnd1 fun _ _ _ _ _ _ _=>rfl)) Lj T;have K3:=zcr (Z:=Z) (dqG (i:=7) l T0 (bnd2 fun _ _ _ _ _ _ _ _=>rfl))  T;have S:=zop (Z:=Z) (dqG (i:=5) l T0 (bnd2 fun _ _ _ _ _ _ _ _=>rfl)) C K3 T;have Lg:=zgC (Z:=Z) (dqG (i:=8) l T0 (bnd1 fun _ _ _ _ _ _ _=>rfl)) S T;have Ll:=ziE (Z:=Z) (dqG (i:=9) l T0 (bnd1 fun _ _ _ _ _ _ _=>rfl)) C T;have Ls:=zkc (Z:=Z) (dqG (i:=4) l T0 (bnd1 fun _ _ _ _ _ _ _=>rfl)) Lg Ll T;have Lm:=ziD (Z:=Z) (dqG (i:=12) l T0 (bnd3 fun _ _ _ _ _ _ _ _ _=>rfl)) Lr T;have R:=zgD (Z:=Z) (dqG (i:=11) l T0 (bnd2 fun _ _ _ _ _ _ _ _=>rfl)) Ls Lm S C T;have Ld:=zeL (Z:=Z) (dqG (i:=14) l T0 (bnd2 fun _ _ _ _ _ _ _ _=>rfl))  T;have u:=zeK (Z:=Z) (dqG (i:=15) l T0 (bnd2 fun _ _ _ _ _ _ _ _=>rfl))  T;have y:=zfC (Z:=Z) (dqG (i:=16) l T0 (bnd2 fun _ _ _ _ _ _ _ _=>rfl)) u T;have U:=zeN (Z:=Z) (dqG (i:=17) l T0 (bnd2 fun _ _ _ _ _ _ _ _=>rfl)) y u T;have Lc:=zfD (Z:=Z) (dqG (i:=18) l T0 (bnd3 fun _ _ _ _ _ _ _ _ _=>rfl)) y U T;have K8:=zd4 (Z:=Z) (dqG (i:=19) l T0 (bnd3 fun _ _ _ _ _ _ _ _ _=>rfl)) u U Lc y T;have K6:=zeM (Z:=Z) (dqG (i:=20) l T0 (bnd3 fun _ _ _ _ _ _ _ _ _=>rfl)) K8 u T;have N:=zfA (Z:=Z) LZ (dqG (i:=21) l T0 (bnd2 fun _ _ _ _ _ _ _ _=>rfl))  T;have K9:=zd3 (Z:=Z) (dqG (i:=22) l T0 (bnd2 fun _ _ _ _ _ _ _ _=>rfl))  T;have KY:=zfB (Z:=Z) (dqG (i:=23) l T0 (bnd2 fun _ _ _ _ _ _ _ _=>rfl))  T;have K4:=zcI (Z:=Z) (dqG (i:=24) l T0 (bnd1 fun _ _ _ _ _ _ _=>rfl))  T;have Lh:=zgE (Z:=Z) (dqG (i:=25) l T0 (bnd2 fun _ _ _ _ _ _ _ _=>rfl))  T;have Le:=zfy (Z:=Z) (dqG (i:=26) l T0 (bnd3 fun _ _ _ _ _ _ _ _ _=>rfl)) R K4 u Lh N T;exact(zqG (Z:=Z) DL Ld K6 K9 y Le KY N R T).imp fun vs H Q E z=>⟨z.1,zoA vs H Q E z.2⟩
end
end Bd
open PySem PySem.W PyProof.Rows
set_option maxRecDepth 100000 in
set_option maxHeartbeats 0 in
theorem PySem.Challenge.cw_blockdeal_k15_patches_by_rules_holds : PySem.Challenge.rw_blockdeal_k15_patches_by_rules.Holds := by
 w_on
 refine holds_law Bd.znO fun l=>?_;refine holds_open (r:=PySem.Challenge.rw_blockdeal_k15_patches_by_rules.row) (d:=Bd.recD (Bd.top 27)) (kwd:=[]) Bd.zoz (Hook.of ka) (Hook.keeps ka) (fun s e=>xl_of s (o6.mp e).1) XL.keeps (by kernel_rfl) (by kernel_rfl) (by kernel_rfl) (fun s e=>recFacts_of (o6.mp e).2) (by kernel_rfl) l (by kernel_rfl) ⟨rfl,rfl,rfl,rfl,rfl,by decide +kernel⟩ ?hw ?hc
 case hw=>w_witness2
 case hc=>exact Bd.zsG (lw:=PySem.Challenge.rw_blockdeal_k15_patches_by_rules) (k:=8) (by decide) rfl rfl fun w s₀ mg v u h G o=>Bd.zr2 G.T o