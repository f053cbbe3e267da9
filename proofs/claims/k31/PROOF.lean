import PyProof.Rows.All
import Wide.All
import OpenK.AllK
import Wide.FinOn
import Lean
import PyProof.EqAt
import PyProof.EqKinds
import PyProof.TupleCall
import PySem.Challenge.RW_blockdeal_k31_whole_refusals_shown
open PySem.Str renaming ofString->aa,empty->lW,length->nN
open PySem.Expr renaming Name->bv,Subscript->ed,BoolOp->f7,Call->f9,ListComp->i3,Tuple->i4,Constant->jf,Compare->jg,BinOp->jj,Attribute->jq,DictComp->jv,Starred->jx,UnaryOp->jz
open Eq renaming trans->b4,symm->dv
open PySem.Scope renaming names->cr
open PySem.Env renaming scope->d0,locals->hJ,cells->h8,kindOf->jd
open PySem.Data renaming fields->fm,seq->im,dict->jt,func->jE
open PySem.Stmt renaming Assign->ii,FunctionDef->ji,AugAssign->jC
open List.Mem renaming head->jc,tail->jk
open PySem.ScopeKind renaming function->je
open PySem.Pos renaming line->jh
open PySem renaming wpAny_bind->ae,PyData->af,Value->ah,Addr->ai,wpAny_pure->ak,Shared->ax,Program->aK,World->aV,Expr->bg,Heap->bq,Around->bw,wpAny_truthy_bool->cg,wpAny_holding->cu,Paired->cA,wpAny_newObj_type->cL,wpAny_field->cW,wpAny_mono->c8,wpAny_callSpecial?_slot->dF,wpAny_rule->dG,wpAny_seqItems->dJ,FuncData->dU,wpAny_call_entry->eG,DictEntry->eI,OsState->eO,Stmt->e8,NameKind->fk,wpAny_pyIter_list->ft,Builtin->fw,codeAny_builtin->fE,wpAny_typeOf->fK,wpAny_standAt->fO,Scope->fS,wpAny_setField_rec->fV,wpAny_passesOwn->gf,mem_of_lookup->gC,builtinLookup_eq_fast->g8,wpAny_Call_Name_kw->iP,wpAny_of_eq->iW,wpAny_letGo->iX,codeAny_mono->iY,wpAny_tryCatch->kB,IsTupleKey->kO,wpAny_attempt->kW,wpAny_updateSeq_pair->k6,codeAny_call_builtin->k7,wpAny_execs_nil->k9,typeLookup_type->lC,wpAny_pyIter_tuple->l8,sizeLine_eq->mN,IsPart->mW,wpAny_comprehension_free->mX,Builtin->m5,wpAny_newList->m6,wpAny_onRaise->m7,plainId_quiet->m9,noFill_tuple_add->nj,wpAny_isInstance->nE,wpAny_pyNext_list_item->nL,IsPair->nS,wpAny_updateSeq->oa,wpAny_isTrue_Compare1->og,wpAny_pyNext_list_end->oh,wpAny_loadName_local->oE,wpAny_setField->oQ,wpAny_loadName_cell->oX,KeyKind->o9,seq_tuple_add->pd,sub_AttributeError->pM,wpAny_dictSet_heap->pN,wpAny_assign_Name->pP,concat_meets->pW,wpAny_sequenceKey->pX,seqIndex_neg->pY,slot_list_getitem->pZ,Keyword->p7,wpAny_execs_cons->rM,PassesOwn->rN,wpAny_pyIter_zip->r8,wpAny_getItem_of->sy,CmpOp->sG,seqIndex_of->sH,IsZip->sM,wpAny_loadPart'->sP,codeAny_of_tree->sR,pushCells_keeps->sS,wpAny_specialOf->tx,BindsTo->tE,CellsOk->tF,ExcName->tH,Model->tJ,wpAny_Name->tK,Operator->tL,wpAny_bindName->tM,wpAny_load->tN,Result->tR,typeIs_str->tV,sliceRange_one->tW,Params->tX,wpAny_newTuple->t8,isSubtype_stop->ub,PyData->vO,Within->vP,Value->xl,pick_run->xC,ReadsAll->xJ,call->yZ
open PySem.Heap renaming get?_push_of_some->aj,get?_push_size->aB,lt_size->aE,get?_update_other->cM,size_push->eS,get?_push_ne->fB,get?_update_self->fY,SameBut->gn,size_update->ik,NewAttrErr->n9,ExtBut->oP,get?_update_ne->o5,get?->bi,objs->bn,push->ee
open List renaming getElem?_eq_some_iff->aq,mem_append->au,mem_singleton->av,getElem?_eq_getElem->aw,mem_cons->ay,mem_map->aA,size_toArray->aD,length_map->aG,pairwise_iff_getElem->aJ,append_assoc->aM,length_append->aO,length_cons->aP,mem_of_getElem?->aQ,not_mem_nil->aS,map_cons->aU,getElem_of_mem->bh,getElem?_append_right->bp,getD_eq_getElem?_getD->bE,getElem?_map->bK,all_eq_true->bM,drop_eq_getElem_cons->bO,pairwise_append->bP,map_map->bS,take_append_drop->bZ,getElem?_set_ne->cq,pairwise_cons->cx,getElem?_append_left->cy,mem_cons_of_mem->cC,append_nil->cE,replicate->cG,mem_append_right->cI,replicate_succ->cJ,mem_cons_self->cP,mem_filter->cT,pairwise_singleton->cU,take_of_length_le->df,length_nil->dh,range->dw,getElem?_eq_none->dz,mem_iff_getElem?->dB,pairwise_map->dE,mem_of_mem_take->dI,map_append->dM,length_drop->dN,getElem_mem->dO,take_succ->dW,of_mem_zip->dZ,set_cons_succ->eD,length_take->eF,lookup_cons->eJ,getElem?_cons_succ->eK,cons_append->eM,filterMap_cons->eT,nodup_cons->eU,find?_cons->eW,take_length->ff,set_cons_zero->fh,length->fo,getElem?_replicate->fv,getElem?_cons_zero->fC,nil_append->fF,getElem?_set_self->fI,map_nil->fL,drop_of_length_le->fN,mem_append_left->gm,getElem?_set->gu,mem_of_mem_drop->gv,map_congr_left->gD,replicate_zero->gF,getD_cons_succ->gG,getD_cons_zero->gH,map_eq_nil_iff->gJ,length_eq_zero_iff->gL,foldl_cons->gY,length_filter_le->g7,mem_range->hY,any_eq_true->iq,length_set->iJ,mem_filterMap->iO,zip_cons_cons->iQ,lookup_append->iR,forIn_nil->i8,drop_sublist->ke,mapM_toArray->kh,length_range->km,length_replicate->kD,getElem?_reverse->kG,all_toArray->kN,filter_cons->kP,mem_flatten->kR,any_cons->kX,forIn_cons->lh,length_zip->lB,getElem?_range->lD,length_pos_iff->lH,perm_append_comm_assoc->lN,any_map->lR,drop_zero->mF,getElem?_zip_eq_some->mI,mem_drop_iff_getElem->mK,ext_getElem?->mP,flatten_cons->mT,all_cons->ni,zipIdx_cons->nB,map_snd_zip->nC,append_eq_nil_iff->nX,perm_append_comm->oo,eq_nil_or_concat->oA,concat_eq_append->oB,map->oG,drop_drop->oJ,take_take->oK,map_id->oO,forall_mem_cons->oR,mem_map_of_mem->o7,length_reverse->o8,filter_append->pL,any_eq_false->pR,take_sublist->pU,zip_nil_left->pV,drop_length->rS,perm_middle->rX,map_fst_zip->rY,take_left'->sW,zipIdx_nil->tf,nodup_nil->ua,lt_irrefl->uh,take_nil->u4,drop_nil->u5,sum_cons->vp,lookup->xF,not_lt->x9,toArray->bm,set->ce,isEmpty->g5,reverse->jn
open Nat renaming le_refl->aC,lt_of_lt_of_le->aI,ne_of_lt->aW,le_trans->ba,le_add_right->cK,zero_le->cR,sub_one_lt_of_lt->cY,lt_trichotomy->dD,add_le_add_right->dH,lt_of_succ_lt->dR,le_of_lt->eQ,lt_of_le_of_lt->fe,min_eq_left->fD,zero_add->fM,lt_irrefl->gy,lt_or_ge->gP,sub_self->gR,lt_of_le_of_ne->gS,eq_zero_of_not_pos->gU,lt_or_eq_of_le->gV,add_sub_assoc->hW,testBit_succ->ip,add_le_add_left->iy,lt_succ_iff_lt_or_eq->iI,le_antisymm->iM,eq_or_lt_of_le->iS,le_of_succ_le->i7,le_of_lt_succ->kc,mod_eq_zero_of_dvd->ku,dvd_of_mod_eq_zero->kA,le_of_sub_eq_zero->kE,sub_le->kM,le_sub_one_of_lt->kZ,add_lt_add_left->lF,ne_of_gt->lJ,lt_trans->lK,le_succ->mS,shiftLeft_eq->nt,succ_lt_succ->nv,add_sub_cancel_left->nA,testBit_zero->nF,le_mul_of_pos_left->nQ,mul_comm->nT,pow_succ->nU,testBit_and->n8,one_pos->oI,eq_of_testBit_eq->oS,not_le->pK,lt_succ_of_le->rf,succ_pos->rg,le_succ_of_le->rh,lt_succ_of_lt->rA,le_of_not_lt->rR,succ_le_succ->rW,and_le_left->tw,add_assoc->u7,mul_assoc->ve,le_of_eq->wa,sub_zero->wm,le_total->wB,one_mul->xI,le_zero->xM
open Bool renaming and_eq_true->aF,false_ne_true->aT,false_eq_true->bz,false_and->cz,true_and->cD,eq_false_iff->cN,and_eq_true_iff->cO,noConfusion->fj,not_false->fU,eq_iff_iff->gh,not_true->g6,or_eq_false_iff->ie,and_true->iF,or_eq_true->iL,not_eq_true'->i9,and_false->ko,beq_eq_decide_eq->oj,or_false->uZ,false_or->vg,true_or->wD
open PySem.Challenge renaming rw_blockdeal_k31_whole_refusals_shown->aH,pw_blockdeal_k31_whole_refusals_shown->fH
open Int renaming le_refl->aL,mul_le_mul_of_nonneg_right->aZ,le_of_lt->bG,dvd_of_emod_eq_zero->bH,one_mul->bR,le_trans->bT,pow_succ->cB,add_mul->cX,mul_le_mul_of_nonneg_left->cZ,mul_comm->c9,emod_eq_zero_of_dvd->eN,mul_assoc->eP,lt_trichotomy->fA,pow_add->fP,emod_lt_of_pos->fW,emod_nonneg->gj,toNat_natCast->gr,le_ediv_iff_mul_le->gQ,not_lt->gT,natCast_pow->gZ,natCast_zero->ir,mul_neg_of_pos_of_neg->ix,ediv_nonneg->iN,ediv_lt_iff_lt_mul->kb,emod_add_mul_ediv->kH,mul_one->kY,mul_ediv_cancel->lE,lt_or_le->lS,natCast_nonneg->l9,fdiv_eq_ediv_of_nonneg->mh,le_of_mul_le_mul_right->mC,lt_of_mul_lt_mul_right->mG,lt_of_mul_lt_mul_left->mJ,eq_ofNat_of_zero_le->nq,ediv_le_self->nG,le_antisymm->nZ,ediv_lt_of_lt_mul->oz,sub_mul->oH,add_emod->rD,mul_emod_left->rE,mul_add->sN,emod_two_eq->tq,mul_nonneg->t5,dvd_trans->vd,sub_zero->wK,zero_add->wL,toNat->ap
open PyProof.Rows renaming wpS_pure->aN,SortSt->br,wpS_bind->bY,Keyed->cj,slot_tuple_getitem->cQ,SortKind->fG,callWith_type1->fJ,IntsAre->g9,listItems_at->ig,Top->kQ,AllBare->lI,wpS_get->lL,assignInOrder_cons->l7,size_push'->mD,wpS_lift->ny,subscriptTail_builtinR->nM,wpS_modify->nR,IsTup->oC,entry_tuple_getitem->oZ,listUpdate_at->pF,args_tuple_getitem->pJ,assignInOrder_nil->pQ,pairsOf_size->rm,callWith_builtin1->rP,get?_update_seq->sX,oneTypeOnly'_eq->sZ,slicePart_none->tT,Subscript_->tU,oneLt'_eq->vF,lt_int->yi,lt_str->yx
open PySem.PyData renaming hasDict->aR,hasDictAll->bo,int->bu,canLayAll0->bL,canLay0->bX,depthAll->cm,hasDict_of_canLay->cn,str->cH,eqv->dP,bool->dQ,depth->eC,none->fq,eqvAll->iE,tuple->lV,dict->sI,list->sJ
open Option.some renaming inj->aX
open Iff renaming rfl->aY
open Array renaming length_toList->bN,getElem?_toList->cf,toList_append->cS,perm_iff_toList_perm->fT,getElem?_eq_getElem->mH,toList_push->mQ,toList->nK,toList_extract->oM,toList_reverse->oN,toList_modify->o4,size->be
open PySem.Value renaming ref->bQ,type->bU,isStrOf->dS,str->kI,none->kJ,bool->nJ,int->rL,isInt->xn,float->xo,builtin->dL,ellipsis->jw
open PySem.Builtin.SmallTypes renaming nextOf->bV,ownedTupleIsFree->dX,ownedTupleHandOut->iz,stopIteration->rG
open PySem.Builtin renaming bitXor->bW,bitNot->gM,bitAnd->hZ
open PySem.W renaming kia_one->cw,fnOf->eR,boot_heap->fg,kitx_dict->gq,cellsFrom_some->gO,keepIn->iZ,codeIn->i5,methodObj->mM,boot_drawn->nV,instObj->nY,lookIn->oF,boot_toks->oW,kitx_tuple->pG,callWith_K->pH,kitx_list->pS,plainGet->rO,findIn->tP,kitOne->tQ,SharedT->wI
open PySem.PassesOwn renaming never->cF
open PySem.NameKind renaming free->cV,cell->kT
open Classical renaming choose_spec->dA,byContradiction->eZ,choose->kK
open Or renaming inl->dY,inr->sr,elim->h7,resolve_left->jr
open List.cons renaming injEq->eh,inj->iH
open PySem.Builtin.Range renaming rangeSize->eE,small->o6,rangeFitsLong->tG
open PySem.PyData.dict renaming inj->eV,injEq->p8
open False renaming elim->e9
open Option renaming getD_some->fc,map_some->gX,isSome_iff_exists->iB,map_eq_some_iff->nW,isSome_map->rF,getD_none->rQ,bind_some->sF,isSome->f6
open PySem.PyData.tuple renaming inj->fQ,injEq->gW
open PySem.F renaming plain_min_loop->fR,slot_list_reversed->fX,slot_list_getattribute->gA,args_tuple_add_2->iC,entry_tuple_add->iV,slot_tuple_add->i6,slot_list_iadd->kC,args_tuple_iterator_next_1->ly,slot_zip_next->lA,entry_tuple_iterator_next->lQ,slot_tuple_iterator_next->mE,slot_dict_getitem->mL,slot_list_append->mY,type_list_append->mZ,plainAttrs_list->nu,entry_min_loop->nI,args_zip_next_1->rC,entry_zip_next->rZ
open PySem.Builtin.Slice renaming slicePlaces->fZ,sliceAdjust->iu,sliceApplied->mn,slicePartIndex->sQ,sliceFields->uz
open PySem.Builtin.Tuple renaming tupleExact->gz,tupleItemsOf->mw,tupleCompareSizes->rJ,tupleIsExact->t9,tupleHashOf->uB
open PySem.Builtin.Int renaming intBits->gE
open Prod renaming ext->gK
open Ne renaming symm->gN
open PySem.Obj renaming mapSeq->ic,data_mapFields->iU,isFreed_of_fields->ot,cls_mapFields->rB,data->io,cls->jo
open PySem.Paired renaming length->iA,cons->hH,nil->ja
open PySem.Builtin.List renaming listTooLong->iD,listItems->kg,listExtendWith->lO,listUpdate->vE
open List.Pairwise renaming imp_of_mem->iG,nil->mO,sublist->om,and->AI
open ForInStep renaming yield->iK
open PySem.Code renaming quiet_builtin->iT,compLoop->jm,compStart->jy,builtin->jD
open Function renaming comp_def->ka
open List.Perm renaming append_left->kF,trans->lu,refl->t6
open Sum renaming inl->kS,inr->oU
open PySem.Around renaming under_plainId->k8
open PySem.Heap.SameBut renaming update->lG,refl->AG
open PySem.Builtin.Builtins renaming bindParams->lU
open PySem.Calls renaming Name_function_global->lZ,callWith_builtin->nP,call_len_list->oY
open True renaming intro->mi
open PySem.SeqAt.EqAt renaming int_int->mj
open PySem.Builtin.Dict renaming addKeywords->m8,updateFrom->nH,selfAndRest->vh,pairItems->wH
open PySem.AutoListH renaming list___reversed___list_0->ou
open Prod.mk renaming inj->oT,injEq->pE
open And renaming intro->oV
open PyProof.Rows.LSm renaming kept_iter->pf
open PySem.SeqAt renaming EqAt->pI
open PySem.PyData.list renaming injEq->p9
open PySem.W.RowW renaming records->rH
open PySem.Txt renaming slice->se
open PySem.PyData.int renaming injEq->su,inj->uf
open PySem.Heap.DictOfH renaming new->sC
open PySem.Heap.ExtBut renaming push->sD
open Array.Perm renaming refl->sY
open PySem.Walks renaming list->tY
open PySem.Manifest renaming find?->ug
open PySem.EqNone renaming eq_none_none->ui,eq_none_bool->uj,eq_bool_none->uk,ne_none_none->uq,ne_none_bool->ur,ne_bool_none->uu,eq_none_int->uJ,eq_none_str->uK,eq_int_none->uL,eq_str_none->uN,ne_none_int->uP,ne_none_str->uQ,ne_int_none->uR,ne_str_none->uT
open PySem.EqMixed renaming eq_bool_str->um,eq_str_bool->uo,ne_bool_str->uv,ne_str_bool->uw,eq_int_str->uM,eq_str_int->uO,ne_int_str->uS,ne_str_int->uU
open Nat.succ renaming inj->wF
open PySem.Shared renaming heap->xT,toks->eA,gens->ju,drawn->jB
open PySem.Heap.IsSliceOf renaming new->yR
open PySem.W.WShape renaming has->yY
open PyProof.Rows.SortSt renaming mk'->y8
open PySem.Heap.IsTuple renaming push->AJ
open List.Sublist renaming refl->AV
open PySem.Flow renaming next->A3,ret->jA
open PySem.W.WData renaming int->Bq,bool->jF
open PySem.Heap.IsList renaming push->Bz
open Option renaming some->ao,none->bj
open Bool renaming true->du,false->dy
local macro_rules | `(tactic| walk_at "V") => `(tactic| first | exact Or.inl rfl | exact Or.inr (Or.inl rfl) | exact Or.inr (Or.inr rfl))
local macro_rules | `(tactic| walk_at "F") => `(tactic| first | exact .inl rfl | exact .inr rfl | assumption)
abbrev qF:=PySem.W.Frag
abbrev qB:=List (Int×Int)
abbrev qN:=vO->Nat->Prop
abbrev qM:=PySem.Str->Option xl
abbrev qV:=xl->PySem.Shared->Prop
abbrev qD:=List vO
abbrev qO:=List (PySem.Addr×PySem.Obj)
set_option Elab.async false
set_option linter.all false
set_option maxRecDepth 100000
set_option maxHeartbeats 4000000
namespace L2
open PySem PySem.Spec PyProof.Rows
abbrev Ndb(x:Str):Prop:=(x == ("__debug__":Str))=false
abbrev Ncd(x:Str):Prop:=(x == ("__classdict__":Str))=false
abbrev Key:=Sum Int Str
def Yt:Key->ah->Bool
 | kS k,v=>xn k v
 | oU x,v=>dS x v
def keyH(w:aV):Key->Int
 | kS k=>hashInt k
 | oU x=>hashStr w x
theorem UK:∀{k:Key}{v:ah},Yt k v=du->(∃i t,k=kS i/\v=rL i t)\/(∃x t,k=oU x/\v=kI x t)
 | kS i,v,h=>by obtain⟨t,e⟩:=Value.isInt_shape (k:=i) (v:=v) h;exact dY ⟨i,t,rfl,e⟩
 | oU x,v,h=>by obtain⟨t,e⟩:=Value.isStrOf_shape (x:=x) (v:=v) h;exact sr ⟨x,t,rfl,e⟩
theorem zfy(i:Int)(t:Tok):Yt (kS i) (rL i t)=du:=by simp[Yt,xn]
theorem znx(x:Str)(t:Tok):Yt (oU x) (kI x t)=du:=by simp[Yt,dS]
theorem zvx(a b:Int):decide ((kS a:Key)=kS b)=(a == b):=by by_cases e:a=b;subst e;simp;have h:¬(kS a:Key)=kS b:=λq=>e (Sum.inl.inj q);rw[decide_eq_false h];exact(beq_eq_false_iff_ne.mpr e).symm
theorem zvu(a b:Str):decide ((oU a:Key)=oU b)=decide (a=b):=by by_cases e:a=b;subst e;simp;have h:¬(oU a:Key)=oU b:=λq=>e (Sum.inr.inj q);rw[decide_eq_false h,decide_eq_false e]
theorem zvw(a:Int)(b:Str):decide ((kS a:Key)=oU b)=dy:=decide_eq_false (λq=>nomatch q)
theorem zvv(a:Str)(b:Int):decide ((oU a:Key)=kS b)=dy:=decide_eq_false (λq=>nomatch q)
def JJ(prog:aK)(w:aV):o9 prog w Key where
 is:=Yt
 hash:=keyH w
 inj:=λv a b ha hb=>by rcases UK ha with⟨i,t,rfl,rfl⟩|⟨x,t,rfl,rfl⟩;rcases UK hb with⟨j,u,rfl,e⟩|⟨y,u,rfl,e⟩;injection e with e1 _;rw[e1];exact nomatch e;rcases UK hb with⟨j,u,rfl,e⟩|⟨y,u,rfl,e⟩;exact nomatch e;injection e with e1 _;rw[e1]
 byValue:=λk v h=>by rcases UK h with⟨i,t,rfl,rfl⟩|⟨x,t,rfl,rfl⟩ <;> rfl
 pyHash:=λl h=>by rcases UK l with⟨i,t,rfl,rfl⟩|⟨x,t,rfl,rfl⟩;exact wpAny_pyHash_int h;exact wpAny_pyHash_str h
 eqBool:=λo l h=>by rcases UK o with⟨i,t,rfl,rfl⟩|⟨x,t,rfl,rfl⟩;rcases UK l with⟨j,u,rfl,rfl⟩|⟨y,u,rfl,rfl⟩;rw[zvx]at h;exact wpAny_eqBool_int h;rw[zvw]at h;exact SeqAt.EqAt.int_str i t y u _ _ _ _ h;rcases UK l with⟨j,u,rfl,rfl⟩|⟨y,u,rfl,rfl⟩;rw[zvv]at h;exact SeqAt.EqAt.str_int x t j u _ _ _ _ h;rw[zvu]at h;exact wpAny_eqBool_str h
 «strs»:=λk x t v h=>by rcases UK h with⟨i,u,rfl,e⟩|⟨y,u,rfl,e⟩;exact nomatch e;injection e with e1 _;subst e1;cases v <;> rfl
theorem zjF(prog:aK)(w:aV)(i:Int)(t:Tok):(JJ prog w).is (kS i) (rL i t)=du:=zfy i t
theorem zjE(prog:aK)(w:aV)(x:Str)(t:Tok):(JJ prog w).is (oU x) (kI x t)=du:=znx x t
inductive V where
 | non|bl (b:Bool)|int (i:Int)|str (x:Str)|byt (b:Array UInt8)|flt (b:UInt64)|ref (a:ai)|ty (n:String)
 deriving DecidableEq
def RelV:V->ah->Prop
 | .non,u=>u=kJ
 | .bl b,u=>u=nJ b
 | .int i,u=>∃t,u=rL i t
 | .str x,u=>∃t,u=kI x t
 | .byt b,u=>∃t,u=Value.bytes b t
 | .flt b,u=>∃t,u=xo b t
 | .ref a,u=>u=bQ a
 | .ty n,u=>u=bU n
abbrev Vals:List V->List ah->Prop:=cA RelV
theorem Vals.length{xs:List V}{us:List ah}(r:Vals xs us):fo xs=fo us:=iA r
theorem Vals.get:∀{xs:List V}{us:List ah}{i:Nat}{x:V},Vals xs us->xs[i]?=ao x->∃u,us[i]?=ao u/\RelV x u
 | _,_,_,_,ja,e=>by simp at e
 | _,_,0,_,hH r _,e=>by simp at e;subst e;exact⟨_,rfl,r⟩
 | _,_,i+1,x,hH _ t,e=>by obtain⟨u,C,v⟩:=Vals.get (i:=i) (x:=x) t (by simpa using e);exact⟨u,by simpa using C,v⟩
theorem Vals.set{x:V}{u:ah}(r:RelV x u):∀{xs:List V}{us:List ah} (i:Nat),Vals xs us->Vals (ce xs i x) (ce us i u)
 | _,_,_,ja=>ja
 | _,_,0,hH _ t=>hH r t
 | _,_,i+1,hH q t=>hH q (Vals.set r i t)
theorem Vals.append{xs l:List V}{us u:List ah}(h:Vals xs us)(s:Vals l u):Vals (xs++l) (us++u):=by
 induction h with
 | nil=>exact s
 | cons r _ v=>exact hH r v
theorem Vals.take:∀{xs:List V}{us:List ah} (n:Nat),Vals xs us->Vals (xs.take n) (us.take n)
 | _,_,0,_=>ja
 | _,_,_+1,ja=>ja
 | _,_,n+1,hH r t=>hH r (Vals.take n t)
theorem Vals.drop:∀{xs:List V}{us:List ah} (n:Nat),Vals xs us->Vals (xs.drop n) (us.drop n)
 | _,_,0,r=>r
 | _,_,_+1,ja=>ja
 | _,_,n+1,hH _ t=>Vals.drop n t
def RelO:Option V->Option ah->Prop
 | some v,ao u=>RelV v u
 | none,bj=>True
 | _,_=>False
def KV{l:Type}:List (l×V)->List (l×ah)->Prop:=cA λ(p:l×V) (q:l×ah)=>p.1=q.1/\RelV p.2 q.2
def kV:Key->V
 | kS i=>.int i
 | oU x=>.str x
inductive HO where
 | lst (xs:List V)
 | tup (xs:List V)
 | dK (kvs:List (Key×V))|dT (kvs:List (List Key×V))
 | set (S:Int->Bool) (n:Nat)
 | ins (C dx:ai) (fs:List (Str×V))
 | own (x:ai)
 | xd (fs:List (Str×V))
 | met (f x:ai)
 | rng (lo hi:Int)
 | frz (o:Obj) (u:HO)
 | tbl (q:Str)
 | ext (φ:bq->Prop)
abbrev Hp:=ai->Option HO
def upd(H:Hp)(a:ai)(o:HO):Hp:=λb=>if b=a then ao o else H b
theorem J1{H:Hp}{a:ai}{o:HO}:upd H a o a=ao o:=by unfold upd;rw[if_pos rfl]
theorem Ju{H:Hp}{a b:ai}{o:HO}(h:b≠a):upd H a o b=H b:=by unfold upd;rw[if_neg h]
theorem QV{H:Hp}{a b:ai}{o:HO}(h:H a=ao o)(h':H b=bj):a≠b:=by intro e;subst e;rw[h]at h';cases h'
def IsTD(h:bq)(a:ai)(items:Array ah):Prop:=∃o,bi h a=ao o/\jo o=bU "tuple" /\ (∃n,io o=im items n)/\o.dict=bj
theorem IsTD.tup{h:bq}{a:ai}{items:Array ah}(x:IsTD h a items):oC h a items:=by obtain⟨o,e,c,d,_⟩:=x;exact⟨o,e,c,d⟩
theorem IsTD.lt{h:bq}{a:ai}{items:Array ah}(x:IsTD h a items):a<be h.objs:=x.tup.lt
theorem IsTD.new(h:bq)(items:Array ah):IsTD (ee h { cls:=bU "tuple",data:=im items }) h.objs.size items:=⟨_,aB _ rfl,rfl,⟨_,rfl⟩,rfl⟩
def TabOk(H:Hp)(q:Str)(ps:Array ah):Prop:=TriplesOk (nK ps)/\∀(pos:Pos) (x:ah),codeAmong pos (nK ps)=ao x->∃(c:ai) (o:Obj) (u:HO) (v:Array ah) (t:Tok),x=bQ c/\H c=ao (.frz o u)/\io o=fm v/\v[1]?=ao (kI q t)
section
variable(P:aK)(w:aV)
def JS(H:Hp)(h:bq)(a:ai):HO->Prop
 | .lst xs=>fo xs<=sizeLine/\∃(its:List ah) (n:Nat),Vals xs its/\bi h a=ao { cls:=bU "list",data:=im (bm its) n }
 | .tup xs=>fo xs<=sizeLine/\∃its:List ah,Vals xs its/\IsTD h a (bm its)
 | .dK G=>fo G<=sizeLine/\(a == sysModules)=dy/\∃R,KV G R/\h.DictOf (JJ P w) a R
 | .dT G=>fo G<=sizeLine/\(a == sysModules)=dy/\∃xs:List (List Key×ai×ah),
   cA (λ(p:List Key×V) (q:List Key×ai×ah)=>p.1=q.1/\H q.2.1=ao (.tup (p.1.map kV))/\RelV p.2 q.2.2) G xs /\
   ∃o U ep,bi h a=ao o/\o.ExactDict/\io o=jt U ep/\nK U=xs.map (entryOfKey (tupleKind (JJ P w)))/\(xs.map (·.1)).Nodup
 | .set S n=>h.SetOf (intKind P w) a S n
 | .ins C J fs=>H J=ao (.own a)/\fo fs<=1000/\J≠a/\bi h a=ao (nY C J) /\
   ∃I,h.Ns1 J I/\(∀f,RelO (fs.lookup f) (I f))/\vP I (fs.map (·.1))
 | .own _=>∃o,bi h a=ao o
 | .xd fs=>∃I,h.Ns1 a I/\∀f,RelO (fs.lookup f) (I f)
 | .rng lo hi=>∃t u v,bi h a=ao { cls:=bU "range",data:=fm #[rL lo t,rL hi u,rL 1 v] }
 | .frz o u=>bi h a=ao o/\JS H h a u
 | .tbl q=>∃ps:Array ah,bi h a=ao { cls:=kJ,data:=fm ps }/\TabOk H q ps
 | .met f x=>bi h a=ao (mM (bQ f) (bQ x))
 | .ext L=>L h/\(∃o,bi h a=ao o)/\∀Y Z:bq,L Y->(∀o,bi Y a=ao o->bi Z a=ao o)->L Z
def HOk(H:Hp)(h:bq):Prop:=∀a o,H a=ao o->JS P w H h a o
end
section
variable{P:aK}{w:aV}{H H':Hp}{h h':bq}{a:ai}{o:HO}
theorem JS.lt(x:JS P w H h a o):a<be h.objs:=by
 cases o with
 | lst xs=>obtain⟨_,_,_,_,e⟩:=x;exact aE e
 | tup xs=>obtain⟨_,_,_,p⟩:=x;exact p.lt
 | dK l=>obtain⟨_,_,_,_,o,_,_,e,_⟩:=x;exact aE e
 | dT l=>obtain⟨_,_,_,_,o,_,_,e,_⟩:=x;exact aE e
 | set S n=>obtain⟨o,_,_,_,e,_⟩:=x;exact aE e
 | ins C G fs=>obtain⟨_,_,_,e,_⟩:=x;exact aE e
 | own y=>obtain⟨_,e⟩:=x;exact aE e
 | xd fs=>obtain⟨_,⟨_,_,_,e,_⟩,_⟩:=x;exact aE e
 | rng lo hi=>obtain⟨_,_,_,e⟩:=x;exact aE e
 | frz v u=>obtain⟨e,_⟩:=x;exact aE e
 | tbl q=>obtain⟨_,e,_⟩:=x;exact aE e
 | met f y=>exact aE (show bi h a=ao _ from x)
 | ext I=>obtain⟨_,⟨_,e⟩,_⟩:=x;exact aE e
theorem Paired.mapP{α x:Type}{F G:α->x->Prop}{u:List α}{v:List x}(h:cA F u v)(f:∀a b,F a b->G a b):cA G u v:=by
 induction h with
 | nil=>exact ja
 | cons r _ C=>exact hH (f _ _ r) C
theorem JS.stay(x:JS P w H h a o)(k:∀b u,(b=a\/H b=ao (.own a))->bi h b=ao u->bi h' b=ao u)
  (Z:∀b,H b=ao (.own a)->H' b=ao (.own a)) (ht:∀b xs,H b=ao (.tup xs)->H' b=ao (.tup xs)) (hf:∀b G u,H b=ao (.frz G u)->H' b=ao (.frz G u)):JS P w H' h' a o:=by
 induction o with
 | lst xs=>obtain⟨z,its,n,r,e⟩:=x;exact⟨z,its,n,r,k _ _ (dY rfl) e⟩
 | tup xs=>obtain⟨z,its,r,G,e,c⟩:=x;exact⟨z,its,r,G,k _ _ (dY rfl) e,c⟩
 | dK Y=>obtain⟨z,y,L,r,G,J,I,e,c⟩:=x;exact⟨z,y,L,r,G,J,I,k _ _ (dY rfl) e,c⟩
 | dT Y =>obtain⟨z,y,xs,r,G,J,I,e,c⟩:=x;exact⟨z,y,xs,Paired.mapP r λp q z=>⟨z.1,ht _ _ z.2.1,z.2.2⟩,G,J,I,k _ _ (dY rfl) e,c⟩
 | set S n=>obtain⟨G,J,I,t,e,c⟩:=x;exact⟨G,J,I,t,k _ _ (dY rfl) e,c⟩
 | ins C dx fs =>obtain⟨d,z,ne,e,N,⟨U,J,I,R,c⟩,r⟩:=x;exact⟨Z _ d,z,ne,k _ _ (dY rfl) e,N,⟨U,J,I,k _ _ (sr d) R,c⟩,r⟩
 | own y=>obtain⟨G,e⟩:=x;exact⟨G,k _ _ (dY rfl) e⟩
 | xd fs=>obtain⟨N,⟨U,J,I,e,c⟩,r⟩:=x;exact⟨N,⟨U,J,I,k _ _ (dY rfl) e,c⟩,r⟩
 | rng lo hi=>obtain⟨t,u,v,e⟩:=x;exact⟨t,u,v,k _ _ (dY rfl) e⟩
 | frz G u ih=>obtain⟨e,q⟩:=x;exact⟨k _ _ (dY rfl) e,ih q⟩
 | tbl q =>obtain⟨ps,e,z,r⟩:=x;refine⟨ps,k a _ (dY rfl) e,z,λpos cv m=>?_⟩;obtain⟨c,o,u,L,t,e1,R,e3⟩:=r pos cv m;exact⟨c,o,u,L,t,e1,hf _ _ _ R,e3⟩
 | met f y =>have e:bi h a=ao (mM (bQ f) (bQ y)):=x;show bi h' a=ao (mM (bQ f) (bQ y));exact k a _ (dY rfl) e
 | ext φ=>obtain⟨p,⟨o,e⟩,st⟩:=x;exact⟨st _ _ p λo q=>k _ _ (dY rfl) q,⟨o,k _ _ (dY rfl) e⟩,st⟩
theorem HOk.lt(x:HOk P w H h)(e:H a=ao o):a<be h.objs:=(x a o e).lt
theorem HOk.fresh(x:HOk P w H h)(e:be h.objs<=a):H a=bj:=by
 cases q:H a with
 | none=>rfl
 | some u=>exact absurd (aI (x.lt q) e) (gy _)
theorem HOk.kept(x:HOk P w H h)(k:∀b u,bi h b=ao u->bi h' b=ao u):HOk P w H h':=λa o e =>
 (x a o e).stay (λb u _ q=>k b u q) (λ_ q=>q) (λ_ _ q=>q) λ_ _ _ q=>q
theorem HOk.laid(x:HOk P w H h)(k:∀b u,bi h b=ao u->bi h' b=ao u)(C:be h.objs<=a)(new:JS P w (upd H a o) h' a o):HOk P w (upd H a o) h':=λb u e=>by have l:=x.fresh C;by_cases hb:b=a;subst hb;rw[J1]at e;cases e;exact new;rw[Ju hb]at e;exact(x b u e).stay (λc v _ q=>k c v q) (λc q=>by rw[Ju (QV q l)];exact q) (λc xs q=>by rw[Ju (QV q l)];exact q) λc G xs q=>by rw[Ju (QV q l)];exact q
end
def Rd(H:Hp)(a:ai)(u:HO):Prop:=H a=ao u\/∃o,H a=ao (.frz o u)
theorem Rd.ok{P:aK}{w:aV}{H:Hp}{h:bq}{a:ai}{u:HO}(r:Rd H a u)(x:HOk P w H h):JS P w H h a u:=by rcases r with r|⟨o,r⟩;exact x a u r;obtain⟨_,q⟩:=x a _ r;exact q
def Mut:Option HO->Prop
 | some (.lst _)=>True
 | some (.dK _)=>True
 | some (.dT _)=>True
 | some (.set _ _)=>True
 | some (.ins _ _ _)=>True
 | some (.ext _)=>True
 | _=>False
section
variable{P:aK}{w:aV}{H:Hp}{h h':bq}{x e:ai}{o':HO}
theorem HOk.write(ok:HOk P w H h)(l:Mut (H x))(he:e=x\/H e=ao (.own x))(k:∀b u,b≠e->bi h b=ao u->bi h' b=ao u)(J:∃u,bi h' e=ao u)
  (new:JS P w (upd H x o') h' x o'):HOk P w (upd H x o') h':=λb u q=>by
 have L:∀c y,H c=ao (.own y)->c≠x:=λc y r z=>by subst z;rw[r]at l;exact l
 have G:∀c xs,H c=ao (.tup xs)->c≠x:=λc xs r z=>by subst z;rw[r]at l;exact l
 have C:∀c I xs,H c=ao (.frz I xs)->c≠x:=λc I xs r z=>by subst z;rw[r]at l;exact l
 by_cases hb:b=x;subst hb;rw[J1]at q;cases q;exact new;rw[Ju hb]at q;by_cases hbe:b=e;have N:H b=ao (.own x):=by rcases he with z|z;exact absurd (b4 hbe z) hb;rw[hbe];exact z
 rw[q]at N;cases N;obtain⟨v,R⟩:=J;exact⟨v,by rw[hbe];exact R⟩;refine(ok b u q).stay (λc v hc r=>k c v ?_ r) (λc r=>by rw[Ju (L c b r)];exact r) (λc xs r=>by rw[Ju (G c xs r)];exact r) λc I xs r=>by rw[Ju (C c I xs r)];exact r
 rcases hc with rfl|hc;exact hbe;rintro rfl;rcases he with z|z;exact L c b hc z;rw[hc]at z;cases z;exact hb rfl
end
structure Un(fs ex:List ai)(H H':Hp)(h h':bq):Prop where
 keep:∀b o,bi h b=ao o->H b=bj->b∉fs->b∉ex->bi h' b=ao o
 slot:∀b o,bi h b=ao o->H b=bj->b∈fs->b∉ex->∃sl,bi h' b=ao { o with slots:=sl }
 free:∀b o,bi h b=ao o->H b=bj->b∉ex->H' b=bj
 there:∀b o,bi h b=ao o->b∉ex->∃o',bi h' b=ao o'
 tups:∀b xs,H b=ao (.tup xs)->H' b=ao (.tup xs)
 frzs:∀b o u,H b=ao (.frz o u)->H' b=ao (.frz o u)
 tbls:∀b q,H b=ao (.tbl q)->H' b=ao (.tbl q)
section
variable{fs ex:List ai}{H H1:Hp}{h h1 h':bq}{a x e:ai}{o:HO}
theorem Un.any(u:Un fs ex H H1 h h1){b:ai}{l:Obj}(q:bi h b=ao l)(n:H b=bj)(hx:b∉ex):∃sl,bi h1 b=ao { l with slots:=sl }:=by by_cases hb:b∈fs;exact u.slot b l q n hb hx;exact⟨l.slots,u.keep b l q n hb hx⟩
theorem Un.kept(k:∀b u,bi h b=ao u->bi h' b=ao u):Un fs ex H H h h' :=
 ⟨λb l q _ _ _=>k b l q,λb l q _ _ _=>⟨l.slots,k b l q⟩,λ_ _ _ n _=>n,λb l q _=>⟨l,k b l q⟩,λ_ _ q=>q,λ_ _ _ q=>q,λ_ _ q=>q⟩
theorem Un.refl:Un fs ex H H h h:=Un.kept λ_ _ q=>q
theorem Un.laid(k:∀b u,bi h b=ao u->bi h' b=ao u)(v:be h.objs<=a)(l:H a=bj):Un fs ex H (upd H a o) h h' where
 keep:=λb u q _ _ _=>k b u q
 slot:=λb u q _ _ _=>⟨u.slots,k b u q⟩
 free:=λb u q n _=>by rw[Ju (aW (aI (aE q) v))];exact n
 there:=λb u q _=>⟨u,k b u q⟩
 tups:=λb xs q=>by rw[Ju (QV q l)];exact q
 frzs:=λb u xs q=>by rw[Ju (QV q l)];exact q
 tbls:=λb ps q=>by rw[Ju (QV q l)];exact q
theorem Un.write(l:Mut (H x))(he:e=x\/H e=ao (.own x))(k:∀b u,b≠e->bi h b=ao u->bi h' b=ao u)(v:∃u,bi h' e=ao u):Un fs ex H (upd H x o) h h':=by
 have hx:∀b,H b=bj->b≠x:=λb n z=>by subst z;rw[n]at l;exact l
 have hb:∀b,H b=bj->b≠e:=λb n z=>by subst z;rcases he with r|r;exact hx b n r;rw[n]at r;cases r
 have C:∀b u,H b=ao u->¬Mut (ao u)->b≠x:=λb u q nm z=>by subst z;rw[q]at l;exact nm l
 refine⟨λb u q n _ _=>k b u (hb b n) q,λb u q n _ _=>⟨u.slots,k b u (hb b n) q⟩,λb u q n _=>by rw[Ju (hx b n)];exact n,λb u q _=>?_,
  λb xs q=>by rw[Ju (C b _ q λz=>z)];exact q,λb u xs q=>by rw[Ju (C b _ q λz=>z)];exact q,λb ps q=>by rw[Ju (C b _ q λz=>z)];exact q⟩
 by_cases hbe:b=e;subst hbe;exact v;exact⟨u,k b u hbe q⟩
end
def trk(h:bq)(H:Hp):List ai:=(dw h.objs.size).filter λa=>f6 (H a)
def hidT(h:bq)(H:Hp):bq:=PySem.W.hideAll h (trk h H)
theorem znI(h:bq)(H:Hp):(hidT h H).objs.size=be h.objs:=PySem.W.hideAll_size _ _
theorem zqa{h:bq}{H:Hp}{b:ai}{o:Obj}(e:bi h b=ao o)(n:H b=bj):bi (hidT h H) b=ao o :=
 PySem.W.hideAll_get _ e λl=>by have q:f6 (H b)=du:=(cT.mp l).2;rw[n]at q;simp at q
theorem zsp{h:bq}{H:Hp}{b:ai}{o:Obj}(e:bi (hidT h H) b=ao o):bi h b=ao o/\H b=bj:=by
 have l:bi h b=ao o:=PySem.W.of_hideAll (trk h H) e;refine⟨l,?_⟩;cases q:H b with
 | none=>rfl
 | some x =>have u:b∈trk h H:=cT.mpr ⟨hY.mpr (aE l),by simp[q]⟩;have z:bi (hidT h H) b=bj:=PySem.W.hideAll_none (trk h H) u;rw[z]at e;cases e
structure Mod(K:qF)(mg:qM)(base:bq):Prop where
 kin:K.In base
 glob:base.Ns mainGlobals mg
 blt:∃mb,base.Ns builtinsNs mb/\∀x:Str,x ≠ "__name__" -> mb x=bootBuiltins x
 nolimit:base.NoLimit
structure Cx where
 prog:aK
 w:aV
 K:qF
 mg:Str->Option ah
 base:bq
 A:bw
 N:List Str
 s₀:ax
 H₀:Hp
 env:Env
 outer:List Env
 stack:List Env
 ex:List ai
 fn:Str->Bool
 calm:Bool
 pn:List (ai×Obj)
 xe:ah->ax->Prop
abbrev Fsi(X:Cx)(e:bg):Prop:=∀x,foldedSetIterable e X.env x=pure x
abbrev Fnl(X:Cx)(x:Str):Prop:=X.fn x=du\/X.env.scope.names.lookup x=ao .local
def frs(l:List Env):List ai:=l.filterMap (·.frame)
abbrev Cx.fs(X:Cx):List ai:=frs X.outer
def Vis(sc:fS)(x:Str):Prop:=sc.names.lookup x=ao .local\/sc.names.lookup x=ao kT\/sc.names.lookup x=ao cV
def Loc(sc:fS)(x:Str):Prop:=sc.names.lookup x=ao .local\/sc.names.lookup x=ao kT
def Look(env:Env)(h:bq)(m:qM)(x:Str)(u:ah):Prop :=
 (jd env x=ao .local/\m x=ao u)\/((jd env x=ao kT\/jd env x=ao cV)/\∃c,env.cells.lookup x=ao c/\h.IsCell c (ao u))
structure Cx.Ok(X:Cx):Prop where
 mod:Mod X.K X.mg X.base
 kind:X.env.scope.kind=je
 glob:X.env.globals=mainGlobals
 blt:X.env.builtins=builtinsNs
 above:be X.s₀.heap.objs<=hJ X.env
 inj:∀x y c,X.env.cells.lookup x=ao c->X.env.cells.lookup y=ao c->x=y
 has:∀x,(jd X.env x=ao kT\/jd X.env x=ao cV)->∃c,X.env.cells.lookup x=ao c
 cab:∀x c,X.fn x=du->X.env.cells.lookup x=ao c->be X.s₀.heap.objs<=c
 hd:X.calm=du->X.A.handled=bj
 frames:X.A.frames=ao X.stack
 stk:X.stack=X.outer\/(X.stack=X.env::X.outer/\X.env.frame=ao (hJ X.env))
 exf:∀b∈X.ex,b≠hJ X.env/\∀x c,X.env.cells.lookup x=ao c->c≠b
 bs:∀b o,bi X.base b=ao o->bi X.s₀.heap b=ao o/\X.H₀ b=bj
 bsz:be X.base.objs<=be X.s₀.heap.objs
 noex:∀b o,bi X.base b=ao o->b∉X.ex
 exfs:∀b∈X.ex,b∉X.fs
 funs:X.s₀.heap.FunFrames X.base X.outer
 frf:∀b∈X.fs,X.H₀ b=bj
structure Inv(X:Cx)(pins:qO)(σ:List (Option V))(H:Hp)(s:ax):Prop where
 ok:X.Ok
 os:s.os=X.s₀.os
 bare:lI s.gens
 base:Un X.fs X.ex X.H₀ H X.s₀.heap s.heap
 loc:∃m,s.heap.Ns (hJ X.env) m/\∀(i:Nat) (x:Str) (v:V),X.N[i]?=ao x->σ[i]?=ao (ao v)->Vis (d0 X.env) x->∃u,RelV v u/\Look X.env s.heap m x u
 cell:∀x c,X.env.cells.lookup x=ao c->∃v,s.heap.IsCell c v
 free:H (hJ X.env)=bj
 freeC:∀x c,X.env.cells.lookup x=ao c->H c=bj
 pin:∀p∈X.pn++pins,bi s.heap p.1=ao p.2/\H p.1=bj/\p.1≠hJ X.env/\p.1∉X.fs/\∀v,io p.2≠.cell v
 hok:HOk X.prog X.w H s.heap
 len:fo σ=fo X.N
section
variable{X:Cx}{pins:qO}{σ:List (Option V)}{H H':Hp}{s:ax}{h':bq}
theorem Cx.Ok.nofr(ok:X.Ok){b:ai}{o:Obj}(e:bi X.base b=ao o):b∉X.fs:=λhb=>by have:=(ok.funs.mem hb).1;rw[e]at this;cases this
theorem Inv.bs(I:Inv X pins σ H s):∀b o,bi X.base b=ao o->bi s.heap b=ao o/\H b=bj:=λb o e =>
 ⟨I.base.keep b o (I.ok.bs b o e).1 (I.ok.bs b o e).2 (I.ok.nofr e) (I.ok.noex b o e),I.base.free b o (I.ok.bs b o e).1 (I.ok.bs b o e).2 (I.ok.noex b o e)⟩
theorem Inv.bk(I:Inv X pins σ H s):∀b o,bi X.base b=ao o->bi s.heap b=ao o:=λb o e=>(I.bs b o e).1
theorem Inv.mod(I:Inv X pins σ H s):Mod X.K X.mg X.base:=I.ok.mod
theorem Inv.kIn(I:Inv X pins σ H s):X.K.In s.heap:=I.ok.mod.kin.keeps I.bk
theorem Inv.lt(I:Inv X pins σ H s):hJ X.env<be s.heap.objs:=let ⟨_,hn,_⟩:=I.loc;hn.lt
theorem Inv.sz(I:Inv X pins σ H s):be X.s₀.heap.objs<=be s.heap.objs:=ba I.ok.above (eQ I.lt)
theorem Inv.nofs(I:Inv X pins σ H s){a:ai}(h:be s.heap.objs<=a):a∉X.fs:=λhb=>by obtain⟨_,o,l,_⟩:=I.ok.funs.mem hb;exact absurd (aI (aE l) (ba I.sz h)) (gy _)
theorem Inv.cne(I:Inv X pins σ H s):∀x c,X.env.cells.lookup x=ao c->c≠hJ X.env:=λx c e z=>by obtain⟨v,o,u,hd⟩:=I.cell x c e;obtain⟨m,⟨J,G,C,l,hd',_⟩,_⟩:=I.loc;rw[z,l]at u;cases u;rw[hd']at hd;cases hd
theorem Inv.funs(I:Inv X pins σ H s):s.heap.FunFrames X.base X.outer:=by
 have all:∀(l:List Env),(∀b∈frs l,b∈X.fs)->X.s₀.heap.FunFrames X.base l->s.heap.FunFrames X.base l:=by
  intro l;induction l with
  | nil=>intro _ _;trivial
  | cons env r J =>intro v x;obtain⟨R,⟨L,o,hf,N,C,hd⟩,G⟩:=x;have u:L∈X.fs:=v L (by unfold frs;rw[eT,hf];exact cP);obtain⟨sl,e⟩:=I.base.slot L o C (I.ok.frf L u) u λz=>I.ok.exfs L z u;exact⟨R,⟨L,_,hf,N,e,hd⟩,J (λb hb=>v b (by unfold frs;rw[eT,hf];exact cC _ hb)) G⟩
 exact all X.outer (λ_ hb=>hb) I.ok.funs
theorem Inv.stack(I:Inv X pins σ H s):s.heap.FunFrames X.base X.stack:=by rcases I.ok.stk with e|⟨e,hf⟩;rw[e];exact I.funs;rw[e];obtain⟨m,l,_⟩:=I.loc;refine .cons (by rw[I.ok.kind];decide) hf l ?_ I.funs;exact Heap.get?_none_of_le (ba I.ok.bsz I.ok.above)
theorem Inv.stkSub(I:Inv X pins σ H s):∀b∈frs X.stack,b∈hJ X.env::X.fs:=λb hb=>by rcases I.ok.stk with e|⟨e,hf⟩;rw[e]at hb;exact cC _ hb;rw[e]at hb;unfold frs at hb;rw[eT,hf]at hb;exact hb
theorem Inv.stkFree(I:Inv X pins σ H s):∀b∈frs X.stack,H b=bj:=λb hb=>by rcases ay.mp (I.stkSub b hb) with e|hb;rw[e];exact I.free;obtain⟨_,o,l,_⟩:=I.ok.funs.mem hb;exact I.base.free b o l (I.ok.frf b hb) λz=>I.ok.exfs b z hb
theorem Inv.step{g':Array GenState}{t':Nat}{d':Drawn}{ch:List ai}(I:Inv X pins σ H s)
  (C:∀b∈ch,(b∈X.ex\/be X.s₀.heap.objs<=b)/\b≠hJ X.env/\(∀x c,X.env.cells.lookup x=ao c->c≠b)/\∀p∈X.pn++pins,p.1≠b)
  (keep:∀b o,b≠hJ X.env->b∉X.fs->b∉ch->bi s.heap b=ao o->H b=bj->bi h' b=ao o)
  (slot:∀b o,b≠hJ X.env->b∈X.fs->b∉ch->bi s.heap b=ao o->H b=bj->∃sl,bi h' b=ao { o with slots:=sl }) (free:∀b o,b∉ch->bi s.heap b=ao o->H b=bj->H' b=bj)
  (there:∀b o,b∉ch->bi s.heap b=ao o->∃R,bi h' b=ao R)
  (tups:∀b xs,H b=ao (.tup xs)->H' b=ao (.tup xs)) (frzs:∀b o u,H b=ao (.frz o u)->H' b=ao (.frz o u)) (tbls:∀b q,H b=ao (.tbl q)->H' b=ao (.tbl q))
  (ns:∀m,s.heap.Ns (hJ X.env) m->h'.Ns (hJ X.env) m) (hok:HOk X.prog X.w H' h') (hg:lI g') :
  Inv X pins σ H' { s with heap:=h',gens:=g',drawn:=d',toks:=t' }:=by
 have S:∀b o,bi X.s₀.heap b=ao o->b≠hJ X.env:=λb o e=>aW (aI (aE e) I.ok.above);have J:∀b o,bi X.s₀.heap b=ao o->b∉X.ex->b∉ch:=λb o e hx hb=>by rcases(C b hb).1 with z|z;exact hx z;exact absurd (aI (aE e) z) (gy _)
 have cellK:∀x c,X.env.cells.lookup x=ao c->∀v,s.heap.IsCell c v->h'.IsCell c v:=λx c e v ⟨o,N,hd⟩=>by have G:c∉ch:=λz=>(C c z).2.2.1 x c e rfl;by_cases hc:c∈X.fs;obtain⟨sl,q⟩:=slot c o (I.cne x c e) hc G N (I.freeC x c e);exact⟨_,q,hd⟩;exact⟨o,keep c o (I.cne x c e) hc G N (I.freeC x c e),hd⟩
 refine⟨I.ok,I.os,hg,⟨λb o e n hb hx=>?_,λb o e n hb hx=>?_,λb o e n hx=>?_,λb o e hx=>?_,λb xs e=>tups b xs (I.base.tups b xs e),λb o xs e=>frzs b o xs (I.base.frzs b o xs e),λb ps e=>?_⟩,?_,λx c e=>?_,?_,λx c e=>?_,λp Z=>?_,hok,I.len⟩;exact keep b o (S b o e) hb (J b o e hx) (I.base.keep b o e n hb hx) (I.base.free b o e n hx);obtain⟨sl,L⟩:=I.base.slot b o e n hb hx;obtain⟨Y,U⟩:=slot b _ (S b o e) hb (J b o e hx) L (I.base.free b o e n hx);exact⟨Y,U⟩;obtain⟨R,L⟩:=I.base.there b o e hx;exact free b R (J b o e hx) L (I.base.free b o e n hx);obtain⟨R,L⟩:=I.base.there b o e hx;exact there b R (J b o e hx) L;exact tbls b ps (I.base.tbls b ps e);obtain⟨m,hn,hl⟩:=I.loc;refine⟨m,ns m hn,λi x v L U e3=>?_⟩;obtain⟨u,r,l⟩:=hl i x v L U e3;refine⟨u,r,?_⟩;rcases l with l|⟨k,c,e,z⟩;exact dY l;exact sr ⟨k,c,e,cellK x c e _ z⟩;obtain⟨v,z⟩:=I.cell x c e;exact⟨v,cellK x c e v z⟩;obtain⟨m,⟨o,_,_,N,_⟩,_⟩:=I.loc;exact free _ o (λz=>(C _ z).2.1 rfl) N I.free;obtain⟨v,o,N,hd⟩:=I.cell x c e;exact free c o (λz=>(C c z).2.2.1 x c e rfl) N (I.freeC x c e);obtain⟨e,n,ne,nf,d⟩:=I.pin p Z;have G:p.1∉ch:=λz=>(C p.1 z).2.2.2 p Z rfl;exact⟨keep p.1 p.2 ne nf G e n,free p.1 p.2 G e n,ne,nf,d⟩
theorem Inv.un{t':Nat}(I:Inv X pins σ H s)(u:Un X.fs [] H H' s.heap h')(hok:HOk X.prog X.w H' h'):Inv X pins σ H' { s with heap:=h',toks:=t' }:=by obtain⟨m,⟨o,S,R,C,r⟩,_⟩:=id I.loc;obtain⟨sl,G⟩:=u.any C I.free (by simp);exact I.step (g':=ju s) (d':=jB s) (ch:=[]) (λ_ z=>nomatch z) (λb o _ hb _ e n=>u.keep b o e n hb (by simp)) (λb o _ hb _ e n=>u.slot b o e n hb (by simp)) (λb o _ e n=>u.free b o e n (by simp)) (λb o _ e=>u.there b o e (by simp)) u.tups u.frzs u.tbls (λN J=>by obtain⟨U,v,x,l,L⟩:=J;rw[C]at l;cases l;exact⟨_,v,x,G,L⟩) hok I.bare
theorem Inv.call{g':Array GenState}{t':Nat}{d':Drawn}{ch:List ai}(I:Inv X pins σ H s)(u:Un (frs X.stack) ch H H' s.heap h')(hok:HOk X.prog X.w H' h')(U:lI g')
  (v:∀b∈ch,(b∈X.ex\/be X.s₀.heap.objs<=b)/\b≠hJ X.env/\(∀x c,X.env.cells.lookup x=ao c->c≠b)/\∀p∈X.pn++pins,p.1≠b) :
  Inv X pins σ H' { s with heap:=h',gens:=g',drawn:=d',toks:=t' }:=by
 obtain⟨m,⟨o,es,Z,N,r⟩,_⟩:=id I.loc;obtain⟨sl,G⟩:=u.any N I.free λz=>(v _ z).2.1 rfl;exact I.step (ch:=ch) v (λb o G hb hc e n=>u.keep b o e n (λz=>h7 (ay.mp (I.stkSub b z)) G hb) hc) (λb o _ _ hc e n=>u.any e n hc) (λb o hc e n=>u.free b o e n hc) (λb o hc e=>u.there b o e hc) u.tups u.frzs u.tbls (λY R=>by obtain⟨o',J,L,C,S⟩:=R;rw[N]at C;cases C;exact⟨_,J,L,G,S⟩) hok U
theorem Inv.turned{t':Nat}{it:ai}(I:Inv X pins σ H s)(k:∀b o,b≠it->bi s.heap b=ao o->bi h' b=ao o)(U:H it=bj)(C:it≠hJ X.env)
  (R:it∈X.ex\/be X.s₀.heap.objs<=it) (S:∀x c,X.env.cells.lookup x=ao c->c≠it) (G:∀p∈X.pn++pins,p.1≠it):Inv X pins σ H { s with heap:=h',toks:=t' }:=by
 have l:∀b u,H b=ao u->b≠it:=λb u e z=>by rw[z,U]at e;cases e
 refine I.step (g':=ju s) (d':=jB s) (ch:=[it]) (λb hb=>?_) (λb o _ _ hc e _=>k b o (λz=>hc (by simp[z])) e) (λb o _ _ hc e _=>⟨o.slots,k b o (λz=>hc (by simp[z])) e⟩) (λ_ _ _ _ n=>n)
  (λb o hc e=>⟨o,k b o (λz=>hc (by simp[z])) e⟩) (λ_ _ e=>e) (λ_ _ _ e=>e) (λ_ _ e=>e) (λm Y=>?_) (λb u e=>?_) I.bare
 have e:b=it:=by simpa using hb
 subst e;exact⟨R,C,S,G⟩;obtain⟨o,N,L,J,r⟩:=Y;exact⟨o,N,L,k _ o (gN C) J,r⟩;refine(I.hok b u e).stay (λc v hc q=>k c v ?_ q) (λ_ q=>q) (λ_ _ q=>q) λ_ _ _ q=>q;rcases hc with z|z;rw[z];exact l b u e;exact l c _ z
theorem Inv.tok(I:Inv X pins σ H s)(t:Nat):Inv X pins σ H { s with toks:=t }:=I.un (h':=xT s) (t':=t) Un.refl I.hok
theorem Inv.kept{t':Nat}(I:Inv X pins σ H s)(k:∀b u,bi s.heap b=ao u->bi h' b=ao u):Inv X pins σ H { s with heap:=h',toks:=t' }:=I.un (Un.kept k) (I.hok.kept k)
theorem Inv.laid{a:ai}{o:HO}{t':Nat}(I:Inv X pins σ H s)(k:∀b u,bi s.heap b=ao u->bi h' b=ao u)(l:be s.heap.objs<=a)(new:JS X.prog X.w (upd H a o) h' a o) :
  Inv X pins σ (upd H a o) { s with heap:=h',toks:=t' }:=I.un (Un.laid k l (I.hok.fresh l)) (I.hok.laid k l new)
theorem Inv.write{x e:ai}{o:HO}{t':Nat}(I:Inv X pins σ H s)(v:Mut (H x))(he:e=x\/H e=ao (.own x))(k:∀b u,b≠e->bi s.heap b=ao u->bi h' b=ao u)(l:∃u,bi h' e=ao u)
  (new:JS X.prog X.w (upd H x o) h' x o):Inv X pins σ (upd H x o) { s with heap:=h',toks:=t' }:=I.un (Un.write v he k l) (I.hok.write v he k l new)
theorem Inv.weak{σ':List (Option V)}(I:Inv X pins σ H s)(l:fo σ'=fo σ)(w:∀(i:Nat) v,σ'[i]?=ao (ao v)->σ[i]?=ao (ao v)):Inv X pins σ' H s :=
 ⟨I.ok,I.os,I.bare,I.base,let ⟨m,hn,hl'⟩:=I.loc;⟨m,hn,λi x v o u C=>hl' i x v o (w i v u) C⟩,I.cell,I.free,I.freeC,I.pin,I.hok,b4 l I.len⟩
theorem Inv.pins_of{o:qO}(I:Inv X pins σ H s)(h:∀p∈o,bi s.heap p.1=ao p.2/\H p.1=bj/\p.1≠hJ X.env/\p.1∉X.fs/\∀v,io p.2≠.cell v):Inv X o σ H s :=
 ⟨I.ok,I.os,I.bare,I.base,I.loc,I.cell,I.free,I.freeC,λp u=>h7 (au.mp u) (λz=>I.pin p (gm _ z)) (h p),I.hok,I.len⟩
theorem zkv{N:List Str}(l:N.Nodup){i j:Nat}{x:Str}(a:N[i]?=ao x)(b:N[j]?=ao x):i=j:=by obtain⟨C,o⟩:=aq.mp a;obtain⟨v,u⟩:=aq.mp b;exact(List.getElem_inj l).mp (b4 o u.symm)
theorem zhU{M:tJ}{A:bw}{E:qV}{i:Nat}{x:Str}{v:V}{u:ah}{Q:Unit->ax->Prop}(I:Inv X pins σ H s)(hN:X.N.Nodup)(hi:X.N[i]?=ao x)(hx:Loc (d0 X.env) x)(r:RelV v u)
  (h:∀s',Inv X pins (ce σ i (ao v)) H s'->(∃a,gn a s.heap s'.heap/\(a=hJ X.env\/X.env.cells.lookup x=ao a))->Q () s') (hf:Fnl X x:=by walk_at "F"):wpAny M A (storeName X.env x u) Q E s:=by
 obtain⟨m,hn,hl⟩:=id I.loc;have S:(X.env.scope.kind == .class||(X.env.scope.kind == .module&&hJ X.env != X.env.globals))=dy:=by rw[I.ok.kind];rfl
 have L:i<fo σ:=by rw[I.len];exact(aq.mp hi).1
 have cne:=I.cne;have tracked:∀{a:ai} {h':bq},(∃o,bi s.heap a=ao o/\H a=bj)->gn a s.heap h'->HOk X.prog X.w H h':=λ{a h'} ha C b ob e=>by obtain⟨_,_,L0⟩:=ha;refine(I.hok b ob e).stay (λc Z hc q=>b4 (C.2 c ?_) q) (λ_ q=>q) (λ_ _ q=>q) λ_ _ _ q=>q;rintro rfl;rcases hc with rfl|hc;rw[L0]at e;cases e;rw[L0]at hc;cases hc
 rcases hx with hk|hk;refine wpAny_storeName_local hk hn (λh' hn' C=>?_) S;obtain⟨oL,_,_,hoL,_⟩:=id hn;refine h _ ⟨I.ok,I.os,I.bare,⟨λb o e n hb hx=>?_,λb o e n hb hx=>?_,I.base.free,λb o e hx=>?_,I.base.tups,I.base.frzs,I.base.tbls⟩,⟨_,hn',λj y v' G J e3=>?_⟩,λy c e=>?_,I.free,I.freeC,λp hp=>?_,tracked ⟨oL,hoL,I.free⟩ C,by simpa using I.len⟩ ⟨_,C,dY rfl⟩;exact(C.2 b (aW (aI (aE e) I.ok.above))).trans (I.base.keep b o e n hb hx);obtain⟨sl,G⟩:=I.base.slot b o e n hb hx;exact⟨sl,b4 (C.2 b (aW (aI (aE e) I.ok.above))) G⟩;obtain⟨o',G⟩:=I.base.there b o e hx;exact⟨o',b4 (C.2 b (aW (aI (aE e) I.ok.above))) G⟩;by_cases hj:j=i;subst hj;rw[hi]at G;cases G;rw[fI L]at J;cases J;exact⟨u,r,dY ⟨hk,by simp⟩⟩;rw[cq (gN hj)]at J;obtain⟨u',r',q⟩:=hl j y v' G J e3;refine⟨u',r',?_⟩;rcases q with⟨k,e⟩|⟨k,c,e,z⟩;refine dY ⟨k,?_⟩;have:y≠x:=λe=>hj (zkv hN G (e▸hi));simp[this,e];exact sr ⟨k,c,e,z.sameBut C (cne y c e)⟩;obtain⟨Z,z⟩:=I.cell y c e;exact⟨Z,z.sameBut C (cne y c e)⟩;obtain⟨e,n,ne,nf,d⟩:=I.pin p hp;exact⟨b4 (C.2 p.1 ne) e,n,ne,nf,d⟩;have N:X.fn x=du:=by rcases hf with z|z;exact z;rw[z]at hk;cases hk
 obtain⟨c,hc⟩:=I.ok.has x (dY hk);obtain⟨Z,z⟩:=I.cell x c hc;refine wpAny_storeName_cell I.ok.kind hk hc z (λh' U C=>?_);obtain⟨oc,Y,R⟩:=id z;refine h { s with heap:=h' } ⟨I.ok,I.os,I.bare,⟨λb o e n hb hx=>?_,λb o e n hb hx=>?_,I.base.free,λb o e hx=>?_,I.base.tups,I.base.frzs,I.base.tbls⟩,⟨m,hn.sameBut C (gN (cne x c hc)),λj y v' G J e3=>?_⟩,λy c' e=>?_,I.free,I.freeC,λp hp=>?_,tracked ⟨oc,Y,I.freeC x c hc⟩ C,by simpa using I.len⟩ ⟨c,C,sr hc⟩;exact(C.2 b (aW (aI (aE e) (I.ok.cab x c N hc)))).trans (I.base.keep b o e n hb hx);obtain⟨sl,G⟩:=I.base.slot b o e n hb hx;exact⟨sl,b4 (C.2 b (aW (aI (aE e) (I.ok.cab x c N hc)))) G⟩;obtain⟨o',G⟩:=I.base.there b o e hx;exact⟨o',b4 (C.2 b (aW (aI (aE e) (I.ok.cab x c N hc)))) G⟩;by_cases hj:j=i;subst hj;rw[hi]at G;cases G;rw[fI L]at J;cases J;exact⟨u,r,sr ⟨dY hk,c,hc,U⟩⟩;rw[cq (gN hj)]at J;obtain⟨u',r',q⟩:=hl j y v' G J e3;refine⟨u',r',?_⟩;rcases q with q|⟨k,c',e,z'⟩;exact dY q;refine sr ⟨k,c',e,z'.sameBut C ?_⟩;rintro rfl;exact hj (zkv hN G (I.ok.inj _ _ _ e hc▸hi));by_cases hcc:c'=c;subst hcc;exact⟨_,U⟩;obtain⟨w2,z2⟩:=I.cell y c' e;exact⟨w2,z2.sameBut C hcc⟩;obtain⟨e,n,ne,nf,d⟩:=I.pin p hp;refine⟨b4 (C.2 p.1 ?_) e,n,ne,nf,d⟩;intro q;rw[q,Y]at e;have q':oc=p.2:=aX e;exact d Z (by rw[<- q'];exact R)
theorem Vr{M:tJ}{A:bw}{E:qV}{i:Nat}{x:Str}{v:V}{u:ah}{Q:Unit->ax->Prop}(I:Inv X pins σ H s)(l:X.N.Nodup)(hi:X.N[i]?=ao x)(hx:Loc (d0 X.env) x)(r:RelV v u)
  (h:∀s',Inv X pins (ce σ i (ao v)) H s'->Q () s') (hf:Fnl X x:=by walk_at "F"):wpAny M A (storeName X.env x u) Q E s :=
 zhU I l hi hx r (λs' o _=>h s' o) hf
theorem Inv.call'{s':ax}{ch:List ai}(I:Inv X pins σ H s)(v:s'.os=s.os)(u:Un (frs X.stack) ch H H' s.heap s'.heap)(hok:HOk X.prog X.w H' s'.heap)(C:lI s'.gens)
  (l:∀b∈ch,(b∈X.ex\/be X.s₀.heap.objs<=b)/\b≠hJ X.env/\(∀x c,X.env.cells.lookup x=ao c->c≠b)/\∀p∈X.pn++pins,p.1≠b):Inv X pins σ H' s':=by
 obtain⟨h',g',d',t',o⟩:=s';have e:o=s.os:=v;subst e;exact I.call (g':=g') (t':=t') (d':=d') u hok C l
end
abbrev XK:=ah->Option ai->Hp->Prop
abbrev St:=List (Option V)
abbrev VK:=V->Hp->Prop
abbrev TE:=St->Hp->VK->Prop
abbrev TT:=St->Hp->(Bool->Hp->Prop)->Prop
abbrev TA:=St->Hp->(List V->Hp->Prop)->Prop
structure Ends where
 nx:St->Hp->Prop
 rt:VK
 bk:St->Hp->Prop:=λ_ _=>False
 ct:St->Hp->Prop:=λ_ _=>False
abbrev TS:=Ends->St->Hp->Prop
def EP(X:Cx)(pins:qO)(σ:St)(Q:VK)(u:ah)(s':ax):Prop:=∃v H',Inv X pins σ H' s'/\RelV v u/\Q v H'
def TP(X:Cx)(pins:qO)(σ:St)(Q:Bool->Hp->Prop)(b:Bool)(s':ax):Prop:=∃H',Inv X pins σ H' s'/\Q b H'
def AP(X:Cx)(pins:qO)(σ:St)(Q:List V->Hp->Prop)(us:List ah)(s':ax):Prop:=∃l H',Inv X pins σ H' s'/\Vals l us/\Q l H'
def SP(X:Cx)(pins:qO)(D:Ends)(f:Flow)(s':ax):Prop :=
 match f with
 | A3=>∃σ' H',Inv X pins σ' H' s'/\D.nx σ' H'
 | .brk=>∃σ' H',Inv X pins σ' H' s'/\D.bk σ' H'
 | .cont=>∃σ' H',Inv X pins σ' H' s'/\D.ct σ' H'
 | jA u=>∃v σ' H',Inv X pins σ' H' s'/\RelV v u/\D.rt v H'
def PE(X:Cx)(e:bg)(t:TE):Prop :=
 ∀(pins:qO) (s:ax) (σ:St) (H:Hp) (Q:VK),Inv X pins σ H s->t σ H Q->wpAny (model X.prog X.w) X.A (eval e X.env) (EP X pins σ Q) X.xe s
def PT(X:Cx)(e:bg)(t:TT):Prop :=
 ∀(pins:qO) (s:ax) (σ:St) (H:Hp) (Q:Bool->Hp->Prop),Inv X pins σ H s->t σ H Q->wpAny (model X.prog X.w) X.A (isTrue e X.env (eval e X.env)) (TP X pins σ Q) X.xe s
def PW(X:Cx)(e:bg)(t:TT):Prop :=
 ∀(whole:Sem ah) (pins:qO) (s:ax) (σ:St) (H:Hp) (Q:Bool->Hp->Prop),Inv X pins σ H s->t σ H Q->wpAny (model X.prog X.w) X.A (isTrue e X.env whole) (TP X pins σ Q) X.xe s
theorem PW.pt{X:Cx}{e:bg}{t:TT}(h:PW X e t):PT X e t:=h _
def PA(X:Cx)(l:List bg)(t:TA):Prop :=
 ∀(pos:Pos) (pins:qO) (s:ax) (σ:St) (H:Hp) (Q:List V->Hp->Prop),Inv X pins σ H s->t σ H Q->wpAny (model X.prog X.w) X.A (spliced (backTo pos (starEach l X.env))) (AP X pins σ Q) X.xe s
def PS(X:Cx)(st:e8)(t:TS):Prop :=
 ∀(pins:qO) (s:ax) (σ:St) (H:Hp) (D:Ends),Inv X pins σ H s->t D σ H->wpAny (model X.prog X.w) X.A (exec st X.env) (SP X pins D) X.xe s
def PSs(X:Cx)(st:List e8)(t:TS):Prop :=
 ∀(pins:qO) (s:ax) (σ:St) (H:Hp) (D:Ends),Inv X pins σ H s->t D σ H->wpAny (model X.prog X.w) X.A (execs st X.env) (SP X pins D) X.xe s
theorem thn{α:Type}{t:Sem α}{Q l:α->ax->Prop}{M:tJ}{A:bw}{E:qV}{s:ax}(h:wpAny M A t Q E s)(o:∀a s,Q a s->l a s):wpAny M A t l E s:=c8 h o λ_ _ x=>x
section
variable{X:Cx}
def tVar(i:Nat):TE:=λσ H Q=>∃v,σ[i]?=ao (ao v)/\Q v H
def tC(v:V):TE:=λ_ H Q=>Q v H
theorem Ub{i:Nat}{x:Str}{pos:Pos}(L:X.N[i]?=ao x)(R:Vis (d0 X.env) x)(hd:Ndb x:=by decide)(G:Ncd x:=by decide):PE X (bv x pos) (tVar i):=by intro pins s σ H Q I h;obtain⟨v,e,h⟩:=h;obtain⟨m,S,J⟩:=I.loc;obtain⟨u,r,l⟩:=J i x v L e R;have fin:EP X pins σ Q u s:=⟨v,H,I,r,h⟩;rcases l with⟨C,U⟩|⟨C,c,hc,o⟩;exact tK (oE I.ok.kind C S U fin) hd;rcases C with C|C;exact tK (oX I.ok.kind C hc o fin) hd;exact tK (wpAny_loadName_free I.ok.kind C hc o fin G) hd
theorem JN{i j pos}:PE X (jf (.int i) j pos) (tC (.int i)):=λ_ _ _ H _ I h=>wpAny_Constant_int ⟨.int i,H,I.tok _,⟨_,rfl⟩,h⟩
theorem zyu{b j pos}:PE X (jf (.bool b) j pos) (tC (.bl b)):=λ_ _ _ H _ I h=>Constant_bool ⟨.bl b,H,I,rfl,h⟩
theorem zuK{j pos}:PE X (jf .none j pos) (tC .non):=λ_ _ _ H _ I h=>Constant_none ⟨.non,H,I,rfl,h⟩
theorem zuG{x j pos}:PE X (jf (.str x) j pos) (tC (.str x)):=λ_ _ _ H _ I h=>Calls.Constant_str ⟨.str x,H,I.tok _,⟨_,rfl⟩,h⟩
def Gl(X:Cx)(x:Str):Prop:=jd X.env x=ao .globalImplicit
theorem Vd{E:qV}{pins:qO}{s:ax}{σ:St}{H:Hp}{x:Str}{u:ah}{pos:Pos}{Q:qV}(I:Inv X pins σ H s)(o:Gl X x)(l:X.mg x=ao u)(h:Q u s)
  (hd:Ndb x:=by decide):wpAny (model X.prog X.w) X.A (eval (bv x pos) X.env) Q E s :=
 lZ I.ok.kind o (Calls.loadGlobal_global (by rw[I.ok.glob];exact I.mod.glob.keeps I.bk) l h) hd
theorem YU{E:qV}{pins:qO}{s:ax}{σ:St}{H:Hp}{x:Str}{u:ah}{pos:Pos}{Q:qV}(I:Inv X pins σ H s)(J:Gl X x)(C:X.mg x=bj)(o:bootBuiltins x=ao u)(h:Q u s)
  (G:x ≠ "__name__":=by decide) (hd:Ndb x:=by decide):wpAny (model X.prog X.w) X.A (eval (bv x pos) X.env) Q E s:=by
 obtain⟨L,l,v⟩:=I.mod.blt;exact lZ I.ok.kind J (Calls.loadGlobal_builtin (by rw[I.ok.glob];exact I.mod.glob.keeps I.bk) C (by rw[I.ok.blt];exact l.keeps I.bk) (b4 (v x G) o) h) hd
theorem zr7{x:Str}{v:V}{u:ah}{pos:Pos}(G:Gl X x)(l:X.mg x=bj)(C:bootBuiltins x=ao u)(r:RelV v u)(o:x ≠ "__name__":=by decide) (hd:Ndb x:=by decide):PE X (bv x pos) (tC v) :=
 λ_ _ _ H _ I h=>YU I G l C ⟨v,H,I,r,h⟩ o hd
variable{a b:bg}{ta tb:TE}{pos:Pos}
def PC(X:Cx)(op:sG)(a b:bg)(t:TE):Prop :=
 ∀(pins:qO) (s:ax) (σ:St) (H:Hp) (Q:VK),Inv X pins σ H s->t σ H Q ->
  wpAny (model X.prog X.w) X.A (eval a X.env) (λv l=>wpAny (model X.prog X.w) X.A (eval b X.env) (λu o=>wpAny (model X.prog X.w) X.A (compareOp op v u) (EP X pins σ Q) X.xe o) X.xe l) X.xe s
def tB(t:TE):TT:=λσ H Q=>t σ H λx o=>∃c,x=.bl c/\Q c o
theorem zuu{op:sG}{t:TE}(h:PC X op a b t)(l:behindInMarks op b=dy:=by first|exact nobehind _ (by decide) (by decide)|rfl):PT X (jg a [op] [b] pos) (tB t):=by intro pins s σ H Q I hw;refine og (thn (h pins s σ H _ I hw) λv s1 l=>thn l λu s2 J=>thn J λc s3 ⟨x,N,L,G,R⟩=>?_) l;obtain⟨d,rfl,q⟩:=R;cases G;exact cg ⟨N,L,q⟩
variable{tA tB':TT}{rest:List bg}
def tAnd(t u:TT):TT:=λσ H Q=>t σ H λc l=>if c=du then u σ l Q else Q dy l
def tOr(t u:TT):TT:=λσ H Q=>t σ H λc l=>if c=du then Q du l else u σ l Q
def tNot(t:TT):TT:=λσ H Q=>t σ H λc l=>Q (!c) l
theorem zrS(ha:PT X a tA):PW X (f7 .And [a] pos) tA:=by
 intro u pins s σ H Q I h;refine isTrue_and (thn (ha pins s σ H Q I h) λc s1 e=>?_);cases c with
 | true=>exact isTrue_and_nil e
 | false=>exact e
theorem zup(ha:PT X a tA):PW X (f7 .Or [a] pos) tA:=by
 intro u pins s σ H Q I h;refine isTrue_or (thn (ha pins s σ H Q I h) λc s1 e=>?_);cases c with
 | false=>exact isTrue_or_nil e
 | true=>exact e
theorem zuq(ha:PT X a tA)(hb:PW X (f7 .And (b::rest) pos) tB'):PW X (f7 .And (a::b::rest) pos) (tAnd tA tB'):=by
 intro G pins s σ H Q I h;refine isTrue_and (thn (ha pins s σ H _ I h) λc s1 u=>?_);obtain⟨v,x,C⟩:=u;cases c with
 | true=>exact hb G pins s1 σ v Q x C
 | false=>exact⟨v,x,C⟩
theorem zyq(ha:PT X a tA)(hb:PW X (f7 .Or (b::rest) pos) tB'):PW X (f7 .Or (a::b::rest) pos) (tOr tA tB'):=by
 intro G pins s σ H Q I h;refine isTrue_or (thn (ha pins s σ H _ I h) λc s1 u=>?_);obtain⟨v,x,C⟩:=u;cases c with
 | true=>exact⟨v,x,C⟩
 | false=>exact hb G pins s1 σ v Q x C
theorem zut(ha:PT X a tA):PT X (jz .Not a pos) (tNot tA):=by intro pins s σ H Q I h;exact isTrue_not (ha pins s σ H (λc l=>Q (!c) l) I h)
def zxK(ta tb:TE):TE:=λσ H Q=>ta σ H λx o=>∃c,x=.bl c/\if c=du then tb σ o Q else Q (.bl dy) o
def tOrV(ta tb:TE):TE:=λσ H Q=>ta σ H λx o=>∃c,x=.bl c/\if c=du then Q (.bl du) o else tb σ o Q
def zxE(ta:TE):TE:=λσ H Q=>ta σ H λx o=>∃c,x=.bl c/\Q (.bl (!c)) o
theorem zuI{op}{t:TE}(h:PE X a t):PE X (f7 op [a] pos) t:=λpins s σ H Q I hw=>BoolOp_one (h pins s σ H Q I hw)
theorem zuO(ha:PE X a ta)(hb:PE X (f7 .And (b::rest) pos) tb):PE X (f7 .And (a::b::rest) pos) (zxK ta tb):=by
 intro pins s σ H Q I h;refine BoolOp_and (thn (ha pins s σ H _ I h) λv s1 C=>?_);obtain⟨x,J,G,L,u⟩:=C;obtain⟨c,rfl,u⟩:=u;cases L;refine cg ?_;cases c with
 | true=>exact hb pins s1 σ J Q G u
 | false=>exact⟨.bl dy,J,G,rfl,u⟩
theorem zyt(ha:PE X a ta)(hb:PE X (f7 .Or (b::rest) pos) tb):PE X (f7 .Or (a::b::rest) pos) (tOrV ta tb):=by
 intro pins s σ H Q I h;refine BoolOp_or (thn (ha pins s σ H _ I h) λv s1 C=>?_);obtain⟨x,J,G,L,u⟩:=C;obtain⟨c,rfl,u⟩:=u;cases L;refine cg ?_;cases c with
 | false=>exact hb pins s1 σ J Q G u
 | true=>exact⟨.bl du,J,G,rfl,u⟩
theorem zuJ(ha:PE X a ta):PE X (jz .Not a pos) (zxE ta):=by intro pins s σ H Q I h;refine UnaryOp_ (thn (ha pins s σ H _ I h) λv s1 u=>?_);obtain⟨x,G,L,J,C⟩:=u;obtain⟨c,rfl,C⟩:=C;cases J;exact not_of (cg ⟨.bl (!c),G,L,rfl,C⟩)
def tIf(t:TT)(ta tb:TE):TE:=λσ H Q=>t σ H λc l=>if c=du then ta σ l Q else tb σ l Q
theorem zpv{c:bg}(hc:PT X c tA)(ha:PE X a ta)(hb:PE X b tb):PE X (.IfExp c a b pos) (tIf tA ta tb):=by
 intro pins s σ H Q I h;refine wpAny_IfExp (thn (hc pins s σ H _ I h) λd s1 l=>?_);obtain⟨o,v,u⟩:=l;cases d with
 | true=>exact ha pins s1 σ o Q v u
 | false=>exact hb pins s1 σ o Q v u
end
def SqL(K:qF)(H:Hp)(a:ai)(xs:List V):Prop :=
 Rd H a (.lst xs) \/
  ∃(o:Obj) (its:Array ah) (n:Nat),K.lookup a=ao o/\jo o=bU "list" /\ o.dict=bj/\io o=im its n/\be its<=sizeLine/\Vals xs (nK its)
def SqT(K:qF)(H:Hp)(a:ai)(xs:List V):Prop :=
 Rd H a (.tup xs) \/
  ∃(o:Obj) (its:Array ah) (n:Nat),K.lookup a=ao o/\jo o=bU "tuple" /\ io o=im its n/\be its<=sizeLine/\Vals xs (nK its)
def absV:ah->Option V
 | kJ=>ao .non
 | nJ b=>ao (.bl b)
 | rL i _=>ao (.int i)
 | kI x _=>ao (.str x)
 | .bytes b _=>ao (.byt b)
 | xo b _=>ao (.flt b)
 | bQ a=>ao (.ref a)
 | bU n=>ao (.ty n)
 | _=>bj
theorem RelV.abs{x:V}{u:ah}(r:RelV x u):absV u=ao x:=by
 cases x with
 | non=>cases r;rfl
 | bl _=>cases r;rfl
 | int _=>obtain⟨t,rfl⟩:=r;rfl
 | str _=>obtain⟨t,rfl⟩:=r;rfl
 | byt _=>obtain⟨t,rfl⟩:=r;rfl
 | flt _=>obtain⟨t,rfl⟩:=r;rfl
 | ref _=>cases r;rfl
 | ty _=>cases r;rfl
theorem RelV.inj{x y:V}{u:ah}(r:RelV x u)(q:RelV y u):x=y:=aX (b4 r.abs.symm q.abs)
theorem Vals.inj{xs l:List V}{us:List ah}(h:Vals xs us)(k:Vals l us):xs=l:=by
 induction h generalizing l with
 | nil=>cases k;rfl
 | cons r t o =>
  cases k with
  | cons u t'=>rw[r.inj u,o t']
section
variable{X:Cx}{pins:qO}{σ:St}{H:Hp}{s:ax}{a:ai}{xs ys:List V}
theorem SqL.of{K:qF}(h:H a=ao (.lst xs)):SqL K H a xs:=dY (dY h)
theorem Inv.list(I:Inv X pins σ H s)(h:SqL X.K H a xs):∃its:List ah,Vals xs its/\PlainL s.heap a (bm its)/\fo xs<=sizeLine:=by rcases h with h|⟨o,its,n,l,hc,hd,u,v,r⟩;obtain⟨z,its,n,r,e⟩:=h.ok I.hok;exact⟨its,r,⟨_,n,e,rfl,rfl,rfl⟩,z⟩;refine⟨nK its,r,⟨o,n,I.kIn a o l,hc,hd,by simpa using u⟩,?_⟩;have e:=r.length;simp only[bN]at e;lia
theorem Inv.tuple(I:Inv X pins σ H s)(h:SqT X.K H a xs):∃its:List ah,Vals xs its/\oC s.heap a (bm its)/\fo xs<=sizeLine:=by rcases h with h|⟨o,its,n,l,hc,u,v,r⟩;obtain⟨z,its,r,p⟩:=h.ok I.hok;exact⟨its,r,p.tup,z⟩;refine⟨nK its,r,⟨o,I.kIn a o l,hc,n,by simpa using u⟩,?_⟩;have e:=r.length;simp only[bN]at e;lia
theorem Inv.list_inj(I:Inv X pins σ H s)(h:SqL X.K H a xs)(h':SqL X.K H a ys):xs=ys:=by
 obtain⟨its,r,⟨o,n,e,_,_,d⟩,_⟩:=I.list h;obtain⟨its',u,⟨x,v,l,_,_,d'⟩,_⟩:=I.list h';rw[e]at l;cases l;rw[d]at d';injection d' with d1 _
 have:its=its':=by simpa using congrArg nK d1
 subst this;exact r.inj u
theorem Inv.tuple_inj(I:Inv X pins σ H s)(h:SqT X.K H a xs)(h':SqT X.K H a ys):xs=ys:=by
 obtain⟨its,r,⟨o,e,_,n,d⟩,_⟩:=I.tuple h;obtain⟨its',u,⟨x,l,_,v,d'⟩,_⟩:=I.tuple h';rw[e]at l;cases l;rw[d]at d';injection d' with d1 _
 have:its=its':=by simpa using congrArg nK d1
 subst this;exact r.inj u
end
abbrev Cx.wish(X:Cx)(E:qV):Cx:={ X with xe:=E }
abbrev Cx.nox(X:Cx):Cx:=X.wish λ_ _=>False
theorem Cx.Ok.wish{X:Cx}(ok:X.Ok)(E:qV):(X.wish E).Ok :=
 ⟨ok.mod,ok.kind,ok.glob,ok.blt,ok.above,ok.inj,ok.has,ok.cab,ok.hd,ok.frames,ok.stk,ok.exf,ok.bs,ok.bsz,ok.noex,ok.exfs,ok.funs,ok.frf⟩
theorem Cx.Ok.unwish{X:Cx}{E:qV}(ok:(X.wish E).Ok):X.Ok :=
 ⟨ok.mod,ok.kind,ok.glob,ok.blt,ok.above,ok.inj,ok.has,ok.cab,ok.hd,ok.frames,ok.stk,ok.exf,ok.bs,ok.bsz,ok.noex,ok.exfs,ok.funs,ok.frf⟩
section
variable{X:Cx}{pins:qO}{σ:St}{H:Hp}{s:ax}{E:qV}
theorem Inv.wish(I:Inv X pins σ H s)(E:qV):Inv (X.wish E) pins σ H s:=⟨I.ok.wish E,I.os,I.bare,I.base,I.loc,I.cell,I.free,I.freeC,I.pin,I.hok,I.len⟩
theorem Inv.unwish(I:Inv (X.wish E) pins σ H s):Inv X pins σ H s:=⟨I.ok.unwish,I.os,I.bare,I.base,I.loc,I.cell,I.free,I.freeC,I.pin,I.hok,I.len⟩
theorem SP.unwish{D:Ends}{f:Flow}{s':ax}(h:SP (X.wish E) pins D f s'):SP X pins D f s':=by
 cases f with
 | next=>obtain⟨σ',H',I,q⟩:=h;exact⟨σ',H',I.unwish,q⟩
 | brk=>obtain⟨σ',H',I,q⟩:=h;exact⟨σ',H',I.unwish,q⟩
 | cont=>obtain⟨σ',H',I,q⟩:=h;exact⟨σ',H',I.unwish,q⟩
 | ret u=>obtain⟨v,σ',H',I,r,q⟩:=h;exact⟨v,σ',H',I.unwish,r,q⟩
theorem PSs.nox{st:List e8}{t:TS}(h:PSs X.nox st t):PSs X st t:=λpins s σ H D I hw =>
 c8 (h pins s σ H D (I.wish _) hw) (λ_ _ q=>q.unwish) λ_ _ z=>e9 z
end
section
variable{X:Cx}{st:e8}{rest:List e8}{t u:TS}{e:bg}{te:TE}{pos:Pos}
def zxF:TS:=λD σ H=>D.nx σ H
def tSeq(t u:TS):TS:=λD σ H=>t { D with nx:=u D } σ H
theorem Wv:PSs X [] zxF:=λ_ _ σ H _ I h=>k9 ⟨σ,H,I,h⟩
theorem QM(x:PS X st t)(o:PSs X rest u):PSs X (st::rest) (tSeq t u):=by
 intro pins s σ H D I h;refine rM (thn (x pins s σ H { D with nx:=u D } I h) λf s1 q=>?_);cases f with
 | next =>obtain⟨σ',H',l,q⟩:=q;exact o pins s1 σ' H' D l q
 | ret v=>exact q
 | brk=>exact q
 | cont=>exact q
theorem Zi(l:PS X st t):PSs X [st] t:=by
 intro pins s σ H D I h;refine rM (thn (l pins s σ H D I h) λf s1 q=>?_);cases f with
 | next=>exact k9 q
 | ret v=>exact q
 | brk=>exact q
 | cont=>exact q
theorem Inv.quiet{pins:qO}{σ:St}{H:Hp}{s:ax}(I:Inv X pins σ H s):interactive X.env=dy:=by simp[interactive,I.ok.kind]
def zxJ(te:TE):TS:=λD σ H=>te σ H λ_ l=>D.nx σ l
theorem zmN(he:PE X e te)(o:swapsWith e bj pos.line X.env=pure dy:=by rfl):PS X (.Expr e pos) (zxJ te):=by intro pins s σ H D I h;exact wpAny_Expr_any (thn (he pins s σ H _ I h) λv s1 ⟨x,l,G,J,C⟩=>⟨σ,l,G,C⟩) I.quiet o
def tRet(te:TE):TS:=λD σ H=>te σ H D.rt
theorem ZR(he:PE X e te):PS X (.Return (ao e) pos) (tRet te):=by intro pins s σ H D I h;exact wpAny_Return_some (thn (he pins s σ H _ I h) λv s1 ⟨x,l,G,o,C⟩=>⟨x,σ,l,G,o,C⟩)
def tIfS(c:TT)(t u:TS):TS:=λD σ H=>c σ H λb l=>if b=du then t D σ l else u D σ l
theorem VS{c:bg}{a b:List e8}{o:TT}(hc:PT X c o)(ha:PSs X a t)(hb:PSs X b u):PS X (.If c a b pos) (tIfS o t u):=by
 intro pins s σ H D I h;refine wpAny_If (thn (hc pins s σ H _ I h) λd s1 l=>?_);obtain⟨x,v,C⟩:=l;cases d with
 | true=>exact ha pins s1 σ x D v C
 | false=>exact hb pins s1 σ x D v C
def ztW:TS:=λ_ _ _=>False
theorem zpq:PS X st ztW:=λ_ _ _ _ _ _ h=>e9 h
end
abbrev TG:=V->St->Hp->(St->Hp->Prop)->Prop
abbrev TGs:=List V->St->Hp->(St->Hp->Prop)->Prop
def PG(X:Cx)(target:bg)(t:TG):Prop :=
 ∀(pins:qO) (s:ax) (σ:St) (H:Hp) (v:V) (u:ah) (Q:St->Hp->Prop),Inv X pins σ H s->RelV v u->t v σ H Q ->
  wpAny (model X.prog X.w) X.A (assign target X.env u) (λ_ s'=>∃σ' H',Inv X pins σ' H' s'/\Q σ' H') X.xe s
def PGs(X:Cx)(ts:List bg)(t:TGs):Prop :=
 ∀(pins:qO) (s:ax) (σ:St) (H:Hp) (l:List V) (us:List ah) (Q:St->Hp->Prop),Inv X pins σ H s->Vals l us->t l σ H Q ->
  wpAny (model X.prog X.w) X.A (assignInOrder ((assignEach ts X.env).map (·.2)) us) (λ_ s'=>∃σ' H',Inv X pins σ' H' s'/\Q σ' H') X.xe s
abbrev TSet:=V->V->V->Hp->(Hp->Prop)->Prop
def PSet(X:Cx)(t:TSet):Prop :=
 ∀(pins:qO) (s:ax) (σ:St) (H:Hp) (o i v:V) (x l u:ah) (Q:Hp->Prop),Inv X pins σ H s->RelV o x->RelV i l->RelV v u->t o i v H Q ->
  wpAny (model X.prog X.w) X.A (setItem x l u) (λ_ s'=>∃H',Inv X pins σ H' s'/\Q H') X.xe s
abbrev TIp:=V->V->Hp->VK->Prop
def PIp(X:Cx)(op:tL)(t:TIp):Prop :=
 ∀(pins:qO) (s:ax) (σ:St) (H:Hp) (x y:V) (v u:ah) (Q:VK),Inv X pins σ H s->RelV x v->RelV y u->t x y H Q ->
  wpAny (model X.prog X.w) X.A (inplaceOp op v u) (EP X pins σ Q) X.xe s
section
variable{X:Cx}{pos:Pos}
def UO(i:Nat):TG:=λv σ H Q=>Q (ce σ i (ao v)) H
theorem Wt{i:Nat}{x:Str}(l:X.N.Nodup)(hi:X.N[i]?=ao x)(hx:Loc (d0 X.env) x)(hf:Fnl X x:=by walk_at "F"):PG X (bv x pos) (UO i):=by intro pins s σ H v u Q I r h;exact pP (Vr I l hi hx r (λs' o=>⟨_,H,o,h⟩) hf)
def gNil:TGs:=λl σ H Q=>l=[]/\Q σ H
def zzi(t:TG)(u:TGs):TGs:=λl σ H Q=>∃v r,l=v::r/\t v σ H λσ' H'=>u r σ' H' Q
theorem zmV:PGs X [] gNil:=by intro pins s σ H l us Q I r h;obtain⟨e,h⟩:=h;subst e;cases r;exact pQ ⟨σ,H,I,h⟩
theorem WF{e:bg}{l:List bg}{t:TG}{u:TGs}(G:PG X e t)(J:PGs X l u)
  (L:(assignEach (e::l) X.env).map (·.2)=assign e X.env::(assignEach l X.env).map (·.2):=by rfl):PGs X (e::l) (zzi t u):=by
 intro pins s σ H Y us Q I r h;obtain⟨v,Z,U,h⟩:=h;subst U;cases r with
 | cons r C =>rw[L];refine l7 (thn (G pins s σ H _ _ _ I r h) λ_ s1 o=>?_);obtain⟨x,R,N,S⟩:=o;exact J pins s1 x R _ _ Q N C S
def gTup(K:qF)(n:Nat)(t:TGs):TG:=λv σ H Q=>∃a xs,v=.ref a/\SqT K H a xs/\fo xs=n/\t xs σ H Q
theorem zuE{C:List bg}{k:Nat}{t:TGs}{n:Nat}(hc:X.calm=du)(h:PGs X C t)
  (S:fo (assignEach C X.env)=n:=by rfl) (G:(assignEach C X.env).findIdx? (·.1)=bj:=by rfl):PG X (i4 C k pos) (gTup X.K n t):=by
 intro pins s σ H v u Q I r hw;obtain⟨a,xs,Y,U,L,hw⟩:=hw;subst Y;cases r;obtain⟨its,J,N,Z⟩:=I.tuple U;refine assign_Tuple_tuple (I.ok.hd hc) N (by simp[S,<- L,J.length]) G λh' hx=>?_;have R:Inv X pins σ H { s with heap:=h' }:=I.kept (t':=eA s) λb o e=>hx b o (aW (aE e)) e;exact h pins _ σ H xs _ Q R (by simpa using J) hw
def gSub(to ti:TE)(t:TSet):TG:=λv σ H Q=>to σ H λo l=>ti σ l λi u=>t o i v u λx=>Q σ x
theorem pg_sub{o i:bg}{to ti:TE}{t:TSet}(J:PE X o to)(hi:PE X i ti)(hs:PSet X t)
  (ha:∀v,assign (ed o i pos) X.env v=(do
   let C <- holding [v] (eval o X.env);let G <- holding [v,C] (eval i X.env)
   standAt pos
   holding [v,C,G] (setItem C G v)
   release [v,C,G] []):=by intro _;rfl):PG X (ed o i pos) (gSub to ti t):=by
 intro pins s σ H v u Q I r h;rw[ha];refine ae (cu (thn (J pins s σ H _ I h) λC s1 l=>?_));obtain⟨x,H1,I1,N,q1⟩:=l;refine ae (cu (thn (hi pins s1 σ H1 _ I1 q1) λG s2 l=>?_));obtain⟨y,U,I2,R,q2⟩:=l;refine ae (fO (ae (cu (thn (hs pins s2 σ U x y v C G u _ I2 N R r q2) λ_ s3 l=>?_))));obtain⟨Y,Z,L⟩:=l;exact wpAny_release ⟨σ,Y,Z,L⟩
def tAsg(o:TE)(g:TG):TS:=λD σ H=>o σ H λx l=>g x σ l D.nx
theorem ZQ{tg e:bg}{l:TE}{g:TG}(he:PE X e l)(N:PG X tg g)(C:swapsWithSole [tg] e pos.line X.env=pure dy:=by rfl)(hw:swappedStores [tg] e X.env=pure bj:=by rfl)
  (u:(assignEach [tg] X.env).map (·.2)=[assign tg X.env]:=by rfl):PS X (ii [tg] e pos) (tAsg l g):=by
 intro pins s σ H D I h;refine wpAny_Assign_stores (thn (he pins s σ H _ I h) λv s1 ⟨x,J,G,o,L⟩=>?_) C hw;rw[u];exact thn (N pins s1 σ J x v _ G o L) λ_ s2 q=>q
theorem Q1{i:Nat}{x:Str}{e:bg}{o:TE}{l:Pos}(u:X.N.Nodup)(hi:X.N[i]?=ao x)(hx:Loc (d0 X.env) x)(he:PE X e o)(G:swapsWith e (ao (bv x l)) pos.line X.env=pure dy:=by rfl)(hf:Fnl X x:=by walk_at "F") :
  PS X (ii [bv x l] e pos) (tAsg o (UO i)):=by
 intro pins s σ H D I h;refine wpAny_Assign_Name (thn (he pins s σ H _ I h) λv s1 ⟨y,R,J,C,S⟩=>?_) G;exact Vr J u hi hx C (λs2 L=>⟨_,R,L,S⟩) hf
def tPar(i j:Nat)(l:TA):TS:=λD σ H=>l σ H λu o=>∃v w,u=[v,w]/\D.nx (ce (ce σ i (ao v)) j (ao w)) o
theorem zuv{i j:Nat}{x y:Str}{a b:bg}{ta:TA}{U py pt:Pos}{kt k2 pt2}(hc:X.calm=du)(hN:X.N.Nodup)(hi:X.N[i]?=ao x)(hj:X.N[j]?=ao y)(L:i≠j)
  (hx:X.env.scope.names.lookup x=ao .local) (Z:X.env.scope.names.lookup y=ao .local) (ha:PA X [a,b] ta)
  (hw:swappedStores [i4 [bv x U,bv y py] kt pt] (i4 [a,b] k2 pt2) X.env=pure (ao [x,y]))
  (hs:swapsWithSole [i4 [bv x U,bv y py] kt pt] (i4 [a,b] k2 pt2) pos.line X.env=pure dy:=by rfl) :
  PS X (ii [i4 [bv x U,bv y py] kt pt] (i4 [a,b] k2 pt2) pos) (tPar i j ta):=by
 intro pins s σ H D I h;rw[exec_Assign_arm];refine ae (fO ?_);rw[hs];refine ae (ak ?_);rw[if_neg (by decide)];refine ae (Tuple_ (thn (ha _ pins s σ H _ I h) λus s1 J=>?_));obtain⟨vs,H1,I1,r1,Y⟩:=J;obtain⟨v,w,e1,Y⟩:=Y;subst e1;obtain⟨C,G,rfl,rv,S⟩:∃C G,us=[C,G]/\RelV v C/\RelV w G:=by
  cases r1 with
  | cons p q =>
   cases q with
   | cons p' q' =>cases q';exact⟨_,_,rfl,p,p'⟩
 refine cL ?_ (by show 2<=sizeLine;decide);have I2:Inv X pins σ H1 { s1 with heap:=ee s1.heap { cls:=bU "tuple",data:=im [C,G].toArray } }:=I1.kept (t':=eA s1) λb o e=>aj _ e;rw[hw];refine ae (ak ?_);show wpAny (model X.prog X.w) X.A (do rule "assign.swapped-stores";let items <- unpackItems (bQ s1.heap.objs.size) 2 bj;assignInOrder [λv=>bindName X.env y v,λv=>bindName X.env x v] (jn items);pure A3) _ _ _;refine ae (dG (ae (unpackItems_tuple (items:=#[C,G]) (I.ok.hd hc) (IsTup.new s1.heap _) λh' R=>?_)));have I3:=I2.kept (h':=h') (t':=eA s1) λb o e=>R b o (aW (aE e)) e;show wpAny _ _ (assignInOrder [λv=>bindName X.env y v,λv=>bindName X.env x v] [G,C] >>= λ_=>pure A3) _ _ _;refine ae (l7 (tM (Vr I3 hN hj (dY Z) S (λs2 I4=>?_) (sr Z))));refine l7 (tM (Vr I4 hN hi (dY hx) rv (λs3 I5=>pQ (ak ?_)) (sr hx)));rw[List.set_comm _ _ (gN L)]at I5;exact⟨_,H1,I5,Y⟩
def tAug(i:Nat)(u:TE)(ti:TIp):TS:=λD σ H=>∃x,σ[i]?=ao (ao x)/\u σ H λy l=>ti x y l λz o=>D.nx (ce σ i (ao z)) o
theorem zq4{i:Nat}{x:Str}{e:bg}{U:TE}{op:tL}{ti:TIp}{R:Pos}(hN:X.N.Nodup)(hi:X.N[i]?=ao x)(hx:Loc (d0 X.env) x)(he:PE X e U)(Y:PIp X op ti)(hf:Fnl X x:=by walk_at "F") :
  PS X (jC (bv x R) op e pos) (tAug i U ti):=by
 intro pins s σ H D I h;obtain⟨v,e1,h⟩:=h;obtain⟨m,hn,Z⟩:=I.loc;have S:Vis (d0 X.env) x:=by rcases hx with k|k;exact dY k;exact sr (dY k)
 obtain⟨u,r,l⟩:=Z i x v hi e1 S;refine wpAny_AugAssign_Name ?_;have go:wpAny (model X.prog X.w) X.A (eval e X.env) (λw J=>wpAny (model X.prog X.w) X.A (inplaceOp op u w) (λr L=>wpAny (model X.prog X.w) X.A (storeName X.env x r) (λ_=>SP X pins D A3) X.xe L) X.xe J) X.xe s:=by refine thn (he pins s σ H _ I h) λw s1 C=>?_;obtain⟨y,H1,I1,r1,q1⟩:=C;refine thn (Y pins s1 σ H1 v y u w _ I1 r r1 q1) λz s2 C=>?_;obtain⟨zv,H2,I2,r2,q2⟩:=C;exact Vr I2 hN hi hx r2 (λs3 I3=>⟨_,H2,I3,q2⟩) hf
 rcases l with⟨o,hm⟩|⟨o,c,hc,G⟩;exact oE I.ok.kind o hn hm go;rcases o with o|o;exact oX I.ok.kind o hc G go;rcases hx with k|k;have:X.env.scope.names.lookup x=ao cV:=o;rw[k]at this;cases this;have:X.env.scope.names.lookup x=ao cV:=o;rw[k]at this;cases this
def ipI(f:Int->Int->Int):TIp:=λx y H Q=>∃i j,x=.int i/\y=.int j/\Q (.int (f i j)) H
theorem zre:PIp X .Add (ipI λi j=>i+j):=by intro pins s σ H x y v u Q I o C h;obtain⟨i,j,G,l,q⟩:=h;subst G;subst l;obtain⟨t,rfl⟩:=o;obtain⟨t',rfl⟩:=C;exact iadd_int ⟨.int _,H,I.tok _,⟨_,rfl⟩,q⟩
def ztU(c:TT)(u:TS):TS:=λD σ H=>∃W:Nat->St->Hp->Prop,(∃m,W m σ H)/\∀m σ H,W m σ H ->
 c σ H λb l=>if b=du then ∃N:St->Hp->Prop,(∀σ' H',N σ' H'->∃o,o<m/\W o σ' H')/\u { D with nx:=N,ct:=N,bk:=D.nx } σ l else D.nx σ l
theorem zpp{c:bg}{body:List e8}{tc:TT}{Z:TS}(hp:rN (model X.prog X.w) X.A X.env X.xe)(hc:PT X c tc)(hb:PSs X body Z):PS X (.While c body [] pos) (ztU tc Z):=by
 intro pins s σ H D I h;obtain⟨W,⟨m0,w0⟩,turn⟩:=h;refine wpAny_While (codeAny_whileLoop (λn s'=>∃σ' H',Inv X pins σ' H' s'/\W n σ' H') ?_ m0 ⟨σ,H,I,w0⟩);rintro n s1 ⟨u,H1,I1,w1⟩;refine gf hp (thn (hc pins s1 u H1 _ I1 (turn n u H1 w1)) λb s2 J=>?_);obtain⟨H2,I2,G⟩:=J;cases b with
 | true =>
  obtain⟨N,hN,G⟩:=G;rw[if_pos rfl];refine gf hp (thn (hb pins s2 u H2 _ I2 G) λf s3 C=>?_);cases f with
  | next =>obtain⟨o,x,S,R⟩:=C;obtain⟨L,Y,U⟩:=hN o x R;exact⟨L,Y,o,x,S,U⟩
  | cont =>obtain⟨o,x,S,R⟩:=C;obtain⟨L,Y,U⟩:=hN o x R;exact⟨L,Y,o,x,S,U⟩
  | brk=>exact C
  | ret v=>exact C
 | false =>rw[if_neg aT];exact k9 ⟨u,H2,I2,G⟩
end
structure It where
 go:Nat->Hp->Prop
 yld:Nat->Hp->V->Hp->Prop
 stop:Nat->Hp->Prop
def FpOk(X:Cx)(pins:qO)(H:Hp)(b:ai):Prop :=
 H b=bj/\b≠hJ X.env/\b∉X.fs/\(b∈X.ex\/be X.s₀.heap.objs<=b)/\(∀x c,X.env.cells.lookup x=ao c->c≠b)/\∀p∈X.pn++pins,p.1≠b
theorem Inv.fpOk{X:Cx}{pins:qO}{σ:St}{H H':Hp}{s:ax}{b:ai}(I:Inv X pins σ H s)(hb:be s.heap.objs<=b)(l:H' b=bj):FpOk X pins H' b:=by refine⟨l,lJ (aI I.lt hb),I.nofs hb,sr (ba I.sz hb),λx c e z=>?_,λp o z=>?_⟩;obtain⟨v,q⟩:=I.cell x c e;exact absurd (aI q.lt (by rw[z];exact hb)) (gy _);exact absurd (aI (aE (I.pin p o).1) (by rw[z];exact hb)) (gy _)
structure Turn(P:aK)(w:aV)(K:qF)(tg:bg)(J:It)(fp:List ai)(it:ai)(tn:Nat->bq->Prop):Prop where
 mem:it∈fp
 obj:∀i h,tn i h->∀b∈fp,∃o,bi h b=ao o/\∀v,io o≠.cell v
 keep:∀i h h',tn i h->(∀b∈fp,∀o,bi h b=ao o->bi h' b=ao o)->tn i h'
 item:∀(X:Cx),X.prog=P->X.w=w->X.K=K->X.calm=du->∀(i:Nat) (pins:qO) (s:ax) (σ:St) (H:Hp) (E:qV),Inv X pins σ H s->(∀b∈fp,FpOk X pins H b)->tn i s.heap->J.go i H ->
  wpAny (model P w) X.A (pyNext (bQ it)) (λr s1=>∃u,r=ao u /\
   wpAny (model P w) X.A (letOwnedTupleGo tg (bQ it) u) (λ_ s2=>∃x H',Inv X pins σ H' s2/\RelV x u/\J.yld i H x H'/\tn (i+1) s2.heap/\∀b∈fp,H' b=bj) E s1) E s
 done:∀(X:Cx),X.prog=P->X.w=w->X.K=K->X.calm=du->∀(i:Nat) (pins:qO) (s:ax) (σ:St) (H:Hp) (E:qV),Inv X pins σ H s->(∀b∈fp,FpOk X pins H b)->tn i s.heap->J.stop i H ->
  wpAny (model P w) X.A (pyNext (bQ it)) (λr s1=>r=bj/\Inv X pins σ H s1) E s
 self:∀(A:bw) (i:Nat) (s:ax) (Q:qV) (E:qV),tn i s.heap->Q (bQ it) s->wpAny (model P w) A (pyIter (bQ it)) Q E s
abbrev TI:=St->Hp->(It->Hp->Prop)->Prop
def PIE(X:Cx)(pins:qO)(σ:St)(tg:bg)(R:It->Hp->Prop)(l:ah)(s2:ax):Prop :=
 ∃(it:ai) (u:List ai) (o:Nat->bq->Prop) (J:It) (H':Hp),l=bQ it/\Inv X pins σ H' s2/\Turn X.prog X.w X.K tg J u it o/\o 0 s2.heap/\(∀b∈u,FpOk X pins H' b)/\R J H'
def PI(X:Cx)(tg iter:bg)(l:TI):Prop :=
 ∀(pins:qO) (s:ax) (σ:St) (H:Hp) (R:It->Hp->Prop),Inv X pins σ H s->l σ H R ->
  wpAny (model X.prog X.w) X.A (eval iter X.env) (λv s1=>wpAny (model X.prog X.w) X.A (pyIter v) (PIE X pins σ tg R) X.xe s1) X.xe s
theorem ZF{M:tJ}{A:bw}{E:qV}{s:ax}{tg:bg}{it:ai}{u:ah}{o:Obj}{n:String}{x:Array ah}{Q:Unit->ax->Prop}(G:bi s.heap it=ao o)(hc:jo o=bU n)(hd:io o=fm x)
  (C:["enumerate","zip","dict_itemiterator","dict_reverseitemiterator","odict_iterator","itertools.zip_longest","itertools.pairwise"].contains n=dy) (v:Q () s):wpAny M A (letOwnedTupleGo tg (bQ it) u) Q E s:=by
 unfold letOwnedTupleGo;cases tg <;> first
  | exact ak v
  | (cases u <;> first
    | exact ak v
    | (refine ae (tN G ?_)
       rw[hc,hd];show wpAny M A (if (["enumerate","zip","dict_itemiterator","dict_reverseitemiterator","odict_iterator","itertools.zip_longest","itertools.pairwise"].contains n&&x[0]? == ao (rawInt _))=du then _ else _) Q E s;rw[if_neg (by intro h;rw[C,cz]at h;cases h)];exact ak v))
def Itl(K:qF)(a:ai):It :=
 ⟨λi H=>∃xs x,SqL K H a xs/\xs[i]?=ao x,λi H x H'=>H'=H/\∀xs,SqL K H a xs->xs[i]?=ao x,λi H=>∃xs,SqL K H a xs/\fo xs<=i⟩
def Itt(K:qF)(a:ai):It :=
 ⟨λi H=>∃xs x,SqT K H a xs/\xs[i]?=ao x,λi H x H'=>H'=H/\∀xs,SqT K H a xs->xs[i]?=ao x,λi H=>∃xs,SqT K H a xs/\fo xs<=i⟩
def Itr(lo:Int)(n:Nat):It:=⟨λi _=>i<n,λi H x H'=>H'=H/\x=.int (lo+i),λi _=>n<=i⟩
theorem zhO{P:aK}{w:aV}{K:qF}{tg:bg}(a it:ai):Turn P w K tg (Itl K a) [it] it (λi h=>h.IsListIter it a i) where
 mem:=by simp
 obj:=λi h st b hb=>by
  have e:b=it:=by simpa using hb
  subst e;obtain⟨o,e,c,d⟩:=st;exact⟨o,e,λv z=>by rw[d]at z;cases z⟩
 keep:=λi h h' st k=>st.at λo e=>k it (by simp) o e
 item:=by intro X G hw N hc i pins s σ H E I hf st S;subst G hw N;obtain⟨xs,x,C,hx⟩:=S;obtain⟨its,J,p,hz⟩:=I.list C;obtain⟨u,hu,ru⟩:=J.get hx;obtain⟨f0,f1,f2,R,f4,L⟩:=hf it (by simp);refine nL st p.isList (x:=u) (by simpa using hu) λh' l sb=>?_;have Z:Inv X pins σ H { s with heap:=h' }:=I.turned (t':=eA s) (λb o hb e=>b4 (sb.2 b hb) e) f0 f1 R f4 L;obtain⟨o,e,c,d⟩:=id l;exact⟨u,rfl,ZF (s:={ s with heap:=h' }) e c d (by decide) ⟨x,H,Z,ru,⟨rfl,λys U=>by rw[I.list_inj U C];exact hx⟩,l,λb hb=>(hf b hb).1⟩⟩
 done:=by intro X G hw N hc i pins s σ H E I hf st S;subst G hw N;obtain⟨xs,C,hx⟩:=S;obtain⟨its,J,p,hz⟩:=I.list C;obtain⟨f0,f1,f2,R,f4,L⟩:=hf it (by simp);have hl:=J.length;exact oh (I.ok.hd hc) st p.isList (by simp;lia) λh' Y=>⟨rfl,I.turned (t':=eA s) (λb o hb e=>Y b o hb e) f0 f1 R f4 L⟩
 self:=λ_ _ _ _ _ st h=>wpAny_pyIter_listiter st h
theorem zgi{P:aK}{w:aV}{K:qF}{tg:bg}(a it:ai):Turn P w K tg (Itt K a) [it] it (λi h=>h.IsTupleIter it a i) where
 mem:=by simp
 obj:=λi h st b hb=>by
  have e:b=it:=by simpa using hb
  subst e;obtain⟨o,e,c,d⟩:=st;exact⟨o,e,λv z=>by rw[d]at z;cases z⟩
 keep:=λi h h' st k=>st.at λo e=>k it (by simp) o e
 item:=by intro X G hw N hc i pins s σ H E I hf st S;subst G hw N;obtain⟨xs,x,C,hx⟩:=S;obtain⟨its,J,p,hz⟩:=I.tuple C;obtain⟨u,hu,ru⟩:=J.get hx;obtain⟨f0,f1,f2,R,f4,L⟩:=hf it (by simp);refine wpAny_pyNext_tuple_item st (show s.heap.IsTuple a (bm its) from p) (x:=u) (by simpa using hu) λh' l sb=>?_;have Z:Inv X pins σ H { s with heap:=h' }:=I.turned (t':=eA s) (λb o hb e=>b4 (sb.2 b hb) e) f0 f1 R f4 L;obtain⟨o,e,c,d⟩:=id l;exact⟨u,rfl,ZF (s:={ s with heap:=h' }) e c d (by decide) ⟨x,H,Z,ru,⟨rfl,λys U=>by rw[I.tuple_inj U C];exact hx⟩,l,λb hb=>(hf b hb).1⟩⟩
 done:=by intro X G hw N hc i pins s σ H E I hf st S;subst G hw N;obtain⟨xs,C,hx⟩:=S;obtain⟨its,J,p,hz⟩:=I.tuple C;obtain⟨f0,f1,f2,R,f4,L⟩:=hf it (by simp);have hl:=J.length;exact wpAny_pyNext_tuple_end (I.ok.hd hc) st (show s.heap.IsTuple a (bm its) from p) (by simp;lia) λh' Y=>⟨rfl,I.turned (t':=eA s) (λb o hb e=>Y b o hb e) f0 f1 R f4 L⟩
 self:=λ_ _ _ _ _ st h=>wpAny_pyIter_tupleiter st h
theorem zlb{P:aK}{w:aV}{K:qF}{tg:bg}(it:ai)(lo:Int)(n:Nat):Turn P w K tg (Itr lo n) [it] it (λi h=>IsRangeIter h it (lo+(i:Nat)*1) ((n:Int) - (i:Nat)) 1) where
 mem:=by simp
 obj:=λi h st b hb=>by
  have e:b=it:=by simpa using hb
  subst e;exact⟨_,st,λv z=>by have U:Data.fields _=Data.cell v:=z;cases U⟩
 keep:=λi h h' st k=>k it (by simp) _ st
 item:=by intro X u hw C hc i pins s σ H E I hf st J;subst u hw C;obtain⟨f0,f1,f2,G,f4,x⟩:=hf it (by simp);have W:=Walks.range (prog:=X.prog) (w:=X.w) (I.ok.hd hc) it lo 1 n;refine W.item i s _ _ J st λv h' tk N l L=>?_;obtain⟨t,rfl⟩:=N;have S:Inv X pins σ H { s with heap:=h',toks:=tk }:=I.turned (λb o hb e=>L b o (by simpa using hb) e) f0 f1 G f4 x;refine⟨_,rfl,ZF (s:={ s with heap:=h',toks:=tk }) (n:="range_iterator") l rfl rfl (by decide) ⟨.int (lo+i),H,S,⟨t,?_⟩,⟨rfl,rfl⟩,l,λb hb=>(hf b hb).1⟩⟩;rw[kY]
 done:=by intro X u hw C hc i pins s σ H E I hf st J;subst u hw C;obtain⟨f0,f1,f2,G,f4,x⟩:=hf it (by simp);exact wpAny_pyNext_range_end (I.ok.hd hc) st (by have:n<=i:=J;lia) λh' R=>⟨rfl,I.turned (t':=eA s) (λb o hb e=>R b o hb e) f0 f1 G f4 x⟩
 self:=λ_ _ _ _ _ st h=>wpAny_pyIter_rangeiter st h
section
variable{X:Cx}{tg:bg}
def zze(K:qF)(o:TE):TI:=λσ H R=>o σ H λx l=>∃a,x=.ref a/\(∃xs,SqL K l a xs)/\R (Itl K a) l
def iTup(K:qF)(o:TE):TI:=λσ H R=>o σ H λx l=>∃a,x=.ref a/\(∃xs,SqT K l a xs)/\R (Itt K a) l
theorem zmU{l:bg}{G:TE}(J:PE X l G):PI X tg l (zze X.K G):=by
 intro pins s σ H R I h;refine thn (J pins s σ H _ I h) λv s1 C=>?_;obtain⟨x,N,u,L,U⟩:=C;obtain⟨a,e,⟨xs,S⟩,q⟩:=U;subst e;cases L;obtain⟨its,Y,p,Z⟩:=u.list S;refine ft p.isList ?_;refine⟨be s1.heap.objs,[be s1.heap.objs],_,_,N,rfl,u.kept (t':=eA s1) λb o e=>aj _ e,zhO a _,⟨_,aB _ rfl,rfl,rfl⟩,λb hb=>?_,q⟩;have e:b=be s1.heap.objs:=by simpa using hb
 subst e;exact u.fpOk (aC _) (u.hok.fresh (aC _))
theorem zuA{l:bg}{G:TE}(J:PE X l G):PI X tg l (iTup X.K G):=by
 intro pins s σ H R I h;refine thn (J pins s σ H _ I h) λv s1 C=>?_;obtain⟨x,N,u,L,U⟩:=C;obtain⟨a,e,⟨xs,S⟩,q⟩:=U;subst e;cases L;obtain⟨its,Y,p,Z⟩:=u.tuple S;refine l8 (show s1.heap.IsTuple a (bm its) from p) ?_;refine⟨be s1.heap.objs,[be s1.heap.objs],_,_,N,rfl,u.kept (t':=eA s1) λb o e=>aj _ e,zgi a _,⟨_,aB _ rfl,rfl,rfl⟩,λb hb=>?_,q⟩;have e:b=be s1.heap.objs:=by simpa using hb
 subst e;exact u.fpOk (aC _) (u.hok.fresh (aC _))
theorem zpm{pins:qO}{σ:St}{H:Hp}{s:ax}{R:It->Hp->Prop}{E:qV}{lo hi:Int}{t u v:Tok}{tk:Nat}(I:Inv X pins σ H s)(J:-(2 ^ 62)<=lo)(L:lo<2 ^ 62)(C:-(2 ^ 62)<=hi)(U:hi<2 ^ 62)
  (q:R (Itr lo (ap (hi - lo))) H):wpAny (model X.prog X.w) X.A (pyIter (bQ s.heap.objs.size)) (PIE X pins σ tg R) E { s with heap:=ee s.heap { cls:=bU "range",data:=fm #[rL lo t,rL hi u,rL 1 v] },toks:=tk }:=by
 refine wpAny_pyIter_range (IsRange.new ..) (small_one J L C U) ?_;have x:Inv X pins σ H { s with heap:=ee s.heap { cls:=bU "range",data:=fm #[rL lo t,rL hi u,rL 1 v] },toks:=tk }:=I.kept λb o e=>aj _ e;refine⟨(ee s.heap { cls:=bU "range",data:=fm #[rL lo t,rL hi u,rL 1 v] }).objs.size,[(ee s.heap { cls:=bU "range",data:=fm #[rL lo t,rL hi u,rL 1 v] }).objs.size],_,_,H,rfl,
  x.kept (t':=tk) λb o e=>aj _ e,zlb _ lo (ap (hi - lo)),?_,λb hb=>?_,q⟩
 have S:lo+((0:Nat):Int)*1=lo:=by simp
 have G:((ap (hi - lo):Nat):Int) - ((0:Nat):Int)=eE lo hi 1:=by rw[rangeSize_one];split <;> lia
 show IsRangeIter _ _ (lo+((0:Nat):Int)*1) (((ap (hi - lo):Nat):Int) - ((0:Nat):Int)) 1;rw[S,G];exact aB _ rfl;have e:b=(ee s.heap { cls:=bU "range",data:=fm #[rL lo t,rL hi u,rL 1 v] }).objs.size:=by simpa using hb
 subst e;exact x.fpOk (aC _) (x.hok.fresh (aC _))
def zzd(l:TA):TI:=λσ H R=>l σ H λu o=>∃j:Int,u=[.int j]/\-(2 ^ 62)<=j/\j<2 ^ 62/\R (Itr 0 (ap j)) o
theorem zmT{a:bg}{u:TA}{p pos:Pos}(U:Gl X "range") (S:X.mg "range" = bj) (ha:PA X [a] u) (G:starEach [a] X.env=[(dy,eval a X.env)]:=by rfl):PI X tg (f9 (bv "range" p) [a] [] pos) (zzd u):=by
 intro pins s σ H R I h;refine Call_ (YU I U S boot_range (fJ (thn (ha pos pins s σ H _ I h) λus s1 ⟨Y,Z,J,x,o⟩=>?_) G rfl));obtain⟨j,e,o,L,q⟩:=o;subst e;cases x with
 | cons r v =>cases v;obtain⟨t,rfl⟩:=r;exact call_range_1 (zpm J (by lia) (by lia) o L (by simpa using q))
def tFor(G:TI)(g:TG)(u:TS):TS:=λD σ H=>G σ H λJ v=>∃W:Nat->Nat->St->Hp->Prop,(∃m,W 0 m σ v)/\∀i m σ H,W i m σ H ->
 (J.stop i H/\D.nx σ H)\/(J.go i H/\∃N:St->Hp->Prop,(∀σ' H',N σ' H'->∃o,o<m/\W (i+1) o σ' H')/\∀x H',J.yld i H x H'->g x σ H' λl C=>u { D with nx:=N,ct:=N,bk:=D.nx } l C)
def ZP(l:List ai)(h:bq):List (ai×Obj):=l.filterMap λb=>(bi h b).map λo=>(b,o)
theorem zem{l:List ai}{h:bq}{b:ai}{o:Obj}(hb:b∈l)(e:bi h b=ao o):(b,o)∈ZP l h:=iO.mpr ⟨b,hb,by rw[e];rfl⟩
theorem znc{l:List ai}{h:bq}{p:ai×Obj}(v:p∈ZP l h):p.1∈l/\bi h p.1=ao p.2:=by
 obtain⟨b,hb,e⟩:=iO.mp v;cases q:bi h b with
 | none=>rw[q]at e;cases e
 | some o =>rw[q]at e;have u:(b,o)=p:=aX e;subst u;exact⟨hb,q⟩
theorem Inv.pinned{pins:qO}{σ:St}{H:Hp}{s:ax}{u:List ai}(I:Inv X pins σ H s)(hf:∀b∈u,FpOk X pins H b)(C:∀b∈u,∃o,bi s.heap b=ao o/\∀v,io o≠.cell v):Inv X (pins++ZP u s.heap) σ H s :=
 I.pins_of λp G=>h7 (au.mp G) (λz=>I.pin p (cI _ z)) λz=>by obtain⟨hb,e⟩:=znc z;obtain⟨f0,f1,f2,_⟩:=hf p.1 hb;obtain⟨o,x,d⟩:=C p.1 hb;rw[e]at x;cases x;exact⟨e,f0,f1,f2,d⟩
theorem Inv.unpinned{pins pl:qO}{σ:St}{H:Hp}{s:ax}(I:Inv X (pins++pl) σ H s):Inv X pins σ H s:=I.pins_of λp l=>I.pin p (cI _ (gm _ l))
theorem zuw{iter:bg}{body:List e8}{wi:TI}{g:TG}{tb:TS}{pos:Pos}(Y:rN (model X.prog X.w) X.A X.env X.xe)(hc:X.calm=du)(hi:PI X tg iter wi)(hg:PG X tg g)(hb:PSs X body tb)
  (hs:Fsi X iter:=by intro _;rfl):PS X (.For tg iter body [] pos) (tFor wi g tb):=by
 intro pins s σ H D I h;refine wpAny_For (thn (hi pins s σ H _ I h) λv s1 h1=>thn h1 λitv s2 h2=>?_) hs;obtain⟨it,fp,tn,J,H2,e,I2,T,st2,f2,W,⟨m0,w0⟩,turn⟩:=h2;subst e;have Mb:∀{H':Hp},(∀b∈fp,H' b=bj)->∀b∈fp,FpOk X pins H' b:=λhn b hb=>⟨hn b hb,(f2 b hb).2⟩;refine codeAny_forLoop_any (λn s'=>∃i σ' H',Inv X pins σ' H' s'/\tn i s'.heap/\(∀b∈fp,H' b=bj)/\W i n σ' H') ?_ m0 ⟨0,σ,H2,I2,st2,λb hb=>(f2 b hb).1,w0⟩;rintro n s3 ⟨i,G,H3,I3,Z,fr3,w3⟩;rcases turn i n G H3 w3 with⟨stop,qn⟩|⟨go,N,hN,step⟩
 ·refine gf Y (thn (T.done X rfl rfl rfl hc i pins s3 G H3 X.xe I3 (Mb fr3) Z stop) λr s4 C=>?_);obtain⟨hr,I4⟩:=C;subst hr;exact k9 ⟨G,H3,I4,qn⟩
 ·refine gf Y (thn (T.item X rfl rfl rfl hc i pins s3 G H3 X.xe I3 (Mb fr3) Z go) λr s4 C=>?_);obtain⟨u,hr,h4⟩:=C;subst hr;refine gf Y (thn h4 λ_ s5 C=>?_);obtain⟨x,H5,I5,r5,y5,U,fr5⟩:=C;have I5':=I5.pinned (Mb fr5) (T.obj _ _ U);refine gf Y (thn (hg _ s5 G H5 x u _ I5' r5 (step x H5 y5)) λ_ s6 C=>?_);obtain⟨σ6,H6,I6,q6⟩:=C;refine gf Y (thn (hb _ s6 σ6 H6 _ I6 q6) λf s7 S=>?_);have again:∀{l:St} {R:Hp},Inv X (pins++ZP fp s5.heap) l R s7->N l R->∃m,m<n/\∃i σ' H',Inv X pins σ' H' s7/\tn i s7.heap/\(∀b∈fp,H' b=bj)/\W i m σ' H':=λ{l R} L n7=>by
   obtain⟨m',hm,w7⟩:=hN l R n7;refine⟨m',hm,i+1,l,R,L.unpinned,T.keep _ _ _ U λb hb o e=>(L.pin (b,o) (cI _ (cI _ (zem hb e)))).1,λb hb=>?_,w7⟩;obtain⟨o,e,d⟩:=T.obj _ _ U b hb;exact(L.pin (b,o) (cI _ (cI _ (zem hb e)))).2.1
  cases f with
  | next=>obtain⟨l,R,L,n7⟩:=S;exact again L n7
  | cont=>obtain⟨l,R,L,n7⟩:=S;exact again L n7
  | brk=>obtain⟨l,R,L,S⟩:=S;exact⟨l,R,L.unpinned,S⟩
  | ret v=>obtain⟨x7,l,R,L,r7,S⟩:=S;exact⟨x7,l,R,L.unpinned,r7,S⟩
end
abbrev R2:=V->V->Hp->VK->Prop
def OpR(X:Cx)(f:ah->ah->Sem ah)(r:R2):Prop :=
 ∀(pins:qO) (s:ax) (σ:St) (H:Hp) (x y:V) (v u:ah) (Q:VK),Inv X pins σ H s->RelV x v->RelV y u->r x y H Q ->
  wpAny (model X.prog X.w) X.A (f v u) (EP X pins σ Q) X.xe s
def UnR(X:Cx)(f:ah->Sem ah)(r:V->Hp->VK->Prop):Prop :=
 ∀(pins:qO) (s:ax) (σ:St) (H:Hp) (x:V) (v:ah) (Q:VK),Inv X pins σ H s->RelV x v->r x H Q ->
  wpAny (model X.prog X.w) X.A (f v) (EP X pins σ Q) X.xe s
def JX(X:Cx)(f:ah)(r:List V->Hp->VK->Prop):Prop :=
 ∀(pins:qO) (s:ax) (σ:St) (H:Hp) (xs:List V) (us:List ah) (Q:VK),Inv X pins σ H s->Vals xs us->r xs H Q ->
  wpAny (model X.prog X.w) X.A (call f us) (EP X pins σ Q) X.xe s
def TruR(X:Cx)(r:V->Hp->(Bool->Hp->Prop)->Prop):Prop :=
 ∀(pins:qO) (s:ax) (σ:St) (H:Hp) (x:V) (v:ah) (Q:Bool->Hp->Prop),Inv X pins σ H s->RelV x v->r x H Q ->
  wpAny (model X.prog X.w) X.A (truthy v) (TP X pins σ Q) X.xe s
def tOp(r:R2)(l o:TE):TE:=λσ H Q=>l σ H λx u=>o σ u λy v=>r x y v Q
def tUn(r:V->Hp->VK->Prop)(l:TE):TE:=λσ H Q=>l σ H λx o=>r x o Q
def rI(C:Int->Int->Prop)(g:Int->Int->V):R2:=λx y H Q=>∃i j,x=.int i/\y=.int j/\C i j/\Q (g i j) H
def rI0(g:Int->Int->V):R2:=λx y H Q=>∃i j,x=.int i/\y=.int j/\Q (g i j) H
def rU(g:Int->V):V->Hp->VK->Prop:=λx H Q=>∃i,x=.int i/\Q (g i) H
section
variable{X:Cx}{a b:bg}{ta tb:TE}{pos:Pos}
theorem binT(ha:PE X a ta)(hb:PE X b tb){pins:qO}{s:ax}{σ:St}{H:Hp}{R:V->V->Hp->Prop}(I:Inv X pins σ H s)
  (h:ta σ H λx J=>tb σ J λy o=>R x y o) {Q:qV} {f:ah->ah->Sem ah}
  (hf:∀v u s2 x y o,Inv X pins σ o s2->RelV x v->RelV y u->R x y o->wpAny (model X.prog X.w) X.A (f v u) Q X.xe s2) :
  wpAny (model X.prog X.w) X.A (eval a X.env) (λv G=>wpAny (model X.prog X.w) X.A (eval b X.env) (λu C=>wpAny (model X.prog X.w) X.A (f v u) Q X.xe C) X.xe G) X.xe s:=by
 refine thn (ha pins s σ H _ I h) λv s1 l=>?_;obtain⟨x,J,S,L,Z⟩:=l;refine thn (hb pins s1 σ J _ S Z) λu s2 l=>?_;obtain⟨y,o,U,N,Y⟩:=l;exact hf v u s2 x y o U L N Y
theorem JL{op:tL}{r:R2}(o:OpR X (binaryOp op) r)(ha:PE X a ta)(hb:PE X b tb):PE X (jj a op b pos) (tOp r ta tb):=by intro pins s σ H Q I h;exact wpAny_BinOp (binT ha hb I h λv u s2 x y J G l C q=>o pins s2 σ J x y v u Q G l C q)
theorem zyr{op:UnaryOp}{r:V->Hp->VK->Prop}(u:UnR X (unaryOp op) r)(ha:PE X a ta):PE X (jz op a pos) (tUn r ta):=by intro pins s σ H Q I h;exact UnaryOp_ (thn (ha pins s σ H _ I h) λv s1 ⟨x,l,G,o,C⟩=>u pins s1 σ l x v Q G o C)
theorem opI{f:ah->ah->Sem ah}{C:Int->Int->Prop}{g:Int->Int->Int}
  (rule:∀(i j:Int) (t u:Tok) (s:ax) (Q:qV) (E:qV),C i j->Q (rL (g i j) s.toks) { s with toks:=eA s+1 }->wpAny (model X.prog X.w) X.A (f (rL i t) (rL j u)) Q E s) :
  OpR X f (rI C λi j=>.int (g i j)):=by
 intro pins s σ H x y v u Q I l o h;obtain⟨i,j,rfl,rfl,hc,q⟩:=h;obtain⟨t,rfl⟩:=l;obtain⟨t',rfl⟩:=o;exact rule i j t t' s _ _ hc ⟨.int (g i j),H,I.tok _,⟨_,rfl⟩,q⟩
theorem opI0{f:ah->ah->Sem ah}{g:Int->Int->Int}
  (rule:∀(i j:Int) (t u:Tok) (s:ax) (Q:qV) (E:qV),Q (rL (g i j) s.toks) { s with toks:=eA s+1 }->wpAny (model X.prog X.w) X.A (f (rL i t) (rL j u)) Q E s) :
  OpR X f (rI0 λi j=>.int (g i j)):=by
 intro pins s σ H x y v u Q I l o h;obtain⟨i,j,rfl,rfl,q⟩:=h;obtain⟨t,rfl⟩:=l;obtain⟨t',rfl⟩:=o;exact rule i j t t' s _ _ ⟨.int (g i j),H,I.tok _,⟨_,rfl⟩,q⟩
theorem opB0{f:ah->ah->Sem ah}{g:Int->Int->Bool}
  (rule:∀(i j:Int) (t u:Tok) (s:ax) (Q:qV) (E:qV),Q (nJ (g i j)) s->wpAny (model X.prog X.w) X.A (f (rL i t) (rL j u)) Q E s) :
  OpR X f (rI0 λi j=>.bl (g i j)):=by
 intro pins s σ H x y v u Q I C G h;obtain⟨i,j,rfl,rfl,q⟩:=h;obtain⟨t,rfl⟩:=C;obtain⟨t',rfl⟩:=G;exact rule i j t t' s _ _ ⟨.bl (g i j),H,I,rfl,q⟩
def CPow(i j:Int):Prop:=0<=j/\j<=1000000/\i.natAbs<2 ^ 64
def CMul(i j:Int):Prop:=(-(2 ^ 64)<i/\i<2 ^ 64)\/(-(2 ^ 64)<j/\j<2 ^ 64)
theorem CMul.ok{i j:Int}(h:CMul i j):IntMulOk i j:=by rcases h with⟨v,u⟩|⟨v,u⟩;exact .of_left (intBits_le_64 v u);exact .of_right (intBits_le_64 v u)
theorem zla(k:Nat):(0:Int)<=2 ^ k:=by rw[two_pow_cast];exact l9 _
theorem Ul:OpR X (binaryOp .Add) (rI0 λi j=>.int (i+j)):=opI0 λ_ _ _ _ _ _ _ q=>add_int q
theorem zuS:OpR X (binaryOp .Sub) (rI0 λi j=>.int (i - j)):=opI0 λ_ _ _ _ _ _ _ q=>sub_int q
theorem Q9:OpR X (binaryOp .Mult) (rI CMul λi j=>.int (i*j)):=opI λ_ _ _ _ _ _ _ hc q=>mul_int q hc.ok
theorem Yb:OpR X (binaryOp .Mod) (rI (λ_ j=>0<j) λi j=>.int (i % j)):=opI λi j _ _ _ _ _ hc q=>by have l:(0:Int)<j:=hc;exact mod_int' (by lia) (by rw[Int.fmod_eq_emod_of_nonneg i (by lia)];exact q)
theorem zuV:OpR X (binaryOp .Pow) (rI CPow λi j=>.int (i ^ ap j)):=opI λ_ _ _ _ _ _ _ hc q=>pow_int_small hc.1 hc.2.1 hc.2.2 q
theorem zuU:OpR X (binaryOp .LShift) (rI CPow λi j=>.int (i*2 ^ ap j)):=opI λ_ _ _ _ _ _ _ hc q=>lshift_int_small hc.1 hc.2.1 hc.2.2 q
theorem zuT:OpR X (binaryOp .RShift) (rI (λ_ j=>0<=j) λi j=>.int (i / 2 ^ ap j)):=opI λi j _ _ _ _ _ hc q =>
 rshift_int hc (by rw[mh i (zla _)];exact q)
theorem zu3:OpR X (binaryOp .BitAnd) (rI0 λi j=>.int (hZ i j)):=opI0 λ_ _ _ _ _ _ _ q=>and_int q
theorem zuR:OpR X (binaryOp .BitXor) (rI0 λi j=>.int (bW i j)):=opI0 λ_ _ _ _ _ _ _ q=>xor_int q
theorem unI{f:ah->Sem ah}{g:Int->Int}
  (rule:∀(i:Int) (t:Tok) (s:ax) (Q:qV) (E:qV),Q (rL (g i) s.toks) { s with toks:=eA s+1 }->wpAny (model X.prog X.w) X.A (f (rL i t)) Q E s) :
  UnR X f (rU λi=>.int (g i)):=by
 intro pins s σ H x v Q I l h;obtain⟨i,rfl,q⟩:=h;obtain⟨t,rfl⟩:=l;exact rule i t s _ _ ⟨.int (g i),H,I.tok _,⟨_,rfl⟩,q⟩
theorem ztR:UnR X (unaryOp .USub) (rU λi=>.int (-i)):=unI λ_ _ _ _ _ q=>neg_int q
end
def scal:V->V->Bool
 | .non,.non=>du|.non,.int _=>du|.int _,.non=>du|.non,.bl _=>du|.bl _,.non=>du|.non,.str _=>du|.str _,.non=>true
 | .int _,.int _=>du|.bl _,.bl _=>du|.str _,.str _=>du|.byt _,.byt _=>true
 | .int _,.str _=>du|.str _,.int _=>du|.bl _,.str _=>du|.str _,.bl _=>true
 | _,_=>false
def rEq:R2:=λx y H Q=>scal x y=du/\Q (.bl (decide (x=y))) H
def rNe:R2:=λx y H Q=>scal x y=du/\Q (.bl (!decide (x=y))) H
theorem zn8{i j:Int}:decide (V.int i=V.int j)=(i == j):=by rw[gh];simp
theorem zrt{i j:Bool}:decide (V.bl i=V.bl j)=(i == j):=by rw[gh];simp
theorem zn7{i j:Str}:decide (V.str i=V.str j)=(i == j):=by rw[gh];simp
theorem zn9{i j:Array UInt8}:decide (V.byt i=V.byt j)=(nK i == nK j):=by rw[gh];cases i;cases j;simp
section
variable{X:Cx}{a b c:bg}{ta tb tc:TE}{pos:Pos}
theorem JG{pins:qO}{σ:St}{H:Hp}{s:ax}{Q:VK}{k u:Bool}(I:Inv X pins σ H s)(q:Q (.bl k) H)(e:k=u):EP X pins σ Q (nJ u) s:=by subst e;exact⟨.bl k,H,I,rfl,q⟩
theorem zyx:OpR X (compareOp .Eq) rEq:=by
 intro pins s σ H x y v u Q I C l h;obtain⟨o,q⟩:=h;cases x with
 | non =>
  cases C;cases y with
  | non=>cases l;exact ui (JG I q (by simp))
  | bl j=>cases l;exact uj (JG I q (by simp))
  | int j=>obtain⟨t',rfl⟩:=l;exact uJ (JG I q (by simp))
  | str j=>obtain⟨t',rfl⟩:=l;exact uK (JG I q (by simp))
  | _=>exact absurd (show dy=du from o) aT
 | bl i =>
  cases C;cases y with
  | non=>cases l;exact uk (JG I q (by simp))
  | bl j=>cases l;exact eq_bool (JG I q zrt)
  | str j=>obtain⟨t',rfl⟩:=l;exact um (JG I q (by simp))
  | _=>exact absurd (show dy=du from o) aT
 | int i =>
  obtain⟨t,rfl⟩:=C;cases y with
  | non=>cases l;exact uL (JG I q (by simp))
  | int j=>obtain⟨t',rfl⟩:=l;exact eq_int (JG I q zn8)
  | str j=>obtain⟨t',rfl⟩:=l;exact uM (JG I q (by simp))
  | _=>exact absurd (show dy=du from o) aT
 | str i =>
  obtain⟨t,rfl⟩:=C;cases y with
  | non=>cases l;exact uN (JG I q (by simp))
  | bl j=>cases l;exact uo (JG I q (by simp))
  | int j=>obtain⟨t',rfl⟩:=l;exact uO (JG I q (by simp))
  | str j=>obtain⟨t',rfl⟩:=l;exact eq_str (JG I q zn7)
  | _=>exact absurd (show dy=du from o) aT
 | byt i =>
  obtain⟨t,rfl⟩:=C;cases y with
  | byt j=>obtain⟨t',rfl⟩:=l;exact PySem.W.eq_bytes (JG I q zn9)
  | _=>exact absurd (show dy=du from o) aT
 | _=>cases y <;> exact absurd (show dy=du from o) aT
theorem zyv:OpR X (compareOp .NotEq) rNe:=by
 intro pins s σ H x y v u Q I G l h;obtain⟨C,q⟩:=h;cases x with
 | non =>
  cases G;cases y with
  | non=>cases l;exact uq (JG I q (by simp))
  | bl j=>cases l;exact ur (JG I q (by simp))
  | int j=>obtain⟨t',rfl⟩:=l;exact uP (JG I q (by simp))
  | str j=>obtain⟨t',rfl⟩:=l;exact uQ (JG I q (by simp))
  | _=>exact absurd (show dy=du from C) aT
 | bl i =>
  cases G;cases y with
  | non=>cases l;exact uu (JG I q (by simp))
  | bl j=>cases l;exact ne_bool (JG I q (congrArg not zrt))
  | str j=>obtain⟨t',rfl⟩:=l;exact uv (JG I q (by simp))
  | _=>exact absurd (show dy=du from C) aT
 | int i =>
  obtain⟨t,rfl⟩:=G;cases y with
  | non=>cases l;exact uR (JG I q (by simp))
  | int j=>obtain⟨t',rfl⟩:=l;exact ne_int (JG I q (congrArg not zn8))
  | str j=>obtain⟨t',rfl⟩:=l;exact uS (JG I q (by simp))
  | _=>exact absurd (show dy=du from C) aT
 | str i =>
  obtain⟨t,rfl⟩:=G;cases y with
  | non=>cases l;exact uT (JG I q (by simp))
  | bl j=>cases l;exact uw (JG I q (by simp))
  | int j=>obtain⟨t',rfl⟩:=l;exact uU (JG I q (by simp))
  | str j=>obtain⟨t',rfl⟩:=l;exact ne_str (JG I q (congrArg not zn7))
  | _=>exact absurd (show dy=du from C) aT
 | byt i =>
  obtain⟨t,rfl⟩:=G;cases y with
  | byt j=>obtain⟨t',rfl⟩:=l;exact PySem.W.ne_bytes (JG I q (congrArg not zn9))
  | _=>exact absurd (show dy=du from C) aT
 | _=>cases y <;> exact absurd (show dy=du from C) aT
theorem zuY:OpR X (compareOp .Lt) (rI0 λi j=>.bl (decide (i<j))):=opB0 λ_ _ _ _ _ _ _ q=>lt_int q
theorem zyw:OpR X (compareOp .LtE) (rI0 λi j=>.bl (decide (i<=j))):=opB0 λ_ _ _ _ _ _ _ q=>le_int q
theorem QO:OpR X (compareOp .Gt) (rI0 λi j=>.bl (decide (j<i))):=opB0 λ_ _ _ _ _ _ _ q=>gt_int q
theorem Yq:OpR X (compareOp .GtE) (rI0 λi j=>.bl (decide (j<=i))):=opB0 λ_ _ _ _ _ _ _ q=>ge_int q
theorem zm3:OpR X (compareOp .Lt) (λx y H Q=>∃i j,x=.str i/\y=.str j/\Q (.bl (decide (nK i.cps<nK j.cps))) H):=by intro pins s σ H x y v u Q I o C h;obtain⟨i,j,rfl,rfl,q⟩:=h;obtain⟨t,rfl⟩:=o;obtain⟨t',rfl⟩:=C;exact lt_str (JG I q rfl)
theorem zuZ:OpR X (compareOp .Is) (λx y H Q=>y=.non/\Q (.bl (decide (x=.non))) H):=by
 intro pins s σ H x y v u Q I C G h;obtain⟨rfl,q⟩:=h;cases G;refine is_none_gen (JG I q ?_);cases x <;> first
  | (cases C;rfl)
  | (obtain⟨t,rfl⟩:=C;rfl)
theorem zse:OpR X (compareOp .IsNot) (λx y H Q=>y=.non/\Q (.bl (!decide (x=.non))) H):=by
 intro pins s σ H x y v u Q I C G h;obtain⟨rfl,q⟩:=h;cases G;refine isnot_none_gen (JG I q ?_);cases x <;> first
  | (cases C;rfl)
  | (obtain⟨t,rfl⟩:=C;rfl)
theorem OpR.or{f:ah->ah->Sem ah}{r o:R2}(h:OpR X f r)(h':OpR X f o):OpR X f (λx y H Q=>r x y H Q\/o x y H Q):=by intro pins s σ H x y v u Q I l C q;rcases q with q|q;exact h pins s σ H x y v u Q I l C q;exact h' pins s σ H x y v u Q I l C q
theorem Jg(b:bg){op:sG}(h:op≠.In:=by decide)(l:op≠.NotIn:=by decide):behindInMarks op b=dy:=by
 have u:(op == CmpOp.In)=dy:=by cases op <;> first|rfl|exact absurd rfl h
 have v:(op == CmpOp.NotIn)=dy:=by cases op <;> first|rfl|exact absurd rfl l
 cases b <;> simp[behindInMarks,u,v]
theorem zmX{op:sG}{r:R2}(G:OpR X (compareOp op) r)(ha:PE X a ta)(hb:PE X b tb)(N:behindInMarks op b=dy):PE X (jg a [op] [b] pos) (tOp r ta tb):=by intro pins s σ H Q I h;exact wpAny_Compare1 (binT ha hb I h λv u s2 x y R L l J q=>G pins s2 σ R x y v u Q L l J q) N
def ztV(t:TE):TT:=λσ H Q=>t σ H λx H'=>∃k,x=.bl k/\Q k H'
theorem zjo{op:sG}{r:R2}(l:OpR X (compareOp op) r)(ha:PE X a ta)(hb:PE X b tb)(hm:behindInMarks op b=dy):PT X (jg a [op] [b] pos) (ztV (tOp r ta tb)):=by
 intro pins s σ H Q I h;refine og (thn (ha pins s σ H _ I h) λv s1 ⟨x,H1,U,L,q1⟩=>thn (hb pins s1 σ H1 _ U q1) λu s2 ⟨y,H2,Y,N,Z⟩ =>
  thn (l pins s2 σ H2 x y v u _ Y L N Z) λc s3 ⟨z,R,S,J,k,e,G⟩=>?_) hm
 subst e;cases J;exact cg ⟨R,S,G⟩
def zqN(r v:R2)(ta tb tc:TE):TE:=λσ H Q=>ta σ H λx u=>tb σ u λy G=>r x y G λz o=>∃k,z=.bl k /\
 (if k=du then tc σ o λC I=>v y C I Q else Q (.bl dy) o)
theorem zpw{op G:sG}{r U:R2}(Y:OpR X (compareOp op) r)(J:OpR X (compareOp G) U)(ha:PE X a ta)(hb:PE X b tb)(hc:PE X c tc)
  (hm:lastMarks [op,G] [b,c]=dy:=by with_unfolding_all rfl):PE X (jg a [op,G] [b,c] pos) (zqN r U ta tb tc):=by
 intro pins s σ H Q I h;refine Compare_chain (thn (ha pins s σ H _ I h) λv s1 ⟨x,H1,I1,r1,q1⟩=>chain_link (thn (hb pins s1 σ H1 _ I1 q1) λu s2 ⟨y,H2,I2,N,q2⟩ =>
  thn (Y pins s2 σ H2 x y v u _ I2 r1 N q2) λd s3 ⟨z,R,S,r3,k,e,L⟩=>?_)) hm
 subst e;cases r3;refine cg ?_;cases k with
 | false=>exact ite_ff ⟨.bl dy,R,S,rfl,L⟩
 | true=>exact ite_tt (chain_last (thn (hc pins s3 σ R _ S L) λw' s4 ⟨z',Z,I4,r4,q4⟩=>J pins s4 σ Z y z' u w' Q I4 N r4 q4))
theorem zpo{op l:sG}{r U:R2}(Y:OpR X (compareOp op) r)(J:OpR X (compareOp l) U)(ha:PE X a ta)(hb:PE X b tb)(hc:PE X c tc)
  (hm:lastMarks [op,l] [b,c]=dy:=by with_unfolding_all rfl):PT X (jg a [op,l] [b,c] pos) (ztV (zqN r U ta tb tc)):=by
 intro pins s σ H Q I h;refine isTrue_chain (thn (ha pins s σ H _ I h) λv s1 ⟨x,H1,I1,r1,q1⟩=>test_link (thn (hb pins s1 σ H1 _ I1 q1) λu s2 ⟨y,H2,I2,N,q2⟩ =>
  thn (Y pins s2 σ H2 x y v u _ I2 r1 N q2) λd s3 ⟨z,R,S,r3,k,e,L⟩=>?_)) hm
 subst e;cases r3;refine cg ?_;cases k with
 | false =>obtain⟨k',Z,q'⟩:=L;cases Z;exact ite_ff ⟨R,S,q'⟩
 | true =>refine ite_tt (test_last (thn (hc pins s3 σ R _ S L) λw' s4 ⟨z',H4,I4,r4,q4⟩=>thn (J pins s4 σ H4 y z' u w' _ I4 N r4 q4) λd' s5 G=>?_));obtain⟨z2,H5,I5,r5,k2,e2,q5⟩:=G;subst e2;cases r5;exact cg ⟨H5,I5,q5⟩
def TruV(K:qF)(x:V)(H:Hp)(k:Bool):Prop :=
 match x with
 | .non=>k=false
 | .bl b=>k=b
 | .int i=>k=(i != 0)
 | .str y=>nN y<=sizeLine/\k=((nN y:Int) != 0)
 | .byt y=>be y<=sizeLine/\k=((be y:Int) != 0)
 | .ref p=>(∃xs,SqL K H p xs/\k=!(g5 xs))\/(∃xs,SqT K H p xs/\k=!(g5 xs))\/∃u,H p=ao (.dK u)/\k=!(g5 u)
 | _=>False
theorem zl0{o:Type}{l:List (o×V)}{u:List (o×ah)}(r:KV l u):(!(g5 u))=!(g5 l):=by cases r <;> rfl
theorem zgK{xs:List V}{its:List ah}(r:Vals xs its):(!its.toArray.isEmpty)=!(g5 xs):=by cases r <;> simp
theorem U9:(sizeLine:Nat)<2 ^ 63:=by rw[mN];decide
theorem zqL:TruR X (λx H Q=>∃k,TruV X.K x H k/\Q k H):=by
 intro pins s σ H x v Q I G h;obtain⟨k,e,q⟩:=h;have S:=U9;have U:sizeLine=16777216:=mN;cases x with
 | non =>cases G;have o:k=dy:=e;subst o;exact truthy_none ⟨H,I,q⟩
 | bl b =>cases G;have o:k=b:=e;subst o;exact cg ⟨H,I,q⟩
 | int i =>obtain⟨t,rfl⟩:=G;have o:k=(i != 0):=e;subst o;exact PySem.P.truthy_int ⟨H,I,q⟩
 | str y =>obtain⟨t,rfl⟩:=G;obtain⟨N,o⟩:nN y<=sizeLine/\k=((nN y:Int) != 0):=e;subst o;exact PySem.P.truthy_str (by lia) ⟨H,I.tok _,q⟩
 | byt y =>obtain⟨t,rfl⟩:=G;obtain⟨N,o⟩:be y<=sizeLine/\k=((be y:Int) != 0):=e;subst o;exact PySem.W.truthy_bytes (by lia) ⟨H,I.tok _,q⟩
 | ref p =>cases G;have o:(∃xs,SqL X.K H p xs/\k=!(g5 xs))\/(∃xs,SqT X.K H p xs/\k=!(g5 xs))\/∃u,H p=ao (.dK u)/\k=!(g5 u):=e;rcases o with⟨xs,hx,o⟩|⟨xs,hx,o⟩|⟨u,hx,o⟩;subst o;obtain⟨its,r,pl,L⟩:=I.list hx;have C:=r.length;exact wpAny_truthy_list pl.isList (by simp only[aD];lia) ⟨H,I.tok _,by rw[zgK r];exact q⟩;subst o;obtain⟨its,r,pl,L⟩:=I.tuple hx;have C:=r.length;exact truthy_tuple pl (by simp only[aD];lia) ⟨H,I.tok _,by rw[zgK r];exact q⟩;subst o;obtain⟨L,R,J,r,m⟩:fo u<=sizeLine/\(p == sysModules)=dy/\∃J,KV u J/\s.heap.DictOf (JJ X.prog X.w) p J:=I.hok p _ hx;have C:fo u=fo J:=iA r;exact wpAny_truthy_dict R m (by lia) ⟨H,I.tok _,by rw[zl0 r];exact q⟩
 | _=>exact(show False from e).elim
theorem zpn(ha:PE X a ta)(he:∀whole,isTrue a X.env whole=(do let v <- whole;standAt a.pos;holding [v] (truthy v))) :
  PT X a (λσ H Q=>ta σ H λx H'=>∃k,TruV X.K x H' k/\Q k H'):=by
 intro pins s σ H Q I h;exact isTrue_plain (thn (ha pins s σ H _ I h) λv s1 ⟨x,u,o,l,C⟩=>zqL pins s1 σ u x v Q o l C) (he _)
theorem zlj:OpR X (binaryOp .Add) (λx y H Q=>∃i j,x=.str i/\y=.str j/\nN i+nN j<=sizeLine/\Q (.str (i++j)) H):=by intro pins s σ H x y v u Q I l o h;obtain⟨i,j,rfl,rfl,C,q⟩:=h;obtain⟨t,rfl⟩:=l;obtain⟨t',rfl⟩:=o;exact add_str (λt' tk=>⟨.str (i++j),H,I.tok _,⟨_,rfl⟩,q⟩) C
theorem vals1{x:V}{us:List ah}(r:Vals [x] us):∃u,us=[u]/\RelV x u:=by
 cases r with
 | cons l o=>cases o;exact⟨_,rfl,l⟩
theorem vals2{x y:V}{us:List ah}(r:Vals [x,y] us):∃u l,us=[u,l]/\RelV x u/\RelV y l:=by
 cases r with
 | cons v C =>
  cases C with
  | cons o G=>cases G;exact⟨_,_,rfl,v,o⟩
theorem VB(hc:X.calm=du):JX X (dL "max") (λxs H Q=>∃i j,xs=[.int i,.int j]/\Q (.int (if j > i then j else i)) H):=by intro pins s σ H xs us Q I r h;obtain⟨i,j,rfl,q⟩:=h;obtain⟨u,o,rfl,⟨t,rfl⟩,⟨t',rfl⟩⟩:=vals2 r;refine max_two_ints (I.ok.hd hc) λh' tk k=>⟨_,H,I.kept k,?_,q⟩;by_cases hj:j > i;rw[if_pos hj,if_pos hj];exact⟨_,rfl⟩;rw[if_neg hj,if_neg hj];exact⟨_,rfl⟩
theorem VC(hc:X.calm=du):JX X (dL "min") (λxs H Q=>∃i j,xs=[.int i,.int j]/\Q (.int (if j<i then j else i)) H):=by intro pins s σ H xs us Q I r h;obtain⟨i,j,rfl,q⟩:=h;obtain⟨u,o,rfl,⟨t,rfl⟩,⟨t',rfl⟩⟩:=vals2 r;refine min_two_ints (I.ok.hd hc) λh' tk k=>⟨_,H,I.kept k,?_,q⟩;by_cases hj:j<i;rw[if_pos hj,if_pos hj];exact⟨_,rfl⟩;rw[if_neg hj,if_neg hj];exact⟨_,rfl⟩
theorem VA:JX X (bU "int") (λxs H Q=>(∃i,xs=[.int i]/\Q (.int i) H)\/∃k,xs=[.bl k]/\Q (.int (if k then 1 else 0)) H):=by intro pins s σ H xs us Q I r h;rcases h with⟨i,rfl,q⟩|⟨k,rfl,q⟩;obtain⟨u,rfl,t,rfl⟩:=vals1 r;exact call_int_int ⟨.int i,H,I,⟨_,rfl⟩,q⟩;obtain⟨u,rfl,o⟩:=vals1 r;cases o;exact call_int_bool ⟨.int (if k then 1 else 0),H,I.tok _,⟨_,rfl⟩,q⟩
def LenV(K:qF)(x:V)(H:Hp)(n:Nat):Prop :=
 match x with
 | .str y=>nN y<=sizeLine/\n=nN y
 | .byt y=>be y<=sizeLine/\n=be y
 | .ref p=>(∃xs,SqL K H p xs/\n=fo xs)\/∃xs,SqT K H p xs/\n=fo xs
 | _=>False
theorem Qw:JX X (dL "len") (λxs H Q=>∃x n,xs=[x]/\LenV X.K x H n/\Q (.int n) H):=by
 intro pins s σ H xs us Q I r h;obtain⟨x,n,rfl,e,q⟩:=h;obtain⟨u,rfl,C⟩:=vals1 r;have N:=U9;have R:sizeLine=16777216:=mN;cases x with
 | str y =>obtain⟨t,rfl⟩:=C;obtain⟨J,v⟩:nN y<=sizeLine/\n=nN y:=e;subst v;exact len_str (by lia) ⟨.int _,H,I.tok _,⟨_,rfl⟩,q⟩
 | byt y =>obtain⟨t,rfl⟩:=C;obtain⟨J,v⟩:be y<=sizeLine/\n=be y:=e;subst v;exact PySem.W.len_bytes (by lia) ⟨.int _,H,I.tok _,⟨_,rfl⟩,q⟩
 | ref p =>cases C;have v:(∃xs,SqL X.K H p xs/\n=fo xs)\/∃xs,SqT X.K H p xs/\n=fo xs:=e;rcases v with⟨xs,hx,v⟩|⟨xs,hx,v⟩;subst v;obtain⟨its,G,pl,L⟩:=I.list hx;have o:=G.length;exact oY pl.isList (by simp only[aD];lia) ⟨.int (fo xs),H,I.tok _,⟨_,by simp only[aD];rw[o]⟩,q⟩;subst v;obtain⟨its,G,pl,L⟩:=I.tuple hx;have o:=G.length;exact len_tuple pl (by simp only[aD];lia) ⟨.int (fo xs),H,I.tok _,⟨_,by simp only[aD];rw[o]⟩,q⟩
 | _=>exact(show False from e).elim
end
structure ObjM(h:bq)(x dx C:ai)(mA:qM):Prop where
 obj:bi h x=ao (nY C dx)
 ns:h.Ns1 dx mA
 ne:dx≠x
theorem zno{h:bq}{u:ai}{v:qM}(n:h.Ns1 u v):∃C,bi h u=ao C/\∀name,oF name C=ao (v name):=by
 obtain⟨o,x,R,G,hd,N,_,L⟩:=n;refine⟨o,G,λname=>?_⟩;have e:=L name;unfold nsFind findBy at e;rw[<- Array.find?_toList]at e;unfold oF;rw[hd];dsimp only;split;rename_i y q;rw[q]at e;exact congrArg ao e;rename_i q;rw[q]at e;have a:x.toList.any (·.refKey)=dy:=by rw[pR];intro y I;obtain⟨z,t,l⟩:=N y (Array.mem_toList_iff.mp I);simp[DictEntry.refKey,l]
 have J:¬x.toList.any (·.refKey)=du:=by rw[a];exact aT
 rw[if_neg J];exact congrArg ao e
theorem ObjM.look{h:bq}{x o C:ai}{u:qM}(I:ObjM h x o C u):∃l,PySem.W.InstAt h x (nY C o) C (ao l)/\∀name,oF name l=ao (u name) :=
 let ⟨l,ho,hl⟩:=zno I.ns
 ⟨l,⟨I.obj,rfl,rfl,ho⟩,hl⟩
section
variable{P:aK}{w:aV}{H:Hp}{h:bq}{a C dx:ai}{fs:List (Str×V)}
theorem zsN(hok:HOk P w H h)(e:H a=ao (.ins C dx fs)):∃l,ObjM h a dx C l/\(∀f,RelO (fs.lookup f) (l f))/\vP l (fs.map (·.1))/\fo fs<=1000/\H dx=ao (.own a):=by obtain⟨d,z,ne,u,l,n,r,q⟩:=(show JS P w H h a (.ins C dx fs) from hok a _ e);exact⟨l,⟨u,n,ne⟩,r,q,z,d⟩
end
structure Cls(K:qF)(C:ai):Prop where
 pg:rO K C lW=true
 hd:PySem.W.hasDictIn K C=true
 po:PySem.W.plainOver K C=true
 sa:tP K (bQ C) "__setattr__" = ao (ao (dL "object.__setattr__"))
theorem Cls.get{K:qF}{C:ai}(c:Cls K C)(f:Str):rO K C f=du:=c.pg
section
variable{X:Cx}{pins:qO}{σ:St}{H:Hp}{s:ax}{A:bw}{E:qV}{Q:qV}{c:ah}{b:Bool}
inductive TyOf (K:qF)(H:Hp):V->ah->Prop where
 | non:TyOf K H .non (bU "NoneType")
 | bl (x:Bool):TyOf K H (.bl x) (bU "bool")
 | int (i:Int):TyOf K H (.int i) (bU "int")
 | str (x:Str):TyOf K H (.str x) (bU "str")
 | flt (x:UInt64):TyOf K H (.flt x) (bU "float")
 | lst {a:ai} {xs:List V} (e:H a=ao (.lst xs)):TyOf K H (.ref a) (bU "list")
 | frz {a:ai} {o:Obj} {xs:List V} (e:H a=ao (.frz o (.lst xs))):TyOf K H (.ref a) (bU "list")
 | tup {a:ai} {xs:List V} (e:H a=ao (.tup xs)):TyOf K H (.ref a) (bU "tuple")
 | dK {a:ai} {kvs:List (Key×V)} (e:H a=ao (.dK kvs)):TyOf K H (.ref a) (bU "dict")
 | dT {a:ai} {kvs:List (List Key×V)} (e:H a=ao (.dT kvs)):TyOf K H (.ref a) (bU "dict")
 | ins {a C dx:ai} {fs:List (Str×V)} (e:H a=ao (.ins C dx fs)) (cl:Cls K C) (ha:tP K (bQ C) "__class__" = ao (ao (dL "object.__class__")))
   (hn:PySem.W.specialIn K (dL "object.__class__") "__get__" = ao (ao (dL "getset_descriptor.__get__"))) (htk:PySem.W.takesIn K (dL "object.__class__")=ao du)
   (hm:PySem.W.mroIn K C (bU "object")=ao du):TyOf K H (.ref a) (bQ C)
theorem znB{x:V}{u t:ah}(I:Inv X pins σ H s)(v:RelV x u)(ty:TyOf X.K H x t)(e:tQ X.K t c=ao b)(h:∀tk,Q (nJ b) { s with toks:=tk }) :
  wpAny (model X.prog X.w) A (call (dL "isinstance") [u,c]) Q E s:=by
 cases ty with
 | non=>cases(show u=kJ from v);exact cw PySem.W.kitx_none I.kIn mi e (λz=>nomatch z) h
 | bl y=>cases(show u=nJ y from v);exact cw PySem.W.kitx_bool I.kIn mi e (λz=>nomatch z) h
 | int i=>obtain⟨t,q⟩:=(show ∃t,u=rL i t from v);cases q;exact cw PySem.W.kitx_int I.kIn mi e (λz=>nomatch z) h
 | str y=>obtain⟨t,q⟩:=(show ∃t,u=kI y t from v);cases q;exact cw PySem.W.kitx_str I.kIn mi e (λz=>nomatch z) h
 | flt y=>obtain⟨t,q⟩:=(show ∃t,u=xo y t from v);cases q;exact cw PySem.W.kitx_float I.kIn mi e (λz=>nomatch z) h
 | @lst a xs ea =>cases(show u=bQ a from v);obtain⟨_,_,n,_,G⟩:=(show JS X.prog X.w H s.heap a (.lst xs) from I.hok a _ ea);exact cw pS I.kIn ⟨_,G,rfl⟩ e (λz=>nomatch z) h
 | @frz a ob xs ea =>cases(show u=bQ a from v);obtain⟨_,_,_,n,_,G⟩:=(show JS X.prog X.w H s.heap a (.frz ob (.lst xs)) from I.hok a _ ea);exact cw pS I.kIn ⟨_,G,rfl⟩ e (λz=>nomatch z) h
 | @tup a xs ea =>cases(show u=bQ a from v);obtain⟨_,_,_,p⟩:=(show JS X.prog X.w H s.heap a (.tup xs) from I.hok a _ ea);obtain⟨o,G,L,_⟩:=p;exact cw pG I.kIn ⟨o,G,L⟩ e (λz=>nomatch z) h
 | @dK a kvs ea =>cases(show u=bQ a from v);obtain⟨_,_,S,_,p⟩:=(show JS X.prog X.w H s.heap a (.dK kvs) from I.hok a _ ea);obtain⟨o,R,N,G,L,_⟩:=p;exact cw gq I.kIn ⟨o,G,L.1⟩ e (λz=>nomatch z) h
 | @dT a kvs ea =>cases(show u=bQ a from v);obtain⟨_,_,xs,_,o,R,N,G,L,_⟩:=(show JS X.prog X.w H s.heap a (.dT kvs) from I.hok a _ ea);exact cw gq I.kIn ⟨o,G,L.1⟩ e (λz=>nomatch z) h
 | @ins a C dx fs ea cl ha hn htk hm =>cases(show u=bQ a from v);obtain⟨U,O,_⟩:=zsN I.hok ea;obtain⟨Y,J,_⟩:=O.look;exact cw (PySem.W.kitx_own (cl.get _) cl.hd ha hn htk hm) I.kIn J e (λz=>nomatch z) h
end
structure Room(k:Nat)(A:bw):Prop where
 hd:A.handled=bj
 dp:A.depth+3*k+5<recursionLimit
 un:A.units+16*k+200<cLine
 gd:A.guards=ao []
theorem Room.mono{j k:Nat}{A:bw}(r:Room k A)(h:j<=k):Room j A:=⟨r.hd,by have:=r.dp;lia,by have:=r.un;lia,r.gd⟩
theorem Room.deeper{k:Nat}{A:bw}(r:Room (k+1) A)(env:Env):Room k (A.deeper env) :=
 ⟨r.hd,by have:=r.dp;show A.depth+1+3*k+5<_;lia,by have:=r.un;show A.units+3+16*k+200<_;lia,r.gd⟩
theorem Room.depth{k:Nat}{A:bw}(r:Room k A):A.depth<recursionLimit:=by have:=r.dp;lia
theorem Room.units{k:Nat}{A:bw}(r:Room k A):A.units+64<cLine:=by have:=r.un;lia
theorem Room.units0{k:Nat}{A:bw}(r:Room k A):A.units<cLine:=by have:=r.un;lia
def tNil:TA:=λ_ H Q=>Q [] H
def QW(l:TE)(v:TA):TA:=λσ H Q=>l σ H λx o=>v σ o λxs u=>Q (x::xs) u
section
variable{X:Cx}{e:bg}{es:List bg}{te:TE}{t:TA}{pos:Pos}
theorem UW:PA X [] tNil:=λ_ _ _ _ H Q I h=>Calls.spliced_nil ⟨[],H,I,ja,h⟩
theorem Ue(ha:PE X e te)(v:PA X es t)(J:starEach (e::es) X.env=(dy,eval e X.env)::starEach es X.env:=by rfl):PA X (e::es) (QW te t):=by intro pos pins s σ H Q I h;rw[J];show wpAny _ _ (spliced ((dy,eval e X.env)::backTo pos (starEach es X.env))) _ _ s;refine Calls.spliced_cons (thn (ha pins s σ H _ I h) λu s1 l=>?_);obtain⟨x,S,L,C,Y⟩:=l;exact thn (v pos pins s1 σ S _ L Y) λus s2 ⟨xs,U,N,G,R⟩=>⟨x::xs,U,N,hH C G,R⟩
def tTup(t:TA):TE:=λσ H Q=>t σ H λxs l=>fo xs<=sizeLine/\∀p,l p=bj->Q (.ref p) (upd l p (.tup xs))
def tLst(t:TA):TE:=λσ H Q=>t σ H λxs o=>fo xs<=sizeLine/\∀p,o p=bj->Q (.ref p) (upd o p (.lst xs))
theorem zuF{x1}(h:PA X es t):PE X (i4 es x1 pos) (tTup t):=by intro pins s σ H Q I x;refine wpAny_Tuple_spliced (thn (h pos pins s σ H _ I x) λus s1 ⟨xs,v,o,r,z,q⟩=>⟨by rw[<- r.length];exact z,?_⟩);have hf:v s1.heap.objs.size=bj:=o.hok.fresh (aC _);refine⟨.ref s1.heap.objs.size,upd v s1.heap.objs.size (.tup xs),o.laid (t':=eA s1) (λb u e=>aj _ e) (aC _) ?_,rfl,q _ hf⟩;exact⟨z,us,r,⟨_,aB _ rfl,rfl,⟨_,rfl⟩,rfl⟩⟩
theorem zuL(h:PA X es t):PE X (.List es pos) (tLst t):=by intro pins s σ H Q I x;refine wpAny_List_spliced (thn (h pos pins s σ H _ I x) λus s1 ⟨xs,v,o,r,z,q⟩=>⟨by rw[<- r.length];exact z,?_⟩);have hf:v s1.heap.objs.size=bj:=o.hok.fresh (aC _);refine⟨.ref s1.heap.objs.size,upd v s1.heap.objs.size (.lst xs),o.laid (t':=eA s1) (λb u e=>aj _ e) (aC _) ?_,rfl,q _ hf⟩;exact⟨z,us,0,r,aB _ rfl⟩
end
abbrev Sp:=List V->Hp->VK->XK->Prop
abbrev CXT:=List Env->Hp->ax->XK->ah->ax->Prop
structure Env0(P:aK)(w:aV)(K:qF)(mg:qM)(base:bq)(A:bw)(outer:List Env)(s:ax)(H:Hp):Prop where
 frames:A.frames=ao outer
 mod:Mod K mg base
 bs:∀b o,bi base b=ao o->bi s.heap b=ao o/\H b=bj
 bsz:be base.objs<=be s.heap.objs
 funs:s.heap.FunFrames base outer
 frf:∀b∈frs outer,H b=bj
 hok:HOk P w H s.heap
 bare:lI s.gens
def CE(outer:List Env)(P:aK)(w:aV)(H:Hp)(s:ax)(Q:VK)(u:ah)(s':ax):Prop :=
 ∃v H',s'.os=s.os/\lI s'.gens/\Un (frs outer) [] H H' s.heap s'.heap/\HOk P w H' s'.heap/\RelV v u/\Q v H'
def CR(l:CXT)(outer:List Env)(P:aK)(w:aV)(H:Hp)(s:ax)(Q:VK)(E:XK)(r:tR)(s':ax):Prop :=
 match r with
 | .ok (jA u)=>CE outer P w H s Q u s'
 | .ok _=>False
 | .error e=>l outer H s E e s'
structure FnOk(P:aK)(w:aV)(K:qF)(mg:qM)(base:bq)(CX:CXT)(k:Nat)(f:ai)(fd:dU)(ps:List Str)(sp:Sp):Prop where
 len:∀vs H Q E,sp vs H Q E->fo vs=fo ps
 run:∀(A:bw) (outer:List Env) (s:ax) (H:Hp) (args:Args) (us:List ah) (vs:List V) (Q:VK) (E:XK),Room k A->Env0 P w K mg base A outer s H->tE s fd args (ps.zip us)->Vals vs us->sp vs H Q E ->
  codeAny (model P w) A (.call (bQ f) args) (CR CX outer P w H s Q E) s
theorem FnOk.imp{P:aK}{w:aV}{K:qF}{mg:qM}{base:bq}{v:CXT}{k:Nat}{f:ai}{fd:dU}{ps:List Str}{u o:Sp}(F:FnOk P w K mg base v k f fd ps u)
  (h:∀l H Q E,o l H Q E->u l H Q E):FnOk P w K mg base v k f fd ps o :=
 ⟨λl H Q E q=>F.len l H Q E (h _ _ _ _ q),λA outer s H args us l Q E x he hb C G=>F.run A outer s H args us l Q E x he hb C (h _ _ _ _ G)⟩
section
variable{X:Cx}{pins:qO}{σ:St}{H:Hp}{s s':ax}
theorem Inv.env0(I:Inv X pins σ H s):Env0 X.prog X.w X.K X.mg X.base X.A X.stack s H :=
 ⟨I.ok.frames,I.ok.mod,I.bs,ba I.ok.bsz I.sz,I.stack,I.stkFree,I.hok,I.bare⟩
theorem Inv.after{Q:VK}{u:ah}(I:Inv X pins σ H s)(h:CE X.stack X.prog X.w H s Q u s'):EP X pins σ Q u s':=by obtain⟨v,H',os,bare,un,hok,r,q⟩:=h;obtain⟨o,g,d,t,l⟩:=s';obtain rfl:l=s.os:=os;exact⟨v,H',I.call (h':=o) (g':=g) (d':=d) (t':=t) (ch:=[]) un hok bare (λb z=>absurd z (by simp)),r,q⟩
end
def ztZ(v:Sp)(l:List V)(E:XK)(t:TA):TE:=λσ H Q=>t σ H λu o=>v (u++l) o Q E
def Binds(K:qF)(fd:dU)(ps:List Str)(ds:List ah):Prop :=
 ∀(s:ax) (us:List ah),K.In s.heap->fo (us++ds)=fo ps->tE s fd ⟨us,[]⟩ (ps.zip (us++ds))
theorem Binds.all{K:qF}{fd:dU}{ps:List Str}(h:∀us:List ah,fo us=fo ps->bindArgs fd ⟨us,[]⟩=pure (ps.zip us)):Binds K fd ps []:=λs us _ l=>by rw[cE]at l ⊢;exact .of_eq (h us l)
def zoF(l:CXT)(X:Cx)(E:XK):Prop:=∀(pins:qO) (σ:St) (H:Hp) (s:ax) (e:ah) (s':ax),Inv X pins σ H s->l X.stack H s E e s'->X.xe e s'
section
variable{X:Cx}{CX:CXT}{k:Nat}{f:ai}{fd:dU}{ps:List Str}{sp:Sp}{dvs:List V}{ds:List ah}{E:XK}{x:Str}{p pos:Pos}{e:bg}{es:List bg}{t:TA}
theorem zqT{pins:qO}{σ:St}{H:Hp}{s:ax}{Q:VK}{us:List ah}{G:List V}(F:FnOk X.prog X.w X.K X.mg X.base CX k f fd ps sp)(N:Room k X.A)(hb:Binds X.K fd ps ds)(hd:Vals dvs ds)(hx:zoF CX X E)
  (I:Inv X pins σ H s) (r:Vals G us) (h:sp (G++dvs) H Q E):wpAny (model X.prog X.w) X.A (call (bQ f) us) (EP X pins σ Q) X.xe s:=by
 have J:Vals (G++dvs) (us++ds):=r.append hd;have L:fo (us++ds)=fo ps:=by rw[<- J.length];exact F.len _ _ _ _ h
 refine wpAny_call (iY (F.run X.A X.stack s H ⟨us,[]⟩ (us++ds) (G++dvs) Q E N I.env0 (hb s us I.kIn L) J h) λr s' v=>?_);cases r with
 | error e=>exact hx pins σ H s e s' I v
 | ok fl =>
  cases fl with
  | ret u=>exact I.after v
  | next=>exact e9 v
  | brk=>exact e9 v
  | cont=>exact e9 v
theorem zr6(F:FnOk X.prog X.w X.K X.mg X.base CX k f fd ps sp)(J:Room k X.A)(S:Gl X x)(L:X.mg x=ao (bQ f))(R:iZ X.K (bQ f)=du)(hb:Binds X.K fd ps ds)(hd:Vals dvs ds)(hx:zoF CX X E)
  (ha:PA X (e::es) t) (u:Ndb x:=by decide) (he:starEach (e::es) X.env=(dy,eval e X.env)::starEach es X.env:=by rfl) (v:(backTo pos (starEach es X.env)).any (·.1)=dy:=by rfl) :
  PE X (f9 (bv x p) (e::es) [] pos) (ztZ sp dvs E t):=by
 intro pins s σ H Q I h;refine iP (Vd I S L ?_ u);refine pH (h₀:=X.base) I.ok.mod.kin R (thn (ha pos pins s σ H _ I h) λus s1 ⟨U,Y,G,r,q⟩=>⟨G.kIn,?_⟩) he v;exact zqT F J hb hd hx G r q
end
structure UY(N P:List Str)(sc:fS):Prop where
 kind:sc.kind=je
 co:sc.isCoroutine=false
 gen:sc.isGenerator=false
 nd:N.Nodup
 pre:N.take (fo P)=P
 par:∀x∈P,sc.names.lookup x=ao .local\/sc.names.lookup x=ao kT
 nofree:∀y∈cr sc,y.2≠cV
theorem zjc{kindOf:Str->Option fk}{x:Str}:∀{binds:List (Str×ah)}{m:qM},(∀v,(x,v)∉binds)->bindL kindOf binds m x=m x
 | [],_,_=>rfl
 | (n,v)::r,m,h=>by
  unfold bindL;rw[zjc λw hw=>h w (cC _ hw)];split;have:x≠n:=by rintro rfl;exact h v cP
  simp[this];rfl
theorem zje{kindOf:Str->Option fk}{x:Str}:∀{binds:List (Str×ah)}{m:qM},(∀v,(x,v)∉binds)->bindC kindOf binds m x=m x
 | [],_,_=>rfl
 | (n,v)::r,m,h=>by
  unfold bindC;rw[zje λw hw=>h w (cC _ hw)];split;rfl;have:x≠n:=by rintro rfl;exact h v cP
  simp[this]
theorem zjd{kindOf:Str->Option fk}{x:Str}{v:ah}:∀{P:List Str}{u:List ah}{i:Nat}{m:qM},P.Nodup->P[i]?=ao x->u[i]?=ao v->kindOf x=ao .local ->
  bindL kindOf (P.zip u) m x=ao v
 | [],_,_,_,_,h,_,_=>by simp at h
 | _::_,[],_,_,_,_,h,_=>by simp at h
 | p::P,w::u,0,m,nd,h1,h2,hk=>by simp at h1 h2;subst h1;subst h2;show bindL kindOf ((p,w)::P.zip u) m p=_;unfold bindL;rw[zjc λv C=>(eU.mp nd).1 (dZ C).1,if_pos hk];simp
 | p::P,w::u,i+1,m,nd,h1,h2,hk=>by show bindL kindOf ((p,w)::P.zip u) m x=_;unfold bindL;exact zjd (i:=i) (eU.mp nd).2 (by simpa using h1) (by simpa using h2) hk
theorem zjf{kindOf:Str->Option fk}{x:Str}{v:ah}:∀{P:List Str}{u:List ah}{i:Nat}{m:qM},P.Nodup->P[i]?=ao x->u[i]?=ao v->kindOf x≠ao .local ->
  bindC kindOf (P.zip u) m x=ao v
 | [],_,_,_,_,h,_,_=>by simp at h
 | _::_,[],_,_,_,_,h,_=>by simp at h
 | p::P,w::u,0,m,nd,h1,h2,hk=>by simp at h1 h2;subst h1;subst h2;show bindC kindOf ((p,w)::P.zip u) m p=_;unfold bindC;rw[zje λv C=>(eU.mp nd).1 (dZ C).1,if_neg hk];simp
 | p::P,w::u,i+1,m,nd,h1,h2,hk=>by show bindC kindOf ((p,w)::P.zip u) m x=_;unfold bindC;exact zjf (i:=i) (eU.mp nd).2 (by simpa using h1) (by simpa using h2) hk
def start(N:List Str)(l:List V):St:=l.map ao++cG (fo N - fo l) bj
def cxOf(o:CXT)(P:aK)(w:aV)(K:qF)(mg:qM)(base:bq)(N:List Str)(qual:Str)(scope:fS)(f:ai)(cd:ah)(A:bw)(outer:List Env)(s:ax)(H:Hp)(E:XK):Cx where
 prog:=P
 w:=w
 K:=K
 mg:=mg
 base:=base
 A:=A.deeper (envOfC qual scope s.heap.objs.size f cd)
 N:=N
 s₀:=s
 H₀:=H
 env:=envOfC qual scope s.heap.objs.size f cd
 outer:=outer
 stack:=envOfC qual scope s.heap.objs.size f cd::outer
 ex:=[]
 calm:=true
 fn:=λ_=>true
 pn:=[]
 xe:=λe s'=>wpAny (model P w) (A.deeper (envOfC qual scope s.heap.objs.size f cd)) (leaving (envOfC qual scope s.heap.objs.size f cd) e) (λ_ l=>o outer H s E e l) (λu l=>o outer H s E u l) s'
theorem zk3{sc:fS}{n:Nat}{x:Str}(h:sc.names.lookup x=ao kT):∃c,(cellsFrom n (cr sc) []).lookup x=ao c:=by have q:=gO (cr sc) n [] (dY h);exact iB.mp q
theorem znD{Y:CXT}{P:aK}{w:aV}{K:qF}{mg:qM}{base:bq}{N ps:List Str}{qual:Str}{scope:fS}{f:ai}{cd:ah}{A:bw}{outer:List Env}{s s1:ax}{H:Hp}{E:XK}{us:List ah}{G:List V}
  (S:UY N ps scope) (hd:A.handled=bj) (C:Env0 P w K mg base A outer s H) (hl:fo G=fo ps) (r:Vals G us)
  (x:InCallC s s.heap.objs.size (bindL (jd (envOfC qual scope s.heap.objs.size f cd)) (ps.zip us) λ_=>bj) (cellsFrom (be s.heap.objs+1) (cr scope) []) (bindC (jd (envOfC qual scope s.heap.objs.size f cd)) (ps.zip us) λ_=>bj) s1) :
  Inv (cxOf Y P w K mg base N qual scope f cd A outer s H E) [] (start N G) H s1:=by
 have hpl:fo ps<=fo N:=by have:=congrArg fo S.pre;rw[eF]at this;lia
 obtain⟨U,tk,rfl,hk⟩:=x.done;have J:∀b:ai,b∉(cxOf Y P w K mg base N qual scope f cd A outer s H E).ex:=λb z=>absurd (show b∈([]:List ai) from z) (by simp);refine⟨⟨C.mod,S.kind,rfl,rfl,aC _,λy z c U o=>?_,λy I=>?_,λy c _ h=>?_,λ_=>hd,Around.frames_deeper C.frames,sr ⟨rfl,rfl⟩,λb z=>absurd z (J b),C.bs,C.bsz,λb _ _=>J b,λb z=>absurd z (J b),C.funs,C.frf⟩,
  rfl,C.bare,Un.kept hk,⟨_,x.toInCall.ns,λi y v U o h3=>?_⟩,λy c h=>⟨_,x.cell y c h⟩,C.hok.fresh (aC _),λy c h=>?_,λp L=>absurd (show p∈([]:qO) from L) (by simp),C.hok.kept hk,?_⟩
 exact name_of_addr x.apart (gC U) (gC o);have I:scope.names.lookup y=ao kT\/scope.names.lookup y=ao cV:=I;rcases I with I|I;exact zk3 I;exact absurd rfl (S.nofree _ (gC I));exact eQ (x.above y c (gC h));have hi:i<fo G:=by unfold start at o;by_cases hi:i<fo G;exact hi;rw[bp (by simpa using hi)]at o;rw[fv]at o;split at o <;> cases o
 have ha:G[i]?=ao v:=by
  unfold start at o;rw[cy (by simpa using hi),bK]at o;cases e:G[i]? with
  | none=>rw[e]at o;cases o
  | some a=>rw[e]at o;cases o;rfl
 obtain⟨u,Z,rv⟩:=r.get ha;have L:ps[i]?=ao y:=by rw[<- S.pre,List.getElem?_take_of_lt (by lia)];exact U
 have R:ps.Nodup:=by rw[<- S.pre];exact S.nd.sublist (pU _ _)
 refine⟨u,rv,?_⟩;rcases S.par y (aQ L) with k|k;exact dY ⟨k,zjd R L Z k⟩;obtain⟨c,e⟩:=zk3 (n:=be s.heap.objs+1) k;refine sr ⟨dY k,c,e,?_⟩;have q:=x.cell y c e;rw[zjf R L Z (by show scope.names.lookup y≠_;rw[k];decide)]at q;exact q;exact C.hok.fresh (eQ (x.above y c (gC h)));unfold start;show _=fo N;rw[aO,aG,kD];lia
theorem zzj{Y:CXT}{P:aK}{w:aV}{K:qF}{mg:qM}{base:bq}{k:Nat}{f:ai}{name qual:Str}{params:Arguments}{body:List e8}{scope:fS}{dV kV doc pm C ct oc:ah}{an od:Option ai}
  {osl:Array (Option ah)} {N ps:List Str} {sp:Sp} (lk:K.lookup f=ao ⟨oc,od,jE (eR name qual params body scope dV kV doc pm an C ct),osl⟩) (hcd:i5 K C qual=du) (S:UY N ps scope)
  (len:∀G H Q E,sp G H Q E->fo G=fo ps)
  (Mm:∀(A:bw) (outer:List Env) (s:ax) (H:Hp) (G:List V) (Q:VK) (E:XK),Room k (A.deeper (envOfC qual scope s.heap.objs.size f C))->sp G H Q E ->
   ∃t,PSs (cxOf Y P w K mg base N qual scope f C A outer s H E) body t/\t { nx:=λ_ H'=>Q .non H',rt:=Q } (start N G) H) :
  FnOk P w K mg base Y (k+1) f (eR name qual params body scope dV kV doc pm an C ct) ps sp:=by
 refine⟨len,λA outer s H args us G Q E Z U hb r R=>?_⟩;have hl:=len _ _ _ _ R;have KX:K.In s.heap:=U.mod.kin.keeps λb o e=>(U.bs b o e).1;have lim:s.heap.NoLimit:=U.mod.nolimit.keeps λb o e=>(U.bs b o e).1;have Mh:∀y∈ps.zip us,scope.names.lookup y.1=ao .local\/(scope.names.lookup y.1=ao kT/\f6 ((cellsFrom (be s.heap.objs+1) (cr scope) []).lookup y.1)=du):=λ⟨n,v⟩ hy=>by rcases S.par n (dZ hy).1 with q|q;exact dY q;exact sr ⟨q,gO _ _ _ (dY q)⟩
 refine codeAny_call_function Z.depth (KX _ _ lk) rfl S.co S.gen rfl (PySem.W.codeRec_of KX hcd) (hb _ _ _ _ ?_);refine wpAny_newFunctionEnv_cells S.kind Mh λenv he s1 x=>?_;subst he;refine⟨lim.keeps x.toInCall.keep,codeAny_func ?_⟩;obtain⟨t,ht,hq⟩:=Mm A outer s H G Q E (Z.deeper _) R;have I:Inv (cxOf Y P w K mg base N qual scope f C A outer s H E) [] (start N G) H s1:=znD S Z.hd U hl r x;refine c8 (ht [] s1 (start N G) H _ I hq) (λfl s' L=>?_) λe s' L=>L;have fin:∀{σ':St} {H':Hp} {v:V} {u:ah},Inv (cxOf Y P w K mg base N qual scope f C A outer s H E) [] σ' H' s'->RelV v u->Q v H'->CE outer P w H s Q u s' :=
  λ{σ' H' v u} J rv q=>⟨v,H',J.os,J.bare,J.base,J.hok,rv,q⟩
 cases fl with
 | ret u =>obtain⟨v,σ',H',J,rv,q⟩:=L;exact fin J rv q
 | next =>obtain⟨σ',H',J,q⟩:=L;exact fin (v:=V.non) (u:=kJ) J rfl q
 | brk =>obtain⟨_,_,_,q⟩:=L;exact e9 q
 | cont =>obtain⟨_,_,_,q⟩:=L;exact e9 q
section
variable{X:Cx}{x:Str}{p pos:Pos}{e:bg}{es:List bg}{t:TA}{id T:String}{r:List V->Hp->VK->Prop}
def tCB(r:List V->Hp->VK->Prop)(t:TA):TE:=λσ H Q=>t σ H λo l=>r o l Q
theorem zpy(hc:JX X (dL id) r)(hg:Gl X x)(S:X.mg x=bj)(L:bootBuiltins x=ao (dL id))(ha:PA X (e::es) t)(U:x ≠ "__name__":=by decide) (o:Ndb x:=by decide)
  (he:starEach (e::es) X.env=(dy,eval e X.env)::starEach es X.env:=by rfl) (v:(backTo pos (starEach es X.env)).any (·.1)=dy:=by rfl):PE X (f9 (bv x p) (e::es) [] pos) (tCB r t):=by
 intro pins s σ H Q I h;refine iP (YU I hg S L ?_ U o);exact rP (thn (ha pos pins s σ H _ I h) λus s1 ⟨G,Y,R,J,Z⟩=>hc pins s1 σ Y G us Q R J Z) he v
theorem zif(hc:JX X (bU T) r)(Z:Gl X x)(R:X.mg x=bj)(J:bootBuiltins x=ao (bU T))(ha:PA X (e::es) t)(S:x ≠ "__name__":=by decide) (o:Ndb x:=by decide)
  (he:starEach (e::es) X.env=(dy,eval e X.env)::starEach es X.env:=by rfl) (u:(backTo pos (starEach es X.env)).any (·.1)=dy:=by rfl):PE X (f9 (bv x p) (e::es) [] pos) (tCB r t):=by
 intro pins s σ H Q I h;refine iP (YU I Z R J ?_ S o);exact fJ (thn (ha pos pins s σ H _ I h) λus s1 ⟨v,U,L,G,Y⟩=>hc pins s1 σ U v us Q L G Y) he u
end
end L2
namespace HT
open PySem PyProof.Rows
def lexLt:List Int->List Int->Bool
 | [],[]=>false
 | [],_::_=>true
 | _::_,[]=>false
 | x::xs,y::ys=>if x=y then lexLt xs ys else decide (x<y)
theorem zlC(x y:Int)(xs l:List Int):lexLt (x::xs) (y::l)=if x=y then lexLt xs l else decide (x<y):=rfl
theorem zhl:lexLt [] []=dy:=rfl
theorem zf6(y:Int)(l:List Int):lexLt [] (y::l)=du:=rfl
theorem zf7(x:Int)(xs:List Int):lexLt (x::xs) []=dy:=rfl
theorem zqh(A:bw)(s:ax)(a:Int)(t:Tok)(c:Int)(u:Tok):∃e,pI A s (rL a t) (rL c u) e/\(e=du↔a=c) :=
 ⟨(a == c),mj a t c u,by simp⟩
theorem zpl(A:bw)(s:ax)(a:Int)(t:Tok)(c:Int)(u:Tok)(prog:aK)(w:aV)(E:qV)(Q:qV)(h:Q (nJ (decide (a<c))) s) :
  wpAny (model prog w) A (richCompare .Lt (rL a t) (rL c u)) Q E s :=
 (yi h:wpAny (model prog w) A (compareOp .Lt (rL a t) (rL c u)) Q E s)
section
open PySem.SeqAt
open PySem.AutoSeq1 (wpAny_loadPart')
open PySem.MeetsSeq PySem.MeetsSeq2 PySem.MeetsSeq3
theorem zgW(l b:ai)(items Y:Array ah)(n n2:Nat)(dd dd2:Option ai)(sl sl2:Array (Option ah))(ns ms:List Int)(hi:g9 (nK items) ns)(hj:g9 (nK Y) ms) :
  Meets (fw.«tuple.__lt__» ⟨[bQ l,bQ b],[]⟩)
   (λ_ R s=>bi s.heap l=ao { cls:=bU "tuple",dict:=dd,data:=im items n,slots:=sl }/\bi s.heap b=ao { cls:=bU "tuple",dict:=dd2,data:=im Y n2,slots:=sl2 } /\
    R (.ok (jA (nJ (lexLt ns ms)))) s) :=
 .of_wp λprog w A R s h=>by
  obtain⟨hp,g,d,tk,os⟩:=s;obtain⟨hl,hb,h⟩:=h;have f2:=AutoSeq1.sub_tuple_tuple;have z1:be items=fo ns:=by rw[<- hi.length];simp
  have z2:be Y=fo ms:=by rw[<- hj.length];simp
  wp_walk using sP hl,sP hb,wpAny_forIn_list _ (λrest b s'=>b.1=bj/\s'=⟨hp,g,d,tk,os⟩/\∃(vs ws:List ah) (G C:List Int),rest=vs.zip ws /\
   g9 vs G/\g9 ws C/\fo G+be Y=fo C+be items/\R (.ok (jA (nJ (lexLt G C)))) ⟨hp,g,d,tk,os⟩) _
  case turn =>
   rintro⟨y,x⟩ rest b s' ⟨S,rfl,vs,ws,G,C,I,U,J,v,N⟩;cases U with
   | nil=>rw[pV]at I;cases I
   | cons a t Z =>
    cases J with
    | nil=>rw[List.zip_nil_right]at I;cases I
    | cons c u hwi' =>
     rw[iQ]at I;injection I with hyx hrest;injection hyx with hy hx;subst hy hx;rw[zlC]at N;simp only[aP]at v;obtain⟨e,he,L⟩:=zqh A.in1 ⟨hp,g,d,tk,os⟩ a t c u;refine ae (he prog w _ _ ?_);cases e with
     | true =>rw[if_pos (L.mp rfl)]at N;wp_walk;exact⟨rfl,rfl,_,_,_,_,hrest,Z,hwi',by lia,N⟩
     | false =>rw[if_neg (λq=>absurd (L.mpr q) aT)]at N;have hri:=zpl A.in1 ⟨hp,g,d,tk,os⟩ a t c u prog w;wp_walk using hri;exact⟨_,rfl,by simpa using N⟩
  case fin =>
   rintro⟨b1,b2⟩ s' ⟨S,rfl,vs,ws,G,C,I,U,J,v,N⟩;simp only at S;subst S;have hv:lexLt G C=decide (be items<be Y):=by
    cases U with
    | nil =>
     cases J with
     | nil =>simp only[dh]at v;rw[zhl];exact(decide_eq_false (by lia)).symm
     | cons c u hw =>simp only[dh,aP]at v;rw[zf6];exact(decide_eq_true (by lia)).symm
    | cons a t hv =>
     cases J with
     | nil =>simp only[dh,aP]at v;rw[zf7];exact(decide_eq_false (by lia)).symm
     | cons c u hw =>rw[iQ]at I;cases I
   rw[hv]at N;wp_walk;exact⟨_,rfl,by simpa[rJ] using N⟩
  case h =>exact⟨rfl,rfl,nK items,nK Y,ns,ms,rfl,hi,hj,by lia,h⟩
end
section
variable{prog:aK}{w:aV}{A:bw}{E:qV}{s:ax}
theorem zen{l b:ai}{items G:Array ah}{ns u:List Int}{Q:qV}(S:oC s.heap l items)(hb:oC s.heap b G)(hi:g9 (nK items) ns)(Z:g9 (nK G) u)
  (hu:A.units<cLine) (h:Q (nJ (lexLt ns u)) s):wpAny (model prog w) A (compareOp .Lt (bQ l) (bQ b)) Q E s:=by
 obtain⟨⟨cls,U,data,sl⟩,N,hc,n,hd⟩:=id S;obtain⟨⟨R,I,data2,J⟩,C,v,Y,hd2⟩:=id hb;simp only at hc hd v hd2;subst hc hd v hd2;exact richCompare_meets_room (op:=.Lt) ⟨_,N,rfl⟩ ⟨_,C,rfl⟩ PySem.F.slot_tuple_lt PySem.F.entry_tuple_lt (PySem.F.args_tuple_lt_2 _ _) (zgW l b items G n Y U I sl J ns u hi Z)
  ⟨N,C,show nJ (lexLt ns u)≠Value.notImplemented/\Q (nJ (lexLt ns u)) s from⟨(λx=>nomatch x),h⟩⟩ hu
theorem ztv{t b:ai}{v l:List ah}{Q:qV}(U:oC s.heap t (bm v))(hb:oC s.heap b (bm l))(R:v≠[])
  (S:l=[]->Q (bQ t) s) (Y:l≠[]->Q (bQ s.heap.objs.size) { s with heap:=ee s.heap { cls:=bU "tuple",data:=im (bm (v++l)) } })
  (hsz:fo v+fo l<=sizeLine):wpAny (model prog w) A (binaryOp .Add (bQ t) (bQ b)) Q E s:=by
 obtain⟨⟨cls,J,data,sl⟩,I,hc,n,hd⟩:=id U;obtain⟨⟨L,x,data2,G⟩,u,C,N,hd2⟩:=id hb;simp only at hc hd C hd2;subst hc hd C hd2;have e:bm v++bm l=bm (v++l):=by simp
 by_cases hw:l=[];exact pW ⟨_,I,rfl⟩ ⟨_,u,rfl⟩ nj pd i6 iV (iC _ _)
  (tuple_addW1 t b (bm v) (bm l) n N J x sl G (by simpa using R) (by simp[hw])) ⟨I,u,S hw⟩
 refine pW ⟨_,I,rfl⟩ ⟨_,u,rfl⟩ nj pd i6 iV (iC _ _)
  (tuple_addW2 t b (bm v) (bm l) n N J x sl G (by simpa using R) (by simpa using hw) (by rw[aD,aD];exact hsz)) ⟨I,u,?_⟩
 rw[e];exact Y hw
def sIx(n d:Nat):Option Int->Nat
 | none=>d
 | some v=>if v<0 then(v+(n:Int)).toNat else min (ap v) n
theorem zeY(n d:Nat):sIx n d bj=d:=rfl
theorem zjm(n d k:Nat):sIx n d (ao (k:Int))=min k n:=by show(if (k:Int)<0 then((k:Int)+(n:Int)).toNat else min (ap (k:Int)) n)=min k n;rw[if_neg (by lia),gr]
theorem zui(n d:Nat)(hd:d<=n)(o:Option Int):sIx n d o<=n:=by
 cases o with
 | none=>exact hd
 | some v =>show(if v<0 then(v+(n:Int)).toNat else min (ap v) n)<=n;by_cases hv:v<0;rw[if_pos hv];lia;rw[if_neg hv];exact Nat.min_le_right _ _
theorem zon(v:Int)(n d:Nat):(if v<0 then max (v+(n:Int)) 0 else min v (n:Int))=((sIx n d (ao v):Nat):Int):=by show(if v<0 then max (v+(n:Int)) 0 else min v (n:Int))=(((if v<0 then(v+(n:Int)).toNat else min (ap v) n):Nat):Int);by_cases hv:v<0;simp only[if_pos hv];lia;simp only[if_neg hv];lia
theorem zl5(lo hi:Option Int)(n:Nat):iu lo hi 1 (n:Int)=(((sIx n 0 lo:Nat):Int),((sIx n n hi:Nat):Int)):=by
 have l:¬((1:Int)<0):=by lia
 unfold iu;simp only[l,if_false];refine gK ?_ ?_;cases lo with
 | none=>rfl
 | some v=>exact zon v n 0
 cases hi with
 | none=>rfl
 | some v=>exact zon v n n
theorem zlh(i j:Nat):fZ (i:Int) (j:Int) 1=j - i:=by
 unfold fZ;have l:(1:Int) > 0:=by lia
 simp only[l,if_true,Int.ediv_one];split <;> lia
theorem zgk{v:ah}{o:Option Int}{Q:Option Int->ax->Prop}(p:mW v o)(h:Q o s):wpAny (model prog w) A (sQ v) Q E s:=by
 cases p with
 | none=>exact tT h
 | int i t=>exact slicePart_int h
theorem zcK{sl:ai}{v C:ah}{lo hi:Option Int}{n:Nat}{Q:Int×Int×Nat->ax->Prop}(J:s.heap.IsSliceOf sl v C kJ)(pl:mW v lo)(G:mW C hi)
  (h:Q (((sIx n 0 lo:Nat):Int),1,sIx n n hi - sIx n 0 lo) s):wpAny (model prog w) A (mn (bQ sl) (pure (n:Int))) Q E s:=by
 obtain⟨os,u,I,l⟩:=id J;unfold mn uz;refine ae (ae (cW u l (x:=v) rfl (ae (cW u l (x:=C) rfl (ae (cW u l (x:=kJ) rfl (ak ?_)))))));refine ae (tT ?_);show wpAny _ _ (if ((1:Int) == 0)=du then _ else _) _ _ s;rw[if_neg (by decide)];refine ae (zgk pl (ae (zgk G (ae (ak ?_)))));show wpAny _ _ (match iu lo hi 1 (n:Int) with|(lo,hi)=>pure (lo,(1:Int),fZ lo hi 1)) _ _ s;rw[zl5 lo hi n];show wpAny _ _ (pure (((sIx n 0 lo:Nat):Int),(1:Int),fZ ((sIx n 0 lo:Nat):Int) ((sIx n n hi:Nat):Int) 1)) _ _ s;rw[zlh];exact ak h
theorem zpu(xs:Array ah)(i k:Nat):bm ((dw k).filterMap λ(m:Nat)=>xs[ap ((i:Int)+(m:Int)*1)]?)=bm ((xs.toList.drop i).take k):=by
 have e:(λ(m:Nat)=>xs[ap ((i:Int)+(m:Int)*1)]?)=λm=>xs[i+m]?:=by
  funext m;have:ap ((i:Int)+(m:Int)*1)=i+m:=by lia
  rw[this]
 rw[e];have:=xC xs i k;rw[List.filterMap_map]at this;have u:((λx=>xs[x]?)∘λx=>i+x)=λm=>xs[i+m]?:=rfl;rw[u]at this;rw[this]
theorem zer{t sl:ai}{items:Array ah}{I J:ah}{lo hi:Option Int}{Q:qV}(u:oC s.heap t items)(L:s.heap.IsSliceOf sl I J kJ)(pl:mW I lo)(R:mW J hi)
  (hw:¬(sIx items.size 0 lo=0/\sIx items.size items.size hi=be items))
  (h:Q (bQ s.heap.objs.size) { s with heap:=ee s.heap { cls:=bU "tuple",data:=im (bm ((items.toList.drop (sIx items.size 0 lo)).take (sIx items.size items.size hi - sIx items.size 0 lo))) } })
  (hsz:be items<=sizeLine):wpAny (model prog w) A (getItem (bQ t) (bQ sl)) Q E s:=by
 have l:sizeOk (im (bm ((items.toList.drop (sIx items.size 0 lo)).take (sIx items.size items.size hi - sIx items.size 0 lo)))):=by show((items.toList.drop (sIx items.size 0 lo)).take (sIx items.size items.size hi - sIx items.size 0 lo)).toArray.size<=sizeLine;rw[aD,eF,dN,bN];lia
 have S:sIx items.size items.size hi<=be items:=zui _ _ (aC _) hi;obtain⟨os,C,v,N⟩:=id L;have x:s.TypeIs (bQ sl) "slice":=⟨os,C,v⟩;unfold getItem;try with_reducible refine cu ?_
 first|refine ae (ak ?_)|skip
 refine ae (pX u.typeIs (by decide) ?_);refine ae (dF (name:=aa "__getitem__") u.typeIs cQ
  (eG cQ u.typeIs oZ ?_ (pJ _ _)))
 show wpAny _ _ (mw (bQ t) >>= _) _ _ s;refine ae (tupleItemsOf_ u ?_);refine ae (fK x ?_);rw[if_pos (by decide)];refine ae (zcK L pl R ?_);have G:¬((((sIx items.size 0 lo:Nat):Int) == 0&&(1:Int) == 1&&(sIx items.size items.size hi - sIx items.size 0 lo) == be items)=du):=by intro q;rw[aF,aF]at q;have Y:((sIx items.size 0 lo:Nat):Int)=0:=eq_of_beq q.1.1;have U:sIx items.size items.size hi - sIx items.size 0 lo=be items:=eq_of_beq q.2;exact hw ⟨by lia,by lia⟩
 show wpAny _ _ (if (((sIx items.size 0 lo:Nat):Int) == 0&&(1:Int) == 1&&(sIx items.size items.size hi - sIx items.size 0 lo) == be items)=du then _ else _) _ _ s;rw[if_neg G,zpu];first
  | exact ae (m:=gz _) (cL (ak ⟨_,rfl,ak h⟩) l)
  | exact ae (m:=gz _) (cL (ae (ak (ak ⟨_,rfl,ak h⟩))) l)
  | exact ae (ae (m:=gz _) (cL (ak (ak ⟨_,rfl,ak h⟩)) l))
  | exact ae (ae (m:=gz _) (cL (ak ⟨_,rfl,ak h⟩) l))
end
end HT
namespace L2
open PySem PySem.Spec PyProof.Rows
abbrev TO:=St->Hp->(Option Int->Hp->Prop)->Prop
def PO(X:Cx)(e:Option bg)(t:TO):Prop :=
 ∀(pins:qO) (s:ax) (σ:St) (H:Hp) (Q:Option Int->Hp->Prop),Inv X pins σ H s->t σ H Q ->
  wpAny (model X.prog X.w) X.A (evalPart e X.env) (λu s'=>∃o H',Inv X pins σ H' s'/\mW u o/\Q o H') X.xe s
def zrF:TO:=λ_ H Q=>Q bj H
def zxD(t:TE):TO:=λσ H Q=>t σ H λx l=>∃i,x=.int i/\Q (ao i) l
theorem intsAre_of{ns:List Int}:∀{us:List ah},Vals (ns.map V.int) us->g9 us ns:=by
 induction ns with
 | nil=>intro us r;rw[fL]at r;cases r;exact .nil
 | cons n ns u =>
  intro us r;rw[aU]at r;cases r with
  | cons v x =>obtain⟨t,e⟩:=v;subst e;exact .cons n t (u x)
section
variable{X:Cx}{e:bg}{te:TE}{lo hi:Option bg}{tl th:TO}{pos p2:Pos}
theorem zrY:PO X bj zrF:=by intro pins s σ H Q I h;rw[evalPart_none];exact ak ⟨bj,H,I,.none,h⟩
theorem zrX(h:PE X e te):PO X (ao e) (zxD te):=by intro pins s σ H Q I hw;rw[evalPart_some];refine thn (h pins s σ H _ I hw) λu s1 l=>?_;obtain⟨x,C,v,o,G⟩:=l;obtain⟨i,rfl,q⟩:=G;obtain⟨t,rfl⟩:=o;exact⟨ao i,C,v,.int i t,q⟩
def SlR(X:Cx)(r:V->Option Int->Option Int->Hp->VK->Prop):Prop :=
 ∀(pins:qO) (s:ax) (σ:St) (H:Hp) (x:V) (v C G:ah) (lo hi:Option Int) (sl:ai) (Q:VK),Inv X pins σ H s->RelV x v->s.heap.IsSliceOf sl C G kJ->mW C lo->mW G hi->r x lo hi H Q ->
  ∃T id,typeLookup (bU T) "__getitem__" = pure (ao (dL id))/\s.TypeIs v T/\wpAny (model X.prog X.w) X.A (getItem v (bQ sl)) (EP X pins σ Q) X.xe s
theorem SlR.or{r J:V->Option Int->Option Int->Hp->VK->Prop}(h:SlR X r)(h':SlR X J):SlR X (λx lo hi H Q=>r x lo hi H Q\/J x lo hi H Q):=by intro pins s σ H x v l u lo hi sl Q I o C pl G q;rcases q with q|q;exact h pins s σ H x v l u lo hi sl Q I o C pl G q;exact h' pins s σ H x v l u lo hi sl Q I o C pl G q
def tSl(r:V->Option Int->Option Int->Hp->VK->Prop)(te:TE)(tl th:TO):TE:=λσ H Q=>te σ H λx o=>tl σ o λl v=>th σ v λu C=>r x l u C Q
theorem zkm{r:V->Option Int->Option Int->Hp->VK->Prop}(U:SlR X r)(he:PE X e te)(N:PO X lo tl)(hu:PO X hi th):PE X (ed e (.Slice lo hi bj p2) pos) (tSl r te tl th):=by intro pins s σ H Q I h;refine tU (thn (he pins s σ H _ I h) λv s1 C=>?_);obtain⟨x,H1,I1,Z,q1⟩:=C;refine wpAny_Slice (thn (N pins s1 σ H1 _ I1 q1) λG s2 ⟨l,H2,I2,pl,q2⟩=>thn (hu pins s2 σ H2 _ I2 q2) λJ s3 C=>?_);obtain⟨u,L,I3,pu,Y⟩:=C;rw[evalPart_none];refine ak ?_;have I4:Inv X pins σ L { s3 with heap:=ee s3.heap { cls:=bU "slice",data:=fm #[G,J,kJ] } }:=I3.kept (t':=eA s3) λb ob q=>aj _ q;obtain⟨T,id,R,ht,hg⟩:=U pins { s3 with heap:=ee s3.heap { cls:=bU "slice",data:=fm #[G,J,kJ] } } σ L x v G J l u s3.heap.objs.size Q I4 Z (yR ..) pl pu Y;show wpAny (model X.prog X.w) X.A (subscriptTail e (.Slice lo hi bj p2) v (bQ s3.heap.objs.size)) (EP X pins σ Q) X.xe { s3 with heap:=ee s3.heap { cls:=bU "slice",data:=fm #[G,J,kJ] } };exact tail_any (ops:=[bQ s3.heap.objs.size,v]) ht R hg (by with_unfolding_all rfl)
def cutV(xs:List V)(lo hi:Option Int):List V:=(xs.drop (HT.sIx (fo xs) 0 lo)).take (HT.sIx (fo xs) (fo xs) hi - HT.sIx (fo xs) 0 lo)
theorem zfQ(xs:List V)(lo hi:Option Int):fo (cutV xs lo hi)<=fo xs:=by unfold cutV;rw[eF,dN];lia
def rSlT(K:qF):V->Option Int->Option Int->Hp->VK->Prop:=λx lo hi H Q=>∃a xs,x=.ref a/\SqT K H a xs /\
 ¬(HT.sIx (fo xs) 0 lo=0/\HT.sIx (fo xs) (fo xs) hi=fo xs)/\∀p,H p=bj->Q (.ref p) (upd H p (.tup (cutV xs lo hi)))
theorem zt2:SlR X (rSlT X.K):=by
 intro pins s σ H x v R U lo hi sl Q I J L pl N h;obtain⟨a,xs,rfl,hx,hw,q⟩:=h;cases J;obtain⟨its,r,C,G⟩:=I.tuple hx;have l:be its.toArray=fo xs:=by rw[aD];exact dv r.length
 refine⟨"tuple",_,cQ.lookup,C.typeIs,?_⟩;refine HT.zer C L pl N (by rw[l];exact hw) ?_ (by rw[l];exact G);rw[l];refine⟨.ref s.heap.objs.size,_,I.laid (t':=eA s) (o:=.tup (cutV xs lo hi)) (λb S q=>aj _ q) (aC _) ?_,rfl,q _ (I.hok.fresh (aC _))⟩;exact⟨ba (zfQ xs lo hi) G,_,(r.drop (HT.sIx (fo xs) 0 lo)).take (HT.sIx (fo xs) (fo xs) hi - HT.sIx (fo xs) 0 lo),IsTD.new _ _⟩
def rLtT(K:qF):R2:=λx y H Q=>∃a b ns o,x=.ref a/\y=.ref b/\SqT K H a (ns.map V.int)/\SqT K H b (o.map V.int)/\Q (.bl (HT.lexLt ns o)) H
theorem zuX(Y:X.A.units<cLine):OpR X (compareOp .Lt) (rLtT X.K):=by intro pins s σ H x y v u Q I G S h;obtain⟨a,b,ns,C,rfl,rfl,ha,hb,q⟩:=h;cases G;cases S;obtain⟨its,N,J,_⟩:=I.tuple ha;obtain⟨o,R,p2,_⟩:=I.tuple hb;have i1:g9 (nK its.toArray) ns:=intsAre_of N;have U:g9 (nK o.toArray) C:=intsAre_of R;exact HT.zen J p2 i1 U Y ⟨.bl (HT.lexLt ns C),H,I,rfl,q⟩
def zyp(K:qF):R2:=λx y H Q=>∃a b xs l,x=.ref a/\y=.ref b/\SqT K H a xs/\SqT K H b l/\xs≠[]/\fo xs+fo l<=sizeLine /\
 (l=[]->Q (.ref a) H)/\(l≠[]->∀p,H p=bj->Q (.ref p) (upd H p (.tup (xs++l))))
theorem Vals.nil_iff{xs:List V}{us:List ah}(r:Vals xs us):us=[]↔xs=[]:=by
 cases r with
 | nil=>simp
 | cons _ _=>simp
theorem zsh:OpR X (binaryOp .Add) (zyp X.K):=by intro pins s σ H x y v u Q I L S h;obtain⟨a,b,xs,R,rfl,rfl,ha,hb,hx,J,Y,U⟩:=h;cases L;cases S;obtain⟨its,C,N,_⟩:=I.tuple ha;obtain⟨G,l,p2,_⟩:=I.tuple hb;refine HT.ztv N p2 (λz=>hx (C.nil_iff.mp z)) (λz=>⟨.ref a,H,I,rfl,Y (l.nil_iff.mp z)⟩) (λz=>?_) (by rw[<- C.length,<- l.length];exact J);refine⟨.ref s.heap.objs.size,_,I.laid (t':=eA s) (o:=.tup (xs++R)) (λb Z q=>aj _ q) (aC _) ?_,rfl,U (λw=>z (l.nil_iff.mpr w)) _ (I.hok.fresh (aC _))⟩;exact⟨by rw[aO];exact J,_,C.append l,IsTD.new _ _⟩
end
def ixN(n:Nat)(i:Int):Option Nat:=if 0<=i then(if i<n then ao (ap i) else bj) else if -(n:Int)<=i then ao (ap (i+n)) else bj
def atI{α:Type}(xs:List α)(i:Int):Option α:=(ixN (fo xs) i).bind λj=>xs[j]?
theorem znA{n:Nat}{i:Int}{j:Nat}(h:ixN n i=ao j):seqIndex? i n=ao j/\j<n/\-(n:Int)<=i/\i<n:=by unfold ixN at h;by_cases h0:0<=i;rw[if_pos h0]at h;by_cases h1:i<n;rw[if_pos h1]at h;have e:ap i=j:=aX h;exact⟨by rw[sH h0 h1,e],by lia,by lia,h1⟩;rw[if_neg h1]at h;cases h;rw[if_neg h0]at h;by_cases h1:-(n:Int)<=i;rw[if_pos h1]at h;have e:ap (i+n)=j:=aX h;exact⟨by rw[pY (by lia) h1,e],by lia,h1,by lia⟩;rw[if_neg h1]at h;cases h
theorem zj4{α:Type}{xs:List α}{i:Int}{v:α}(h:atI xs i=ao v):∃j,seqIndex? i (fo xs)=ao j/\xs[j]?=ao v/\j<fo xs/\-(fo xs:Int)<=i/\i<fo xs:=by
 unfold atI at h;cases e:ixN (fo xs) i with
 | none=>rw[e]at h;cases h
 | some j =>rw[e]at h;obtain⟨x,o,l,u⟩:=znA e;exact⟨j,x,h,o,l,u⟩
theorem ztC{α:Type}{xs:List α}{j:Nat}{v:α}(h:xs[j]?=ao v):atI xs (j:Int)=ao v:=by
 have l:j<fo xs:=(aq.mp h).1;have e:ixN (fo xs) (j:Int)=ao j:=by unfold ixN;rw[if_pos (by lia),if_pos (by lia)];simp
 unfold atI;rw[e];exact h
def zoE(b:bg):Prop:=∀o i,subscripted b dy o i=operate [o,i] (getItem o i)
def IxR(X:Cx)(r:R2):Prop :=
 ∀(value slice:bg) (pins:qO) (s:ax) (σ:St) (H:Hp) (x y:V) (v u:ah) (Q:VK),Inv X pins σ H s->RelV x v->RelV y u->r x y H Q ->
  subscripted slice dy v u=operate [v,u] (getItem v u)->wpAny (model X.prog X.w) X.A (subscriptTail value slice v u) (EP X pins σ Q) X.xe s
def MtR(X:Cx)(id:String)(r:V->List V->Hp->VK->Prop):Prop :=
 ∀(pins:qO) (s:ax) (σ:St) (H:Hp) (x:V) (xs:List V) (v:ah) (us:List ah) (Q:VK),Inv X pins σ H s->RelV x v->Vals xs us->r x xs H Q ->
  wpAny (model X.prog X.w) X.A (call (dL id) (v::us)) (EP X pins σ Q) X.xe s
section
variable{X:Cx}{a b:bg}{ta tb:TE}{pos:Pos}
theorem IxR.or{r G:R2}(h:IxR X r)(h':IxR X G):IxR X (λx y H Q=>r x y H Q\/G x y H Q):=by intro value slice pins s σ H x y v u Q I l o q C;rcases q with q|q;exact h value slice pins s σ H x y v u Q I l o q C;exact h' value slice pins s σ H x y v u Q I l o q C
theorem UL{r:R2}(o:IxR X r)(ha:PE X a ta)(hb:PE X b tb)(G:zoE b):PE X (ed a b pos) (tOp r ta tb):=by intro pins s σ H Q I h;exact tU (binT ha hb I h λv u s2 x y L J l C q=>o a b pins s2 σ L x y v u Q J l C q (G _ _))
def rIxL(K:qF):R2:=λx y H Q=>∃p xs i v,x=.ref p/\y=.int i/\SqL K H p xs/\atI xs i=ao v/\Q v H
def rIxT(K:qF):R2:=λx y H Q=>∃p xs i v,x=.ref p/\y=.int i/\SqT K H p xs/\atI xs i=ao v/\Q v H
def rIxS:R2:=λx y H Q=>∃z i c,x=.str z/\y=.int i/\nN z<=sizeLine/\atI (nK z.cps) i=ao c/\Q (.str ⟨#[c]⟩) H
theorem U0:IxR X (rIxL X.K):=by
 intro value slice pins s σ H x y v u Q I R U h L;obtain⟨p,xs,i,z,rfl,rfl,hq,he,q⟩:=h;cases R;obtain⟨t,rfl⟩:=U;obtain⟨its,r,pl,hz⟩:=I.list hq;obtain⟨j,l,Z,h3,h4,Y⟩:=zj4 he;obtain⟨w,J,C⟩:=r.get Z;have S:=r.length;have hn:=U9;have fin:EP X pins σ Q w s:=⟨z,H,I,C,q⟩;by_cases h0:0<=i;have G:ap i=j:=by rw[sH h0 Y]at l;exact aX l
 exact item_listR pl.isList h0 (by lia) (by rw[G];simpa using J) fin L;have G:ap (i+(be its.toArray:Int))=j:=by rw[pY (by lia) h4]at l;rw[aD,<- S];exact aX l
 exact nM (x:=w) pl.isList.typeIs pZ.lookup
  (wpAny_getItem_list_neg (Q:=λr s'=>r=w/\EP X pins σ Q r s') pl.isList (by lia) (by rw[aD] <;> lia) (by lia) (by rw[G];simpa using J) ⟨rfl,fin⟩) L
theorem zvS:IxR X (rIxT X.K):=by
 intro value slice pins s σ H x y v u Q I o J h N;obtain⟨p,xs,i,z,rfl,rfl,S,he,q⟩:=h;cases o;obtain⟨t,rfl⟩:=J;obtain⟨its,r,pl,Z⟩:=I.tuple S;obtain⟨j,L,R,U,h4,Y⟩:=zj4 he;obtain⟨w,G,l⟩:=r.get R;have C:=r.length;have hn:=U9;have fin:EP X pins σ Q w s:=⟨z,H,I,l,q⟩;exact nM (x:=w) pl.typeIs slot_tuple_getitem.lookup
  (getItem_tuple (j:=j) (Q:=λr s'=>r=w/\EP X pins σ Q r s') pl (by lia) (by lia) (by rw[aD,<- C];exact L) (by simpa using G) ⟨rfl,fin⟩) N
theorem zvT:IxR X rIxS:=by
 intro value slice pins s σ H x y v u Q I o J h R;obtain⟨z,i,c,rfl,rfl,Z,he,q⟩:=h;obtain⟨t,rfl⟩:=o;obtain⟨t',rfl⟩:=J;obtain⟨j,l,N,Y,U,L⟩:=zj4 he;have C:fo z.cps.toList=nN z:=by simp[nN]
 rw[C]at l U L;have hn:=U9;exact tail_any (tV s z t) slot_str_getitem.lookup (getItem_str (c:=c) (by have S:decide (i < -(2 ^ 63:Int))=dy:=decide_eq_false (by lia);have G:decide (i>=2 ^ 63)=dy:=decide_eq_false (by lia);rw[S,G,uZ]) (by rw[l];simpa using N) ⟨.str ⟨#[c]⟩,H,I.tok _,⟨_,rfl⟩,q⟩) R
def rIx(K:qF):R2:=λx y H Q=>rIxL K x y H Q\/rIxT K x y H Q\/rIxS x y H Q
theorem zvU:IxR X (rIx X.K):=U0.or (zvS.or zvT)
theorem zlB(its:List ah)(n j:Nat)(u:ah):ic (·.setIfInBounds j u) { cls:=bU "list",data:=im (bm its) n }={ cls:=bU "list",data:=im (bm (ce its j u)) n }:=by simp[ic]
theorem Inv.lst{pins:qO}{σ:St}{H:Hp}{s:ax}{p:ai}{xs:List V}(I:Inv X pins σ H s)(h:H p=ao (.lst xs)) :
  ∃(its:List ah) (n:Nat),Vals xs its/\bi s.heap p=ao { cls:=bU "list",data:=im (bm its) n }/\fo xs<=sizeLine:=by
 obtain⟨z,its,n,r,e⟩:=I.hok p _ h;exact⟨its,n,r,e,z⟩
theorem Inv.lstUpd{pins:qO}{σ:St}{H:Hp}{s:ax}{p:ai}{xs v:List V}{its its':List ah}{n o:Nat}{f:Obj->Obj}(I:Inv X pins σ H s)(h:H p=ao (.lst xs))
  (C:bi s.heap p=ao { cls:=bU "list",data:=im (bm its) n }) (hf:f { cls:=bU "list",data:=im (bm its) n }={ cls:=bU "list",data:=im (bm its') o }) (r:Vals v its') (G:fo v<=sizeLine) (t:Nat) :
  Inv X pins σ (upd H p (.lst v)) { s with heap:=s.heap.update p f,toks:=t }:=by
 have e:bi (s.heap.update p f) p=ao { cls:=bU "list",data:=im (bm its') o }:=by rw[fY f C (by rw[hf] <;> rfl),hf]
 refine I.write (x:=p) (e:=p) (by rw[h];trivial) (dY rfl) (λb u hb q=>b4 (cM _ _ (gN hb)) q) ⟨_,e⟩ ?_;exact⟨G,its',o,r,e⟩
def zyo:V->V->V->Hp->(Hp->Prop)->Prop:=λo i v H Q=>∃p xs k j,o=.ref p/\i=.int k/\H p=ao (.lst xs)/\ixN (fo xs) k=ao j/\Q (upd H p (.lst (ce xs j v)))
theorem set_list:PSet X zyo:=by
 intro pins s σ H o i v ov iv u Q I Z ri Y h;obtain⟨p,xs,k,j,rfl,rfl,R,hj,q⟩:=h;cases Z;obtain⟨t,rfl⟩:=ri;obtain⟨its,n,r,C,hz⟩:=I.lst R;obtain⟨x,h2,L,U⟩:=znA hj;have G:=r.length;have hn:=U9;have S:Inv X pins σ (upd H p (.lst (ce xs j v))) { s with heap:=s.heap.update p (ic (·.setIfInBounds j u)) } :=
  I.lstUpd R C (zlB its n j u) (r.set Y j) (by rw[iJ];exact hz) s.toks
 by_cases h0:0<=k;have J:ap k=j:=by rw[sH h0 U]at x;exact aX x
 exact PySem.W.ki_setAt C h0 (by lia) (by rw[aD,<- G];exact U) (by rw[J];exact⟨_,S,q⟩);have J:ap (k+(be its.toArray:Int))=j:=by rw[pY (by lia) L]at x;rw[aD,<- G];exact aX x
 exact PySem.W.ki_setBack C (by lia) (by rw[aD,<- G];exact L) (by lia) (by rw[J];exact⟨_,S,q⟩)
theorem zhZ(lo hi:Option Int)(n:Nat):(sliceBounds lo hi bj n).1=((HT.sIx n 0 lo:Nat):Int)/\(sliceBounds lo hi bj n).2.1=((HT.sIx n n hi:Nat):Int)/\(sliceBounds lo hi bj n).2.2=1:=by
 refine⟨?_,?_,rfl⟩;cases lo with
 | none=>simp[sliceBounds,HT.sIx]
 | some i =>simp only[sliceBounds,HT.sIx,rQ,show(1:Int) > 0 by decide,if_true];by_cases h:i<0;simp only[h,if_true] <;> lia;simp only[h,if_false] <;> lia
 cases hi with
 | none=>simp[sliceBounds,HT.sIx]
 | some i =>simp only[sliceBounds,HT.sIx,rQ,show(1:Int) > 0 by decide,if_true];by_cases h:i<0;simp only[h,if_true] <;> lia;simp only[h,if_false] <;> lia
theorem zgY(its:List ah)(lo hi:Option Int):slicePick (bm its) lo hi bj=bm ((its.drop (HT.sIx (fo its) 0 lo)).take (HT.sIx (fo its) (fo its) hi - HT.sIx (fo its) 0 lo)):=by obtain⟨v,u,l⟩:=zhZ lo hi its.toArray.size;unfold slicePick;rw[v,u,l];simp only[tW,xC,aD] <;> rfl
def rSlL(K:qF):V->Option Int->Option Int->Hp->VK->Prop:=λx lo hi H Q=>∃a xs,x=.ref a/\SqL K H a xs/\∀p,H p=bj->Q (.ref p) (upd H p (.lst (cutV xs lo hi)))
theorem zrJ:SlR X (rSlL X.K):=by intro pins s σ H x v R U lo hi sl Q I G J pl N h;obtain⟨a,xs,rfl,hx,q⟩:=h;cases G;obtain⟨its,r,C,L⟩:=I.list hx;have u:=r.length;refine⟨"list",_,pZ.lookup,C.isList.typeIs,?_⟩;refine wpAny_getItem_list_slice C.isList J pl N .none (by simp) ?_ (by rw[aD] <;> lia);rw[zgY,<- u];refine⟨.ref s.heap.objs.size,_,I.laid (t':=eA s) (o:=.lst (cutV xs lo hi)) (λb S q=>aj _ q) (aC _) ?_,rfl,q _ (I.hok.fresh (aC _))⟩;exact⟨ba (zfQ xs lo hi) L,_,0,(r.drop (HT.sIx (fo xs) 0 lo)).take (HT.sIx (fo xs) (fo xs) hi - HT.sIx (fo xs) 0 lo),aB _ rfl⟩
theorem zi9:JX X (dL "len") (λxs H Q=>∃p v,xs=[.ref p]/\(SqL X.K H p v\/SqT X.K H p v)/\Q (.int (fo v)) H):=by intro pins s σ H xs us Q I r h;obtain⟨p,v,rfl,x,q⟩:=h;obtain⟨u,rfl,G⟩:=vals1 r;cases G;have L:=U9;rcases x with x|x;obtain⟨its,C,pl,J⟩:=I.list x;have o:=C.length;exact oY pl.isList (by simp only[aD] <;> lia) ⟨.int (fo v),H,I.tok _,⟨eA s+1,by rw[aD,o]⟩,q⟩;obtain⟨its,C,pl,J⟩:=I.tuple x;have o:=C.length;exact len_tuple pl (by simp only[aD] <;> lia) ⟨.int (fo v),H,I.tok _,⟨eA s+1,by rw[aD,o]⟩,q⟩
theorem UI:JX X (bU "tuple") (λxs H Q=>∃p v,xs=[.ref p]/\((SqL X.K H p v/\∀l,H l=bj->Q (.ref l) (upd H l (.tup v)))\/(SqT X.K H p v/\Q (.ref p) H))):=by
 intro pins s σ H xs us Q I r h;obtain⟨p,v,rfl,h⟩:=h;obtain⟨u,rfl,N⟩:=vals1 r;cases N;rcases h with⟨C,q⟩|⟨C,q⟩;obtain⟨its,x,pl,J⟩:=I.list C;have L:=x.length;refine call_tuple_list pl.isList (λh' kp=>?_) (by simp only[aD] <;> lia);have G:Inv X pins σ H { s with heap:=h' }:=I.kept (t':=eA s) kp;have R:Inv X pins σ (upd H h'.objs.size (.tup v)) { s with heap:=ee h' { cls:=bU "tuple",data:=im (bm its) } } :=
  G.laid (t':=eA s) (λb o e=>aj _ e) (aC _) (show JS X.prog X.w _ _ _ (.tup v) from⟨J,its,x,IsTD.new _ _⟩)
 exact⟨.ref h'.objs.size,_,R,rfl,q _ (G.hok.fresh (aC _))⟩;obtain⟨its,x,pl,J⟩:=I.tuple C;exact call_tuple_same pl ⟨.ref p,H,I,rfl,q⟩
def tyV(K:qF)(T:String)(x:V)(H:Hp):Prop:=match x with
 | .str _=>T = "str"
 | .int _=>T = "int"
 | .ref p=>(T = "list" /\ ∃xs,SqL K H p xs)\/(T = "tuple" /\ ∃o,K.lookup p=ao o/\jo o=bU "tuple" /\ o.dict=bj) \/
   (T = "dict" /\ ((∃l,H p=ao (.dK l))\/∃l,H p=ao (.dT l)))\/(T = "set" /\ ∃S n,H p=ao (.set S n))
 | _=>False
theorem zqK{pins:qO}{σ:St}{H:Hp}{s:ax}{T:String}{x:V}{v:ah}(I:Inv X pins σ H s)(r:RelV x v)(ty:tyV X.K T x H) :
  s.TypeIs v T/\∀a,v=bQ a->∃G,bi s.heap a=ao G/\G.dict=bj:=by
 cases x with
 | str z =>obtain⟨t,rfl⟩:=r;cases(show T = "str" from ty);exact⟨tV s z t,λ_ e=>nomatch e⟩
 | int i =>obtain⟨t,rfl⟩:=r;cases(show T = "int" from ty);exact⟨typeIs_int s i t,λ_ e=>nomatch e⟩
 | ref p =>
  cases r;rcases ty with⟨rfl,xs,J⟩|⟨rfl,o,l,hc,hd⟩|⟨rfl,l⟩|⟨rfl,S,n,l⟩;obtain⟨its,_,pl,_⟩:=I.list J;refine⟨pl.isList.typeIs,λa e=>?_⟩;cases e;obtain⟨o,n,e,c,hd,_⟩:=pl;exact⟨o,e,hd⟩;refine⟨⟨o,I.kIn p o l,hc⟩,λa e=>?_⟩;cases e;exact⟨o,I.kIn _ o l,hd⟩;have z:∃o,bi s.heap p=ao o/\o.ExactDict:=by rcases l with⟨C,l⟩|⟨C,l⟩;obtain⟨_,_,_,_,o,_,_,e,ex,_⟩:=I.hok p _ l;exact⟨o,e,ex⟩;obtain⟨_,_,_,_,o,_,_,e,ex,_⟩:=I.hok p _ l;exact⟨o,e,ex⟩
  obtain⟨o,e,ex⟩:=z;refine⟨⟨o,e,ex.1⟩,λa u=>?_⟩;cases u;exact⟨o,e,ex.2.1⟩;obtain⟨o,_,_,_,e,ex,_⟩:=I.hok p _ l;refine⟨⟨o,e,ex.1⟩,λa u=>?_⟩;cases u;exact⟨o,e,ex.2.1⟩
 | _=>exact e9 ty
def tBM0(K:qF)(T:String)(r:V->List V->Hp->VK->Prop)(to:TE):TE:=λσ H Q=>to σ H λx l=>tyV K T x l/\r x [] l Q
def tBM(K:qF)(T:String)(r:V->List V->Hp->VK->Prop)(to:TE)(t:TA):TE:=λσ H Q=>to σ H λx l=>tyV K T x l/\t σ l λxs o=>r x xs o Q
variable{o e:bg}{es:List bg}{to:TE}{t:TA}{name:Str}{apos L5:Pos}{T id:String}{r:V->List V->Hp->VK->Prop}
theorem zuM(pa:PlainAttrs T)(slot:Slot T name id)(J:typeOf (dL id)=pure (bU "method_descriptor")) (hm:MtR X id r) (S:PE X o to)
  (R:attributeBase o name X.env (eval o X.env)=eval o X.env:=by rfl) (U:(apos.endLine == jh L5)=du:=by rfl):PE X (f9 (jq o name apos) [] [] L5) (tBM0 X.K T r to):=by
 intro pins s σ H Q I h;refine wpAny_Call_method0_late R U (thn (S pins s σ H _ I h) λv s1 G=>?_);obtain⟨x,H1,N,L,ty,q1⟩:=G;obtain⟨Y,Z⟩:=zqK N L ty;exact⟨T,id,pa,slot,J,Y,Z,nP rfl (PySem.evalArgs_none (hm pins s1 σ H1 x [] v [] Q N L ja q1))⟩
theorem zuN(pa:PlainAttrs T)(slot:Slot T name id)(J:typeOf (dL id)=pure (bU "method_descriptor")) (hm:MtR X id r) (Y:PE X o to) (ha:PA X (e::es) t)
  (S:attributeBase o name X.env (eval o X.env)=eval o X.env:=by rfl)
  (Mn:((backTo L5 (starEach (e::es) X.env)).all (λx=>!x.1)&&(backToKw L5 (keywordEach [] X.env)).all (λx=>f6 x.1)
   && decide (fo (e::es)+fo ([]:List p7)+(if g5 ([]:List p7) then 0 else 1)<30))=du:=by rfl)
  (LQ:(apos.endLine == jh L5)=du:=by rfl) (hs:starEach (e::es) X.env=(dy,eval e X.env)::starEach es X.env:=by rfl) (Z:(backTo L5 (starEach es X.env)).any (·.1)=dy:=by rfl) :
  PE X (f9 (jq o name apos) (e::es) [] L5) (tBM X.K T r to t):=by
 intro pins s σ H Q I h;refine wpAny_Call_method_late S Mn LQ rfl (thn (Y pins s σ H _ I h) λv s1 G=>?_);obtain⟨x,H1,R,L,ty,q1⟩:=G;obtain⟨h1,h2⟩:=zqK R L ty;refine⟨T,id,pa,slot,J,h1,h2,?_⟩;have N:=ha L5 pins s1 σ H1 _ R q1;rw[hs]at N ⊢;refine nP (by show(dy||(backTo L5 (starEach es X.env)).any (·.1))=dy;rw[Z] <;> rfl) (Calls.evalArgs_plain ?_);exact thn N λus s2 ⟨U,H2,I2,r2,q2⟩=>hm pins s2 σ H2 x U v us Q I2 L r2 q2
end
def MtM(X:Cx)(id:String)(r:V->List V->Hp->VK->Prop):Prop :=
 ∀(pins:qO) (s:ax) (σ:St) (H:Hp) (x:V) (xs:List V) (v:ah) (us:List ah) (Q:VK),Inv X pins σ H s->RelV x v->Vals xs us->r x xs H Q ->
  wpAny (model X.prog X.w) X.A (call (dL id) (v::us)) (EP X pins σ Q) X.xe s
theorem Vals.one{x:V}{us:List ah}(h:Vals [x] us):∃u,us=[u]/\RelV x u:=by
 cases h with
 | cons r t=>cases t;exact⟨_,rfl,r⟩
section
variable{X:Cx}{pins:qO}{σ:St}{H:Hp}{s:ax}{l:ai}{xs ys:List V}
theorem Inv.lset{its its':List ah}{n:Nat}{f:Array ah->Array ah}{t':Nat}(I:Inv X pins σ H s)(G:H l=ao (.lst xs))
  (e:bi s.heap l=ao { cls:=bU "list",data:=im (bm its) n }) (hf:f (bm its)=bm its') (v:Vals ys its') (o:fo ys<=sizeLine) :
  Inv X pins σ (upd H l (.lst ys)) { s with heap:=s.heap.update l (ic f),toks:=t' }:=by
 have q:=PySem.IsL.update e f;rw[hf]at q;refine I.write (x:=l) (e:=l) (by rw[G];exact trivial) (dY rfl) (λJ u hb C=>b4 (cM s.heap (ic f) (gN hb)) C) ⟨_,q⟩ ?_;exact⟨o,its',_,v,q⟩
theorem Inv.lnew{its:List ah}{t':Nat}(I:Inv X pins σ H s)(o:Vals ys its)(u:fo ys<=sizeLine) :
  Inv X pins σ (upd H s.heap.objs.size (.lst ys)) { s with heap:=ee s.heap { cls:=bU "list",data:=im (bm its) },toks:=t' } :=
 I.laid (λ_ _ q=>aj _ q) (aC _) ⟨u,its,0,o,aB _ rfl⟩
theorem Inv.fresh(I:Inv X pins σ H s):H s.heap.objs.size=bj:=I.hok.fresh (aC _)
theorem Inv.lstM(I:Inv X pins σ H s)(o:H l=ao (.lst xs)):fo xs<=sizeLine/\∃(its:List ah) (n:Nat),Vals xs its/\fo xs=fo its/\bi s.heap l=ao { cls:=bU "list",data:=im (bm its) n }:=by obtain⟨z,its,n,r,e⟩:=I.hok l _ o;exact⟨z,its,n,r,r.length,e⟩
theorem zpI{n:Nat}(h:n<=sizeLine):iD n=dy:=by unfold iD;exact decide_eq_false (by lia)
end
section
variable{X:Cx}
def zrR:V->List V->Hp->VK->Prop:=λx u H Q=>∃l xs y,x=.ref l/\u=[y]/\H l=ao (.lst xs)/\fo xs<sizeLine/\Q .non (upd H l (.lst (xs++[y])))
theorem zfu:MtM X "list.append" zrR:=by intro pins s σ H x N v us Q I G J h;obtain⟨l,xs,y,rfl,rfl,C,S,q⟩:=h;cases G;obtain⟨u,rfl,L⟩:=J.one;obtain⟨z,its,n,r,R,e⟩:=I.lstM C;refine call_meets F.slot_list_append ⟨_,e,rfl⟩ F.entry_list_append (F.args_list_append_2 _ _) (PySem.list_append l (bm its) n u (by rw[aD];lia)) ⟨e,?_⟩;refine⟨.non,_,I.lset (its':=its++[u]) C e (by simp) (r.append (hH L ja)) ?_,rfl,q⟩;rw[aO,List.length_singleton];lia
def rCat:R2:=λx y H Q=>∃l b xs zs,x=.ref l/\y=.ref b/\H l=ao (.lst xs)/\H b=ao (.lst zs)/\fo xs+fo zs<=sizeLine/\∀p,H p=bj->Q (.ref p) (upd H p (.lst (xs++zs)))
theorem zu2:OpR X (binaryOp .Add) rCat:=by
 intro pins s σ H x y v u Q I J U h;obtain⟨l,b,xs,zs,rfl,rfl,R,Y,hz,q⟩:=h;cases J;cases U;obtain⟨z,its,n,r,Z,e⟩:=I.lstM R;obtain⟨z2,C,n2,S,G,N⟩:=I.lstM Y;refine PySem.P.add_list e N ?_ (by rw[aD,aD];lia);have L:bm its++bm C=bm (its++C):=by simp
 rw[L];exact⟨.ref _,_,I.lnew (t':=eA s) (r.append S) (by rw[aO];lia),rfl,q _ I.fresh⟩
end
end L2
namespace Att
open PySem PySem.W PySem.Calls PyProof.Rows
theorem zfA{P:tX}{h:bq}:∀(ns:List Int) (u:List ah),WellAll P h u (ns.map Bq)->g9 u ns:=by
 intro ns;induction ns with
 | nil =>intro u w;rw[fL]at w;cases w;exact .nil
 | cons n ns v =>
  intro u w;rw[aU]at w;cases w with
  | cons a b =>cases a;exact .cons _ _ (v _ b)
theorem zmr{l:OpenLaw}{n:Nat}(hn:l.most=ao n){P:tX}{h:bq}{args:List WData}{vals:List ah}
  (J:l.row.toRowW.claim.pre args=du) (G:WellAll P h vals args) :
  ∃a I ns,vals=[bQ a]/\args=[WData.list (ns.map Bq)]/\bi h a=ao { cls:=bU "list",data:=im (bm I) }/\g9 I ns/\fo ns<=n:=by
 have C:WShape.hasAll [] args [.list .int]=du:=(pre_splitW J).1;have hc:l.pre.holds [] { args:=args }=du:=(pre_splitW J).2;obtain⟨d,r,rfl,U,Y⟩:=hasAllW_cons C;obtain rfl:=hasAllW_nil Y;obtain⟨xs,rfl,L⟩:=hasW_list U;obtain⟨ns,rfl⟩:=items_int L;have u:fo ns<=n:=by
  unfold OpenLaw.pre at hc;have x:(WTm.not (.lt (.lit (Bq (n:Int))) (.len (.arg 0)))).holds [] { args:=[.list (ns.map Bq)] }=du:=by have x:=(holds_andW hc).1;rw[hn]at x;exact x
  have v:=condW_of x (w_not (w_lt w_lit (w_len_list (w_arg rfl))));rw[aG]at v;refine rR λq=>?_;have Z:(n:Int)<((fo ns:Nat):Int):=by lia
  first
   | (rw[decide_eq_true Z]at v;exact absurd v (by decide))
   | (simp at v;lia)
 cases G with
 | cons S w2 =>
  cases w2;cases S with
  | list N R=>exact⟨_,_,ns,rfl,rfl,N,zfA ns _ R,u⟩
theorem zmQ(l:OpenLaw)(args:List WData):l.row.toRowW.claim.post args (jF du) args=du :=
 postW_of (r:=l.row.toRowW) (X:=(du == du))
  (show yY [] (jF du) .bool=du by first|rfl|decide|simp[yY,WShape.arms,WShape.armsAll])
  (show(WTm.eq .res (.lit (jF du))).value [] { args:=args,res:=ao (jF du),after:=args }=ao (jF (du == du)) from w_eq_bool (w_res rfl) w_lit) rfl
theorem attach_call{l:OpenLaw}{n:Nat}{q:aK}{loose:List Str}{XP:(Str->Option ah)->bq->Prop}{YP:aV->bq->Prop}{d:DefRec}
  (hn:l.most=ao n) (N:d.params.defaults=[])
  (call:∀(w:aV) (s₀ v:ax) (mg U:qM) (J:ai) (o:Obj) (pm cd doc:ah) (a:ai) (C:List ah) (ns:List Int),
   Ground q loose [] XP w s₀ mg U v.heap->YP w v.heap ->
   bi v.heap J=ao o->io o=jE (docDef d.name d.params d.body d.scope pm cd doc)->v.heap.CodeRec cd d.name->mg d.name=ao (bQ J) ->
   bi v.heap a=ao { cls:=bU "list",data:=im (bm C) }->g9 C ns->fo ns<=n->ju v=#[] ->
   codeAny (model l.prog w) callerA (.call (bQ J) ⟨[bQ a],[]⟩) (λr s'=>r=.ok (jA (nJ du))/\OldK v.heap s'.heap/\s'.os=v.os/\lI s'.gens) v) :
  WalkO q loose XP YP l.row.toRowW d [] (λf C=>yZ f C):=by
 intro w s₀ v mg U G Y J o pm cd doc dV kV ho hd S hD R hg args vals as Mr hlay hrd Z hlo;obtain rfl:dV=kJ:=Dflts.none hD N;obtain rfl:kV=kJ:=Dflts.noKw hD;obtain⟨a,C,ns,rfl,rfl,I,x,L⟩:=zmr hn Mr Z;refine enter_call (iY (call w s₀ v mg U J o pm cd doc a C ns G Y ho (fd_plain hd) S R I x L hg) λr s' hq=>?_);obtain⟨rfl,h2,h3,h4⟩:=hq;exact⟨dY ⟨nJ du,jF du,[],rfl,λ_=>rfl,.bool du,zmQ l _,λ_=>⟨mO,λ_ hm=>(nomatch hm)⟩⟩,h2,h3,h4⟩
end Att
namespace L2
open PySem PySem.Spec PyProof.Rows
theorem zmc{u:List ah}{ns:List Int}(h:g9 u ns):Vals (ns.map V.int) u:=by
 induction h with
 | nil=>exact ja
 | cons n t h v=>exact hH ⟨t,rfl⟩ v
def Only(H:Hp):Prop:=∀b,H b=bj\/∃o xs,H b=ao (.frz o (.lst xs))
theorem zpT{P:aK}{w:aV}{K:qF}{mg mb:qM}{CX:CXT}{k:Nat}{fa a:ai}{fd:dU}{x:Str}{sp:Sp}{C:ax}{I:List ah}{ns:List Int}
  (KX:K.In C.heap) (U:C.heap.Ns mainGlobals mg) (hb:C.heap.Ns builtinsNs mb) (hbb:∀x:Str,x ≠ "__name__" -> mb x=bootBuiltins x) (Y:C.heap.NoLimit) (hg:ju C=#[])
  (ha:bi C.heap a=ao { cls:=bU "list",data:=im (bm I) }) (hi:g9 I ns) (hl:fo ns<=sizeLine) (hr:Room k callerA)
  (F:∀base:bq,K.In base->base.Ns mainGlobals mg->FnOk P w K mg base CX k fa fd [x] sp) (MD:∀(s:ax) (u:ah),tE s fd ⟨[u],[]⟩ [(x,u)])
  (hsp:∀H:Hp,Only H->SqL K H a (ns.map V.int)->sp [.ref a] H (λv _=>v=.bl du) λ_ _ _=>False)
  (hCX:∀H e s',CX [] H C (λ_ _ _=>False) e s'->False) :
  codeAny (model P w) callerA (.call (bQ fa) ⟨[bQ a],[]⟩) (λr s'=>r=.ok (jA (nJ du))/\OldK C.heap s'.heap/\s'.os=C.os/\lI s'.gens) C:=by
 have rv:=zmc hi;have S:=hi.length;have core:∀H:Hp,Only H->SqL K H a (ns.map V.int)->HOk P w H C.heap->(∀b,H b≠bj->b=a)->(H a≠bj->K.lookup a=bj) ->
   codeAny (model P w) callerA (.call (bQ fa) ⟨[bQ a],[]⟩) (λr s'=>r=.ok (jA (nJ du))/\OldK C.heap s'.heap/\s'.os=C.os/\lI s'.gens) C:=by
  intro H hO hS hok hA hK;have Mj:∀{b:ai} {o:Obj},bi C.heap b=ao o->H b=bj->bi (hidT C.heap H) b=ao o:=λe n=>zqa e n;have noA:∀{b:ai} {o:Obj} {R:Array eI} {L:Nat},bi C.heap b=ao o->io o=jt R L->H b=bj:=λ{b o R L} e d=>by
   cases q:H b with
   | none=>rfl
   | some u =>have e':b=a:=hA b (by rw[q];simp);subst e';rw[ha]at e;cases e;have d':Data.seq (bm I) _=Data.dict R L:=d;cases d'
  have G:∀{b:ai} {m:qM},C.heap.Ns b m->(hidT C.heap H).Ns b m:=λ{b m} ⟨o,R,L,e,d,r⟩=>⟨o,R,L,Mj e (noA e d),d,r⟩;have J:K.In (hidT C.heap H):=λb o e=>Mj (KX b o e) (by
   cases q:H b with
   | none=>rfl
   | some u =>have e':b=a:=hA b (by rw[q];simp);subst e';rw[hK (by rw[q];simp)]at e;cases e)
  have hM:Mod K mg (hidT C.heap H):=⟨J,G U,⟨mb,G hb,hbb⟩,let ⟨mc,h1,h2⟩:=Y;⟨mc,G h1,h2⟩⟩;have e0:Env0 P w K mg (hidT C.heap H) callerA [] C H:=⟨rfl,hM,λb o e=>zsp e,wa (znI _ _),trivial,λb hb=>absurd (show b∈([]:List ai) from hb) (by simp),hok,.of_eq hg⟩;refine iY ((F _ J (G U)).run callerA [] C H ⟨[bQ a],[]⟩ [bQ a] [.ref a] _ _ hr e0 (MD C (bQ a)) (hH rfl ja) (hsp H hO hS)) λr s' h=>?_;cases r with
  | error e=>exact(hCX H e s' h).elim
  | ok fl =>
   cases fl with
   | next=>exact e9 h
   | brk=>exact e9 h
   | cont=>exact e9 h
   | ret u =>
    obtain⟨v,H',os,bare,un,hok',r',q⟩:=h;have q':v=.bl du:=q;subst q';obtain rfl:u=nJ du:=r';refine⟨rfl,OldK.of_keep λb o e=>?_,os,bare⟩;cases q:H b with
    | none=>exact un.keep b o e q (by intro z;exact absurd (show b∈([]:List ai) from z) (by simp)) (by simp)
    | some u =>rcases hO b with z|⟨ob,xs,z⟩;rw[q]at z;cases z;have z2:=un.frzs b ob _ z;obtain⟨e1,_⟩:=hok b _ z;obtain⟨e2,_⟩:=hok' b _ z2;rw[e]at e1;cases e1;exact e2
 cases hk:K.lookup a with
 | some o =>have e:=KX a o hk;rw[ha]at e;cases e;refine core (λ_=>bj) (λ_=>dY rfl) (sr ⟨_,bm I,_,hk,rfl,rfl,rfl,by rw[aD,S];exact hl,by simpa using rv⟩) (λb u z=>by have Z:(bj:Option HO)=ao u:=z;cases Z) (λb z=>absurd rfl z) λz=>absurd rfl z
 | none =>refine core (λb=>if b=a then ao (.frz { cls:=bU "list",data:=im (bm I) } (.lst (ns.map V.int))) else bj) (λb=>?_) (dY (sr ⟨{ cls:=bU "list",data:=im (bm I) },if_pos rfl⟩)) (λb u z=>?_) (λb z=>?_) λ_=>hk;by_cases hb:b=a;exact sr ⟨_,_,if_pos hb⟩;exact dY (if_neg hb);by_cases hb:b=a;have Z:=(if_pos hb).symm.trans z;cases Z;subst hb;exact⟨ha,by rw[aG];exact hl,I,_,rv,ha⟩;have Z:=(if_neg hb).symm.trans z;cases Z;by_cases hb:b=a;exact hb;exact absurd (if_neg hb) z
def QU(s:e8):Arguments:=match s with
 | ji _ a _ _ _ _ _ _ _ _=>a
 | _=>{ posonlyargs:=[],args:=[],vararg:=bj,kwonlyargs:=[],kw_defaults:=[],kwarg:=bj,defaults:=[] }
def Qu(s:e8):List e8:=match s with
 | ji _ _ b _ _ _ _ _ _ _=>b
 | _=>[]
def JT(s:e8):fS:=match s with
 | ji _ _ _ _ _ _ sc _ _ _=>sc
 | _=>{ kind:=je,names:=[],isGenerator:=dy,isCoroutine:=dy }
abbrev CX0:CXT:=λ_ _ _ _ _ _=>False
abbrev E0:XK:=λ_ _ _=>False
theorem zuQ{X:Cx}:zoF CX0 X E0:=λ_ _ _ _ _ _ _ h=>e9 h
structure Fun(K:qF)(x qual:Str)(st:e8)(f:ai)(fd:dU):Prop where
 ex:∃(oc:ah) (od:Option ai) (kV doc pm:ah) (an:Option ai) (cdv ct:ah) (osl:Array (Option ah)),
  fd=eR x qual (QU st) (Qu st) (JT st) kJ kV doc pm an cdv ct/\K.lookup f=ao ⟨oc,od,jE fd,osl⟩/\i5 K cdv qual=true
 kp:iZ K (bQ f)=true
section
variable{P:aK}{w:aV}{K:qF}{mg:qM}{base:bq}
theorem Fun.ok{x qual:Str}{st:e8}{f:ai}{fd:dU}{N ps:List Str}{k:Nat}{G:Sp}(F:Fun K x qual st f fd)(S:UY N ps (JT st))(len:∀u H Q E,G u H Q E->fo u=fo ps)
  (L:∀(l:ah) (A:bw) (outer:List Env) (s:ax) (H:Hp) (u:List V) (Q:VK) (E:XK),Room k (A.deeper (envOfC qual (JT st) s.heap.objs.size f l))->G u H Q E ->
   ∃t,PSs (cxOf CX0 P w K mg base N qual (JT st) f l A outer s H E).nox (Qu st) t/\t { nx:=λ_ H'=>Q .non H',rt:=Q } (start N u) H):FnOk P w K mg base CX0 (k+1) f fd ps G:=by
 obtain⟨U,Y,kV,doc,pm,an,l,ct,J,rfl,R,C⟩:=F.ex;refine zzj R C S len λA outer s H u Q E I v=>?_;obtain⟨t,h,q⟩:=L l A outer s H u Q E I v;exact⟨t,h.nox,q⟩
theorem Fun.binds{x qual:Str}{st:e8}{f:ai}{fd:dU}{ps:List Str}(F:Fun K x qual st f fd)
  (h:∀(kV doc pm:ah) (an:Option ai) (u ct:ah) (us:List ah),fo us=fo ps->bindArgs (eR x qual (QU st) (Qu st) (JT st) kJ kV doc pm an u ct) ⟨us,[]⟩=pure (ps.zip us)):Binds K fd ps []:=by
 obtain⟨G,I,kV,doc,pm,an,u,ct,v,rfl,J,C⟩:=F.ex;exact .all (h kV doc pm an u ct)
theorem zrn{x qual:Str}{st:e8}{f:ai}{G:ah}{I an:Option ai}{C:Array (Option ah)}{kV doc pm v ct:ah}(l:K.lookup f=ao ⟨G,I,jE (eR x qual (QU st) (Qu st) (JT st) kJ kV doc pm an v ct),C⟩)
  (c:i5 K v qual=du) (k:iZ K (bQ f)=du):Fun K x qual st f (eR x qual (QU st) (Qu st) (JT st) kJ kV doc pm an v ct):=⟨⟨G,I,kV,doc,pm,an,v,ct,C,rfl,l,c⟩,k⟩
variable{X:Cx}
theorem pv(i:Nat){x:Str}{pos:Pos}(o:X.N[i]?=ao x:=by rfl)(u:Vis (d0 X.env) x:=by walk_at "V")(hd:Ndb x:=by decide)
  (l:Ncd x:=by decide):PE X (bv x pos) (tVar i):=Ub o u hd l
end
theorem iteF{A B:Prop}(h:B):if dy=du then A else B:=by rw[if_neg aT];exact h
theorem iteT{A B:Prop}(h:A):if du=du then A else B:=by rw[if_pos rfl];exact h
def Same(H H':Hp):Prop:=∀b o,H b=ao o->H' b=ao o
theorem Same.refl(H:Hp):Same H H:=λ_ _ h=>h
end L2
namespace L2
open PySem PySem.Spec PyProof PyProof.Rows
def closed(env:Env):List (Str×fk)->List (Str×ai)->List (Str×ai)
 | [],acc=>acc
 | (n,k)::r,acc=>closed env r (if (k == cV)=du then(n,(env.cells.lookup n).getD 0)::acc else acc)
theorem zfS{env:Env}:∀(l:List (Str×fk)) (acc:List (Str×ai)),(∀x∈l,x.2=cV->∃c,env.cells.lookup x.1=ao c) ->
  (forIn l acc λx __s=>if (x.snd == cV)=du then do
    let c <- cellOf env x.fst
    pure (iK ((x.fst,c)::__s))
   else pure (iK __s):Sem (List (Str×ai)))=pure (closed env l acc)
 | [],acc,_=>rfl
 | (n,k)::r,acc,h=>by
  have u:=λa=>zfS (env:=env) r a λx hx=>h x (cC _ hx);rw[lh];by_cases e:(k == cV)=du;obtain⟨c,hc⟩:=h (n,k) cP (by simpa using e);have o:xF n (h8 env)=ao c:=hc;have C:cellOf env n=pure c:=by unfold cellOf;rw[o]
  simp only[e,if_true,C,pure_bind];rw[u];conv=>rhs;unfold closed
  simp only[e,if_true,o,fc];have v:(k == cV)=dy:=by simpa using e
  simp only[v,bz,if_false,pure_bind];rw[u];conv=>rhs;unfold closed
  simp only[v,bz,if_false]
theorem zcv{scope:fS}{env:Env}(h:∀x∈cr scope,x.2=cV->∃c,env.cells.lookup x.1=ao c):closureFor scope env=pure (closed env (cr scope) []):=by simp only[closureFor];rw[zfS (cr scope) [] h];rfl
theorem zgQ{env:Env}:∀(l:List (Str×fk)) (acc:List (Str×ai)),(∀x∈l,x.2=cV->∃c,env.cells.lookup x.1=ao c) ->
  (∀x c,acc.lookup x=ao c->env.cells.lookup x=ao c)->∀x c,(closed env l acc).lookup x=ao c->env.cells.lookup x=ao c
 | [],acc,_,ha=>ha
 | (n,k)::r,acc,h,ha=>by
  unfold closed;refine zgQ r _ (λx hx=>h x (cC _ hx)) λx c=>?_;by_cases e:(k == cV)=du;obtain⟨d,hd⟩:=h (n,k) cP (by simpa using e);have hd':xF n (h8 env)=ao d:=hd;simp only[e,if_true,hd',fc];intro q;rw[eJ]at q;by_cases ex:(x == n)=du;simp only[ex]at q;have C:x=n:=by simpa using ex
  cases q;rw[C];exact hd';have v:(x == n)=dy:=by simpa using ex
  simp only[v]at q;exact ha x c q;have G:(k == cV)=dy:=by simpa using e
  simp only[G,bz,if_false];exact ha x c
theorem zgS{env:Env}:∀(l:List (Str×fk)) (acc:List (Str×ai)) (x:Str),(∃c,acc.lookup x=ao c)->∃c,(closed env l acc).lookup x=ao c
 | [],_,_,h=>h
 | (n,k)::r,acc,x,h=>by
  unfold closed;refine zgS r _ x ?_;by_cases e:(k == cV)=du;simp only[e,if_true];rw[eJ];cases(x == n) with
  | true=>exact⟨_,rfl⟩
  | false=>exact h
  have v:(k == cV)=dy:=by simpa using e
  simp only[v,bz,if_false];exact h
theorem zgR{env:Env}:∀(l:List (Str×fk)) (acc:List (Str×ai)) (x:Str),(x,cV)∈l->∃c,(closed env l acc).lookup x=ao c
 | [],_,_,h=>nomatch h
 | (n,k)::r,acc,x,h=>by unfold closed;rcases ay.mp h with e|h;cases e;refine zgS r _ _ ?_;have v:(cV == cV)=du:=rfl;simp only[v,if_true];rw[eJ];simp;exact zgR r _ x h
theorem lookup_mem{α:Type}{l:List (Str×α)}{x:Str}{v:α}(h:l.lookup x=ao v):(x,v)∈l:=by
 induction l with
 | nil=>simp at h
 | cons p r o =>
  obtain⟨n,w⟩:=p;rw[eJ]at h;by_cases e:(x == n)=du;simp only[e]at h;cases h;have u:x=n:=by simpa using e
  rw[u];exact cP;have C:(x == n)=dy:=by simpa using e
  simp only[C]at h;exact cC _ (o h)
def UR(env:Env)(p:Str×fk):Str×fk:=if (p.2 == cV&&env.scope.kind == je&&jd env p.1 == ao kT)=du then(p.1,kT) else p
theorem zmG(env:Env)(p:Str×fk):(UR env p).1=p.1:=by unfold UR;by_cases c:(p.2 == cV&&env.scope.kind == je&&jd env p.1 == ao kT)=du;rw[if_pos c];rw[if_neg c]
def kin(env:Env)(x:Str):Option fk->Option fk
 | some cV=>if (env.scope.kind == je&&jd env x == ao kT)=du then ao kT else ao cV
 | o=>o
theorem zmF(env:Env)(x:Str)(k:fk):ao (UR env (x,k)).2=kin env x (ao k):=by
 unfold UR;by_cases c:(k == cV&&env.scope.kind == je&&jd env x == ao kT)=du;rw[if_pos c];rw[aF,aF]at c;have C:k=cV:=by simpa using c.1.1
 subst C;unfold kin;rw[if_pos (by rw[aF];exact⟨c.1.2,c.2⟩)];rw[if_neg c];cases k with
 | free =>have:¬(env.scope.kind == je&&jd env x == ao kT)=du:=λz=>c (by have v:(cV == cV)=du:=rfl;rw[v,cD];exact z);unfold kin;rw[if_neg this]
 | _=>rfl
theorem zg3(scope:fS)(env:Env):cr (relabel scope env)=scope.names.map (UR env):=by show scope.names.map _=_;refine gD λp _=>?_;obtain⟨n,k⟩:=p;rfl
theorem zgm(env:Env):∀(l:List (Str×fk)) (x:Str),(l.map (UR env)).lookup x=kin env x (l.lookup x)
 | [],_=>rfl
 | (n,k)::r,x=>by
  have v:=zgm env r x;have G:UR env (n,k)=(n,(UR env (n,k)).2):=gK (zmG env (n,k)) rfl;rw[aU,G,eJ,eJ];by_cases e:(x == n)=du;have C:x=n:=by simpa using e
  subst C;simp only[beq_self_eq_true];exact zmF env x k;have I:(x == n)=dy:=by simpa using e
  simp only[I];exact v
theorem zeG(scope:fS)(env:Env)(x:Str):(relabel scope env).names.lookup x=kin env x (scope.names.lookup x):=by rw[zg3];exact zgm env _ x
def tbH(A B:Hp):Hp:=λb=>match A b with
 | some (.tbl q)=>ao (.tbl q)
 | _=>B b
theorem zmh{A B:Hp}(h:∀b q,A b=ao (.tbl q)->B b=ao (.tbl q)):tbH A B=B:=funext λb=>by unfold tbH;split;rename_i q e;exact(h b q e).symm;rfl
abbrev capN(X:Cx)(capt:List Nat):List Str:=capt.map λi=>X.N.getD i lW
abbrev capS(capt:List Nat)(σ:St):St:=capt.map λi=>σ.getD i bj
abbrev QE(own:List Str):St:=own.map λ_=>bj
def celO(scope:fS)(C:ai):List (Str×ai):=cellsFrom (C+1) (cr scope) []
def ownCl(X:Cx)(scope:fS)(C:ai):List (Str×ai):=celO scope C++closed X.env (cr scope) []
abbrev Q8(X:Cx)(scope:fS)(own:List Str)(capt:List Nat)(C:ai)(s₀:ax)(H₀:Hp)(fp:List ai):Cx :=
 { X with N:=own++capN X capt,s₀:=s₀,H₀:=tbH X.H₀ H₀,env:=compEnvC scope (ownCl X scope C) C X.env,outer:=X.stack,stack:=X.stack,ex:=fp,fn:=λy=>scope.names.lookup y == ao kT,pn:=[],xe:=λ_ _=>False }
abbrev Fam(X:Cx)(scope:fS)(own:List Str)(capt:List Nat)(P:Cx->Prop):Prop:=∀C s₀ H₀ fp,P (Q8 X scope own capt C s₀ H₀ fp)
theorem zor{cl:List (Str×ai)}(names:List (Str×fk)):∀(n:Nat) (acc:List (Str×ai)),cellsFrom n names (acc++cl)=cellsFrom n names acc++cl:=by
 induction names with
 | nil=>exact λ_ _=>rfl
 | cons a r l =>obtain⟨x,k⟩:=a;intro n acc;unfold cellsFrom;by_cases z:(k == kT)=du;rw[if_pos z,if_pos z];exact l (n+1) ((x,n)::acc);rw[if_neg z,if_neg z];exact l n acc
theorem zoq{x:Str}{c:ai}(names:List (Str×fk)):∀(n:Nat) (acc:List (Str×ai)),(x,c)∈cellsFrom n names acc->(x,kT)∈names\/(x,c)∈acc:=by
 induction names with
 | nil=>exact λ_ _ h=>sr h
 | cons a r o =>obtain⟨y,k⟩:=a;intro n acc h;unfold cellsFrom at h;by_cases z:(k == kT)=du;rw[if_pos z]at h;rcases o _ _ h with h|h;exact dY (jk _ h);rcases ay.mp h with e|h;cases e;rw[eq_of_beq z];exact dY (jc _);exact sr h;rw[if_neg z]at h;exact(o _ _ h).imp (jk _) id
theorem Wo{scope:fS}{h':bq}{C n b c:Nat}{x:Str}(l:tF h' (C+1) (celO scope C))(u:n<=C)(z:(x,c)∈celO scope C)(o:b<n):c≠b:=λe=>by subst e;exact gy _ (aI (aI o u) (i7 (l.empty _ _ z).2))
structure JB(scope:fS)(own:List Str)(capt:List Nat)(X:Cx):Prop where
 kind:scope.kind=je
 nov:∀y∈cr scope,y.2=cV->(y.1,kT)∉cr scope
 names:∀y∈cr scope,y.2=.local->scope.names.lookup y.1=ao .local
 frees:∀y∈cr scope,y.2=cV->jd X.env y.1=ao kT\/jd X.env y.1=ao cV
 caps:∀k∈capt,scope.names.lookup (X.N.getD k lW)=ao cV
theorem getD_some{α:Type}{l:List (Option α)}{k:Nat}{v:α}(h:l.getD k bj=ao v):l[k]?=ao (ao v):=by
 rw[bE]at h;cases e:l[k]? with
 | none=>rw[e]at h;cases h
 | some o=>rw[e]at h;simp at h;rw[h]
section
variable{X:Cx}{scope:fS}{own:List Str}{capt:List Nat}
theorem JB.cells(S:JB scope own capt X)(ok:X.Ok):∀x∈cr scope,x.2=cV->∃c,X.env.cells.lookup x.1=ao c:=λx hx hf=>ok.has x.1 (S.frees x hx hf)
theorem JB.sub(S:JB scope own capt X)(ok:X.Ok):∀x c,(closed X.env (cr scope) []).lookup x=ao c->X.env.cells.lookup x=ao c :=
 zgQ (cr scope) [] (S.cells ok) (λx c h=>nomatch (show(bj:Option ai)=ao c from h))
theorem JB.cell(S:JB scope own capt X)(ok:X.Ok){C:ai}{x:Str}{c:ai}(h:(ownCl X scope C).lookup x=ao c):(x,c)∈celO scope C\/X.env.cells.lookup x=ao c:=by
 rw[ownCl,iR]at h;cases e:(celO scope C).lookup x with
 | some d =>rw[e]at h;cases h;exact dY (mem_of_lookup e)
 | none =>rw[e]at h;exact sr (S.sub ok x c h)
theorem JB.free(S:JB scope own capt X){C:ai}{x:Str}(h:scope.names.lookup x=ao cV):∃d,(closed X.env (cr scope) []).lookup x=ao d/\(ownCl X scope C).lookup x=ao d:=by
 obtain⟨d,hd⟩:=zgR (env:=X.env) (cr scope) [] x (lookup_mem h);refine⟨d,hd,?_⟩;rw[ownCl,iR];cases e:(celO scope C).lookup x with
 | none=>exact hd
 | some q =>rcases zoq _ _ _ (mem_of_lookup e) with z|z;exact absurd z (S.nov _ (lookup_mem h) rfl);cases z
theorem zlg{x:Str}(h:(relabel scope X.env).names.lookup x=ao kT\/(relabel scope X.env).names.lookup x=ao cV):scope.names.lookup x=ao kT\/scope.names.lookup x=ao cV:=by
 rw[zeG]at h;cases q:scope.names.lookup x with
 | none=>rw[q]at h;rcases h with z|z <;> cases z
 | some k =>
  rw[q]at h;cases k with
  | free=>exact sr rfl
  | cell=>exact dY rfl
  | _=>rcases h with z|z <;> cases z
theorem ztu{pins:qO}{σ:St}{H₀:Hp}{s₀:ax}{C:ai}{J:List ai}{h':bq}(S:JB scope own capt X)(I:Inv X pins σ H₀ s₀)(hf:∀b∈J,FpOk X pins H₀ b)(N:∀b∈J,b<be s₀.heap.objs)(v:be s₀.heap.objs<=C)(G:tF h' (C+1) (celO scope C)) :
  (Q8 X scope own capt C s₀ H₀ J).Ok:=by
 have old:∀{x y c},(x,c)∈celO scope C->X.env.cells.lookup y=ao c->False:=λh hz=>by obtain⟨w,q⟩:=I.cell _ _ hz;exact Wo G v h q.lt rfl
 unfold Q8;rw[zmh I.base.tbls];refine⟨I.ok.mod,S.kind,I.ok.glob,I.ok.blt,v,λx y c Y Z=>?_,λx hk=>?_,λx c z h=>?_,I.ok.hd,I.ok.frames,dY rfl,λb hb=>?_,I.bs,ba I.ok.bsz I.sz,λb o e hb=>?_,λb hb z=>?_,I.stack,I.stkFree⟩;rcases S.cell I.ok Y with a|a <;> rcases S.cell I.ok Z with b|b;exact name_of_addr G.apart a b;exact(old a b).elim;exact(old b a).elim;exact I.ok.inj x y c a b;rcases zlg hk with q|q;have:=gO (cr scope) (C+1) [] (dY q);show ∃c,(ownCl X scope C).lookup x=ao c;rw[ownCl,iR];obtain⟨d,hd⟩:=iB.mp this;exact⟨d,by rw[celO,hd];rfl⟩;exact let ⟨d,_,e⟩:=S.free q;⟨d,e⟩;have q:=gO (cr scope) (C+1) [] (dY (eq_of_beq z));obtain⟨d,hd⟩:=iB.mp q;have h:(ownCl X scope C).lookup x=ao c:=h;rw[ownCl,iR,celO,hd]at h;cases h;have:=(G.empty _ _ (mem_of_lookup hd)).2;exact ba v (i7 this);obtain⟨f0,f1,f2,L,f4,U⟩:=hf b hb;have R:=N b hb;refine⟨aW (aI R v),λx c e=>?_⟩;rcases S.cell I.ok e with z|z;exact Wo G v z R;exact f4 x c z;obtain⟨f0,f1,f2,L,f4,U⟩:=hf b hb;rcases L with z|z;exact I.ok.noex b o e z;exact absurd (aI (aE (I.ok.bs b o e).1) z) (gy _);obtain⟨f0,f1,f2,L,f4,U⟩:=hf b hb;rcases ay.mp (I.stkSub b z) with q|q;exact f1 q;exact f2 q
theorem zok{J:HO}{pins:qO}{σ:St}{H₀:Hp}{s₀:ax}{fp:List ai}{h':bq}{D C:ai}(S:JB scope own capt X)(I:Inv X pins σ H₀ s₀)(hf:∀b∈fp,FpOk X pins H₀ b)(hfp:∀b∈fp,b<be s₀.heap.objs)
  (Y:be s₀.heap.objs<=D) (U:D<C) (old:∀b o,bi s₀.heap b=ao o->bi h' b=ao o) (hns:h'.Ns C (λ_=>bj)) (ck:tF h' (C+1) (celO scope C)) (R:JS X.prog X.w (upd H₀ D J) h' D J) :
  Inv (Q8 X scope own capt C s₀ H₀ fp) [] (QE own++capS capt σ) (upd H₀ D J) { s₀ with heap:=h' }:=by
 have hC:be s₀.heap.objs<=C:=eQ (fe Y U);have ok:=ztu (own:=own) (capt:=capt) S I hf hfp hC ck;have hn:H₀ D=bj:=I.hok.fresh Y;unfold Q8 at ok ⊢;rw[zmh I.base.tbls]at ok ⊢;refine⟨ok,rfl,I.bare,Un.laid old Y hn,⟨_,hns,λi x v e1 L e3=>?_⟩,λx c e=>?_,?_,λx c e=>?_,λp hp=>absurd (show p∈([]:qO) from hp) (by simp),I.hok.laid (o:=J) old Y R,(by show(QE own++capS capt σ).length=fo (own++capN X capt);simp[QE,capS,capN])⟩;have N:fo (QE own)=fo own:=aG ..;by_cases hi:i<fo own;rw[cy (by rw[N];exact hi)]at L;unfold QE at L;rw[bK]at L;cases q:own[i]? with
 | none=>rw[q]at L;cases L
 | some z=>rw[q]at L;cases L
 have Z:fo own<=i:=rR hi;have G:(own++capN X capt)[i]?=ao x:=e1;rw[bp Z]at G;rw[bp (by rw[N];exact Z),N]at L;unfold capN at G;unfold capS at L;rw[bK]at G L;cases q:capt[i - fo own]? with
 | none=>rw[q]at G;cases G
 | some k =>
  rw[q]at G L;have ex:X.N.getD k lW=x:=aX G;have ev:σ.getD k bj=ao v:=aX L;have hv:=getD_some ev;have hlt:k<fo X.N:=by rw[<- I.len];exact(aq.mp hv).1
  have hx:X.N[k]?=ao x:=by rw[bE,aw hlt]at ex;rw[aw hlt];exact congrArg ao ex
  have L0:=S.caps k (aQ q);rw[ex]at L0;have Mh:=S.frees _ (lookup_mem L0) rfl;obtain⟨m,hm,hl⟩:=I.loc;obtain⟨u,r,l⟩:=hl k x v hx hv (h7 Mh (λz=>sr (dY z)) λz=>sr (sr z));refine⟨u,r,sr ⟨?_,?_⟩⟩;have e:=zeG scope X.env x;rw[L0]at e;show(relabel scope X.env).names.lookup x=ao kT\/(relabel scope X.env).names.lookup x=ao cV;rw[e];unfold kin;by_cases c:(X.env.scope.kind == je&&jd X.env x == ao kT)=du;rw[if_pos c];exact dY rfl;rw[if_neg c];exact sr rfl;rcases l with⟨z,_⟩|⟨_,c,hc,o,R,hod⟩;rcases Mh with y|y <;> (have y':jd X.env x=_:=y;rw[z]at y';cases y');obtain⟨d,hd,hd2⟩:=S.free (C:=C) L0;have:=S.sub I.ok x d hd;rw[hc]at this;cases this;exact⟨c,hd2,o,old _ _ R,hod⟩
 rcases S.cell I.ok e with z|z;exact⟨bj,(ck.empty _ _ z).1⟩;obtain⟨v,o,R,hd⟩:=I.cell x c z;exact⟨v,o,old _ _ R,hd⟩;show upd H₀ D J C=bj;rw[Ju (lJ U)];exact I.hok.fresh hC;show upd H₀ D J c=bj;rcases S.cell I.ok e with z|z;rw[Ju (Wo ck (aC _) z U)];exact I.hok.fresh (ba hC (i7 (ck.empty _ _ z).2));obtain⟨v,o,R,hd⟩:=I.cell x c z;rw[Ju (aW (aI (aE R) Y))];exact I.freeC x c z
theorem zqz{pins LY:qO}{σ σ':St}{H₀ H':Hp}{s₀ s':ax}{N:List ai}{l:bq}{C:ai}(I:Inv X pins σ H₀ s₀)(hf:∀b∈N,FpOk X pins H₀ b)(hC:be s₀.heap.objs<=C)
  (J:Inv (Q8 X scope own capt C s₀ H₀ N) LY σ' H' s') (sb:gn C s'.heap l):Inv X pins σ H' { s' with heap:=l }:=by
 have G:H' C=bj:=J.free;have x:∀b o,bi s₀.heap b=ao o->b≠C:=λb o e=>aW (aI (aE e) hC);have u:Un (frs X.stack) N (tbH X.H₀ H₀) H' s₀.heap s'.heap:=J.base;rw[zmh I.base.tbls]at u;have u2:Un (frs X.stack) N H₀ H' s₀.heap l:=by refine⟨λb o q n R L=>b4 (sb.2 b (x b o q)) (u.keep b o q n R L),λb o q n R L=>?_,u.free,λb o q L=>?_,u.tups,u.frzs,u.tbls⟩;obtain⟨sl,e⟩:=u.slot b o q n R L;exact⟨sl,b4 (sb.2 b (x b o q)) e⟩;obtain⟨U,e⟩:=u.there b o q L;exact⟨U,b4 (sb.2 b (x b o q)) e⟩
 have hok:HOk X.prog X.w H' l:=λb S e=>by refine(J.hok b S e).stay (λc v hc q=>b4 (sb.2 c ?_) q) (λ_ q=>q) (λ_ _ q=>q) λ_ _ _ q=>q;rintro rfl;rcases hc with z|z;subst z;rw[G]at e;cases e;rw[G]at z;cases z
 refine I.call' (s':={ s' with heap:=l }) J.os u2 hok J.bare λb hb=>?_;obtain⟨f0,f1,f2,Z,f4,Y⟩:=hf b hb;exact⟨Z,f1,f4,Y⟩
end
def PTs(Y:Cx)(ifs:List bg)(t:TT):Prop :=
 ∀(pins:qO) (s:ax) (σ:St) (H:Hp) (Q:Bool->Hp->Prop),Inv Y pins σ H s->t σ H Q ->
  wpAny (model Y.prog Y.w) Y.A (forIn ifs du λc r=>if r=du then do let ok <- isTrue c Y.env (eval c Y.env);pure (iK ok) else pure (iK r)) (TP Y pins σ Q) Y.xe s
def tYes:TT:=λ_ H Q=>Q du H
theorem zrU{Y:Cx}:PTs Y [] tYes:=λ_ _ _ H _ I h=>wpAny_tests_nil ⟨H,I,h⟩
theorem zrT{Y:Cx}{c:bg}{t:TT}(h:PT Y c t):PTs Y [c] t:=λpins s σ H Q I q=>wpAny_tests_one (h pins s σ H Q I q)
abbrev NoX:ah->ax->Prop:=λ_ _=>False
def Wk:St->St->Prop
 | [],[]=>True
 | none::r,_::r'=>Wk r r'
 | some v::r,o::r'=>o=ao v/\Wk r r'
 | _,_=>False
theorem Wk.weak:∀{σ σ':St},Wk σ σ'->fo σ=fo σ'/\∀(i:Nat) v,σ[i]?=ao (ao v)->σ'[i]?=ao (ao v)
 | [],[],_=>⟨rfl,λ_ _ h=>by simp at h⟩
 | none::r,o::r',h=>by
  obtain⟨a,b⟩:=Wk.weak (σ:=r) (σ':=r') h;refine⟨by simp[a],λi v e=>?_⟩;cases i with
  | zero=>simp at e
  | succ i=>simpa using b i v (by simpa using e)
 | some w::r,o::r',h=>by
  obtain⟨h0,l⟩:o=ao w/\Wk r r':=h;obtain⟨a,b⟩:=Wk.weak l;refine⟨by simp[a],λi v e=>?_⟩;cases i with
  | zero=>rw[h0];simpa using e
  | succ i=>simpa using b i v (by simpa using e)
 | none::_,[],h=>e9 h
 | some _::_,[],h=>e9 h
 | [],_::_,h=>e9 h
abbrev TM:=St->Hp->(Hp->Prop)->Prop
def Wl(e:bg)(d:Nat)(tg iter:bg)(ifs:List bg)(acc:ah)(env:Env)(nx:Sem Fin->Sem Fin):Prop:=∀it,compTurn e d it acc env=(do
 standAt iter.pos
 match <- pyNext it with
 | none=>pure (.done A3)
 | some v =>
  letOwnedTupleGo tg it v
  assign tg env v
  let mut ok:=true
  for c in ifs do
   if ok then ok <- isTrue c env (eval c env)
  if ok then nx (again (jm e d it acc env)) else again (jm e d it acc env))
def IsC(e:bg):Prop:=∀(A:bw) (P:aK) (w:aV) (d:Nat) (it acc:ah) (env:Env),(A.under (jm e d it acc env)=A/\(model P w).den (jm e d it acc env)=(compTurn e d it acc env).onRaise λx=>do noteFrame x env;theTreesLotGoes x) /\
 (A.under (jy e d it acc env)=A/\(model P w).den (jy e d it acc env)=(compStart e d it acc env).onRaise λx=>do noteFrame x env;standAt theWindowsPlace)/\(Code.compLoop e d it acc env).quiet=true
def PM(Y:Cx)(nx:Sem Fin->Sem Fin)(l:TM):Prop:=∀(pins:qO) (s:ax) (σ:St) (H:Hp) (N:Hp->Prop) (k:Sem Fin) (Q:Fin->ax->Prop) (E:qV),Inv Y pins σ H s->l σ H N ->
 (∀s' H',Inv Y pins σ H' s'->N H'->wpAny (model Y.prog Y.w) Y.A k Q E s')->wpAny (model Y.prog Y.w) Y.A (nx k) Q E s
def Zz(g:TG)(tt:TT)(G:TM)(σ:St)(J:It)(C:Hp)(Q:Hp->Prop):Prop:=∃(n:Nat) (W:Nat->Hp->Prop),W 0 C/\∀i o,W i o ->
 (i=n->J.stop i o/\Q o)/\(i<n->J.go i o/\∀x v,J.yld i o x v->g x σ v λl I=>Wk σ l/\tt l I λb u=>if b=du then G l u (W (i+1)) else W (i+1) u)
section
variable{Y:Cx}{e:bg}{d:Nat}{tg iter:bg}{ifs:List bg}{acc:ah}{nx:Sem Fin->Sem Fin}{g:TG}{tt:TT}{te:TM}{pins:qO}{σ:St}{s:ax}{H1:Hp}{Q:Hp->Prop}{R:tR->ax->Prop}
theorem zkz(hC:IsC e)(hxe:Y.xe=NoX)(hc:Y.calm=du)(hT:Wl e d tg iter ifs acc Y.env nx)(hg:PG Y tg g)(ht:PTs Y ifs tt)(hm:PM Y nx te){it:ai}{v:List ai}{tn:Nat->bq->Prop}{J:It}(T:Turn Y.prog Y.w Y.K tg J v it tn)
  (Mb:∀{H':Hp},(∀b∈v,H' b=bj)->∀b∈v,FpOk Y pins H' b) (I:Inv Y pins σ H1 s) (st:tn 0 s.heap) (fr:∀b∈v,H1 b=bj) (h:Zz g tt te σ J H1 Q) (hR:∀s' H',Inv Y pins σ H' s'->Q H'->R (.ok A3) s') :
  codeAny (model Y.prog Y.w) Y.A (jm e d (bQ it) acc Y.env) R s:=by
 obtain⟨n,W,w0,turn⟩:=h;refine codeAny_loop (hC Y.A Y.prog Y.w _ _ _ _).2.2 (λm s'=>∃i H',i+m=n/\Inv Y pins σ H' s'/\tn i s'.heap/\(∀b∈v,H' b=bj)/\W i H') ?_ n ⟨0,H1,fM _,I,st,fr,w0⟩;rintro m s4 ⟨i,H4,him,I4,Z,fr4,w4⟩;rw[(hC Y.A Y.prog Y.w _ _ _ _).1.1,(hC Y.A Y.prog Y.w _ _ _ _).1.2];refine wpAny_noted (c8 (E:=NoX) ?_ (λ_ _ q=>q) λ_ _ z=>e9 z);rw[hT];refine ae (fO (ae ?_));obtain⟨t1,t2⟩:=turn i H4 w4;by_cases hi:i=n
 ·obtain⟨stop,qn⟩:=t1 hi;refine thn (T.done Y rfl rfl rfl hc i pins s4 _ H4 NoX I4 (Mb fr4) Z stop) λr s5 l=>?_;obtain⟨hr,I5⟩:=l;subst hr;exact ak (hR _ _ I5 qn)
 obtain⟨go,step⟩:=t2 (by omega);refine thn (T.item Y rfl rfl rfl hc i pins s4 _ H4 NoX I4 (Mb fr4) Z go) λr s5 l=>?_;obtain⟨u,hr,h5⟩:=l;subst hr;refine ae (thn h5 λ_ s6 l=>ae ?_);obtain⟨x,H6,I6,r6,y6,G,fr6⟩:=l;have a1:=hg _ s6 _ H6 x u _ (I6.pinned (Mb fr6) (T.obj _ _ G)) r6 (step x H6 y6);rw[hxe]at a1;refine thn a1 λ_ s7 l=>ae ?_;obtain⟨C,H7,I7,wk,q7⟩:=l;obtain⟨wl,wv⟩:=wk.weak;have again:∀{N:ax} {S:Hp},Inv Y (pins++ZP v s6.heap) C S N->W (i+1) S->∃m',m'<m/\∃i H',i+m'=n/\Inv Y pins σ H' N/\tn i N.heap/\(∀b∈v,H' b=bj)/\W i H':=λ{N S} U w8=>by have pn:∀{b o},b∈v->bi s6.heap b=ao o->_:=λ{b o} hb e=>U.pin (b,o) (cI _ (cI _ (zem hb e)));refine⟨m - 1,by omega,i+1,S,by omega,(U.unpinned).weak wl wv,T.keep _ _ _ G λb hb o e=>(pn hb e).1,λb hb=>?_,w8⟩;obtain⟨o,e,d⟩:=T.obj _ _ G b hb;exact(pn hb e).2.1
 have a2:=ht _ s7 C H7 _ I7 q7;rw[hxe]at a2;refine thn a2 λok N l=>?_;obtain⟨S,U,q8⟩:=l;cases ok with
 | false=>exact ak ⟨rfl,again U (by simpa using q8)⟩
 | true=>exact hm _ N C S _ _ _ _ U (by simpa using q8) λs' H' I' w'=>ak ⟨rfl,again I' w'⟩
theorem zhV{prog:aK}{w:aV}{A:bw}{it:ah}{env:Env}(u:IsC e)(v:(clausesOf e)[d]?=ao ⟨tg,iter,ifs,0⟩)
  (h0:codeAny (model prog w) A (jm e d it acc env) R s)
  (h:wpAny (model prog w) A (pyIter it) (λl s'=>codeAny (model prog w) A (jm e d l acc env) R s') (notedBy (model prog w) A env λx s'=>R (.error x) s') s) :
  codeAny (model prog w) A (jy e d it acc env) R s:=by
 refine sR ?_;rw[(u A prog w _ _ _ _).2.1.1,(u A prog w _ _ _ _).2.1.2];refine wpAny_notedAt ?_;unfold compStart;rw[v];show wpAny _ _ (PySem.ask >>= _) _ _ s;refine ae (wpAny_askSetting (wpAny_ite ?_));split;first
  | exact ae (ak (ak (oV (u A prog w _ _ _ _).2.2 h0)))
  | exact ak (oV (u A prog w _ _ _ _).2.2 h0)
 first
  | exact ae (dG (ae (fO (ae (c8 h (λl s' h'=>ak (oV (u A prog w _ _ _ _).2.2 h')) λ_ _ x=>x)))))
  | (refine ae (dG ?_);show wpAny _ _ (standAt iter.pos >>= _) _ _ s;exact ae (fO (ae (c8 h (λl s' h'=>ak (oV (u A prog w _ _ _ _).2.2 h')) λ_ _ x=>x))))
def nxN(e:bg)(d:Nat)(it2:bg)(acc:ah)(env:Env)(k:Sem Fin):Sem Fin:=do
 let x <- eval it2 env
 standAt it2.pos
 let x <- foldedSetIterable it2 env x;let _ <- runOwn (jy e d (<- holding [x] (pyIter x)) acc env) env
 k
theorem zrZ{G:TI}(S:IsC e)(u:Y.xe=NoX)(hc:Y.calm=du)(C:(clausesOf e)[d]?=ao ⟨tg,iter,ifs,0⟩)(U:Wl e d tg iter ifs acc Y.env nx)(hs:Fsi Y iter)(hi:PI Y tg iter G)(hg:PG Y tg g)(ht:PTs Y ifs tt)(hm:PM Y nx te) :
  PM Y (nxN e d iter acc Y.env) (λσ H N=>G σ H λJ H1=>Zz g tt te σ J H1 N):=by
 intro pins s σ H N k Q E I h hk;have a:=hi pins s σ H _ I h;rw[u]at a;unfold nxN;refine ae (c8 a (λx s1 h1=>ae (fO (ae (iW (hs x) (ae (cu (c8 h1 (λitv s2 h2=>?_) λ_ _ z=>e9 z))))))) λ_ _ z=>e9 z);obtain⟨it,fp,tn,J,H2,rfl,I2,T,l,f2,lw⟩:=h2;have loop:codeAny (model Y.prog Y.w) Y.A (jm e d (bQ it) acc Y.env) (λr s'=>r=.ok A3/\wpAny (model Y.prog Y.w) Y.A k Q E s') s2 :=
  zkz S u hc U hg ht hm T (λhn b hb=>⟨hn b hb,(f2 b hb).2⟩) I2 l (λb hb=>(f2 b hb).1) lw λs' H' Z q=>⟨rfl,hk s' H' Z q⟩
 refine ae (wpAny_runOwn (iY (zhV S C loop (T.self Y.A 0 _ _ _ l loop)) λr s7 v=>?_));obtain⟨rfl,v⟩:=v;exact v
end
def NA(P:aK)(w:aV)(u:Sem ah)(z:ai->HO->Prop):Prop:=∀(A:bw) (E:qV) (s:ax) (Q:qV),sysModules<be s.heap.objs ->
 (∀l:Obj,l.isFreed=dy->(∀h':bq,bi h' s.heap.objs.size=ao l->∃o,z s.heap.objs.size o/\∀H',JS P w H' h' s.heap.objs.size o)->Q (bQ s.heap.objs.size) { s with heap:=ee s.heap l })->wpAny (model P w) A u Q E s
structure VN(e tg iter:bg)(ifs:List bg)(scope:fS)(Lc:Sem ah)(nx:ah->Env->Sem Fin->Sem Fin):Prop where
 nof:IsC e
 cl:∃gs,clausesOf e=⟨tg,iter,ifs,0⟩::gs
 turn:∀acc env,Wl e 0 tg iter ifs acc env (nx acc env)
 ev:∀env,∃p,eval e env=comprehension e scope env p Lc dy (eval iter env) bj
 ev2:∀env u,∃p,evalThenUse e env u=do let _ <- comprehension e scope env p Lc dy (eval iter env) (ao u)
section
theorem zlx{M:tJ}{A:bw}{E:qV}{s:ax}{scope:fS}{globals:ai}{cl:List (Str×ai)}{qual:Str}{outer:Env}{Q:Env->ax->Prop}
  (l:∀h',h'.Ns s.heap.objs.size (λ_=>bj)->(∀b o,bi s.heap b=ao o->bi h' b=ao o)->tF h' (be s.heap.objs+1) (celO scope s.heap.objs.size) ->
   Q { scope,locals:=be s.heap.objs,globals,cells:=celO scope s.heap.objs.size++cl,qual,func:=bj,code:=outer.code,frame:=outer.frame,builtins:=outer.builtins } { s with heap:=h' }) :
  wpAny M A (newFunctionEnv scope globals cl [] qual bj kJ (ao outer)) Q E s:=by
 simp only[newFunctionEnv,Option.isSome_some,if_true];refine ae (wpAny_alloc (ae (wpAny_layCells _ (λname kind cells=>by cases hkc:kind == kT <;> simp[hkc]) _ _ _ _ ?_)));have sz:(ee s.heap { cls:=bU "dict",data:=jt #[] }).objs.size=be s.heap.objs+1:=eS ..;have ok:=cellsFrom_ok (cr scope) (ee s.heap { cls:=bU "dict",data:=jt #[] }) (be s.heap.objs+1) [] ⟨λ_ _ u=>(nomatch u),mO⟩ (by rw[sz];exact aC _);dsimp only;rw[show cellsFrom (ee s.heap { cls:=bU "dict",data:=jt #[] }).objs.size (cr scope) cl=celO scope s.heap.objs.size++cl by rw[sz];exact zor (cl:=cl) (cr scope) _ []];rw[sz]at ok;rw[i8];refine ae (ak (ak (l _ ?_ (λb o e=>sS _ _ b o (aj _ e)) ok)));exact(Heap.Ns.new s.heap (bU "dict")).keeps (sS _ _)
variable{X:Cx}{e tg iter:bg}{ifs:List bg}{scope:fS}{Lc:Sem ah}{nx:ah->Env->Sem Fin->Sem Fin}{z:ai->HO->Prop}{own:List Str}{capt:List Nat}{wi:TI}{g:TG}{tt:TT}{te:ai->TM}
theorem zoj(S:JB scope own capt X){pins:qO}{σ:St}{u:Hp}{s2:ax}{o:List ai}{C:ai}{h':bq}(I:Inv X pins σ u s2)(f2:∀b∈o,FpOk X pins u b)(v:∀b∈o,b<be s2.heap.objs)(J:be s2.heap.objs<=C)(L:tF h' (C+1) (celO scope C)){H':Hp}(R:∀b∈o,H' b=bj):∀b∈o,FpOk (Q8 X scope own capt C s2 u o) [] H' b:=λb hb=>by obtain⟨Y,g1,g2,g3,U,Z⟩:=f2 b hb;have G:=v b hb;refine⟨R b hb,aW (aI G J),λz=>?_,dY hb,λx c e=>?_,λp N=>absurd (show p∈([]:qO) from N) (by simp)⟩;rcases ay.mp (I.stkSub b z) with q|q;exact g1 q;exact g2 q;rcases S.cell I.ok e with z|z;exact Wo L J z G;exact U x c z
def ztX(z:ai->HO->Prop)(own:List Str)(capt:List Nat)(wi:TI)(g:TG)(tt:TT)(te:ai->TM):TE:=λσ H Q=>wi σ H λJ l=>∀D o,l D=bj->z D o->Zz g tt (te D) (QE own++capS capt σ) J (upd l D o) (Q (.ref D))
theorem zkZ(hc:X.calm=du)(S:JB scope own capt X)(k:VN e tg iter ifs scope Lc nx)(na:NA X.prog X.w Lc z)(hg:Fam X scope own capt λY=>PG Y tg g)(ht:Fam X scope own capt λY=>PTs Y ifs tt)(hm:∀D,Fam X scope own capt λY=>PM Y (nx (bQ D) Y.env) (te D))
  {pins:qO} {σ:St} {Q:VK} {itv:ah} {s2:ax} {E:qV} {RR:ah->ai->tR->ax->Prop}
  (h2:PIE X pins σ tg (λJ H1=>∀D ho,H1 D=bj->z D ho->Zz g tt (te D) (QE own++capS capt σ) J (upd H1 D ho) (Q (.ref D))) itv s2)
  (hR:∀D C s' H',(∃m,s'.heap.Ns C m)->(∀N,gn C s'.heap N->Inv X pins σ H' { s' with heap:=N })->H' C=bj->FpOk X pins H' C->Q (.ref D) H'->RR (bQ D) C (.ok A3) s') :
  wpAny (model X.prog X.w) X.A Lc (λacc s₃=>wpAny (model X.prog X.w) X.A (newFunctionEnv scope X.env.globals (closed X.env (cr scope) []) [] X.env.qual bj kJ (ao X.env)) (λv Z =>
   codeAny (model X.prog X.w) X.A (jy e 0 itv acc { v with scope:=relabel scope X.env }) (RR acc (hJ v)) Z) E s₃) E s2:=by
 obtain⟨it,fp,tn,J,H2,rfl,R,T,st2,f2,rd⟩:=h2;have U:∀b∈fp,b<be s2.heap.objs:=λb hb=>by obtain⟨o,e,_⟩:=T.obj 0 _ st2 b hb;exact aE e
 refine na _ _ _ _ (lK (by decide) (R.mod.glob.keeps R.bk).lt) λob lv hob=>zlx λu G hk ck=>?_;have g0:bi (ee s2.heap ob) s2.heap.objs.size=ao ob:=aB _ lv;have hC:(ee s2.heap ob).objs.size=be s2.heap.objs+1:=eS ..;have old:∀b o,bi s2.heap b=ao o->bi u b=ao o:=λb o e=>hk b o (aj _ e);obtain⟨ho,hz,hok⟩:=hob u (hk _ _ g0);dsimp only at G ck ⊢;generalize hCe:(ee s2.heap ob).objs.size=C at G hC ck ⊢;have I:be s2.heap.objs<=C:=by omega
 have st1:=T.keep _ _ _ st2 λb hb o e=>old b o e;have loop:codeAny (model X.prog X.w) X.A (jm e 0 (bQ it) (bQ s2.heap.objs.size) (compEnvC scope (ownCl X scope C) C X.env)) (RR (bQ s2.heap.objs.size) C) { s2 with heap:=u } :=
  zkz (Y:=Q8 X scope own capt C s2 H2 fp) k.nof rfl hc (k.turn _ _) (hg _ _ _ _) (ht _ _ _ _) (hm _ _ _ _ _) T (zoj S R f2 U I ck) (zok (D:=be s2.heap.objs) S R f2 U (aC _) (by rw[hC];exact Nat.lt_succ_self _) old G ck (hok _)) st1 (λb hb=>by rw[Ju (aW (U b hb))];exact(f2 b hb).1)
   (rd _ ho (R.hok.fresh (aC _)) hz) λs5 H4 I5 q=>by obtain⟨m,hn,_⟩:=I5.loc;exact hR _ _ s5 H4 ⟨m,hn⟩ (λN sb=>zqz R f2 I I5 sb) I5.free (R.fpOk I I5.free) q
 obtain⟨gs,hcl⟩:=k.cl;exact zhV k.nof (by rw[hcl];rfl) loop (T.self X.A 0 _ _ _ st1 loop)
theorem zr5(hc:X.calm=du)(S:JB scope own capt X)(k:VN e tg iter ifs scope Lc nx)(na:NA X.prog X.w Lc z)(hi:PI X tg iter wi)(Z:Fam X scope own capt λY=>PG Y tg g)(L:Fam X scope own capt λY=>PTs Y ifs tt)(U:∀D,Fam X scope own capt λY=>PM Y (nx (bQ D) Y.env) (te D))
  (R:Fsi X iter):PE X e (ztX z own capt wi g tt te):=by
 intro pins s σ H Q I h;obtain⟨gs,o⟩:=k.cl;obtain⟨p,ev⟩:=k.ev X.env;rw[ev];refine mX (use:=bj) o R (zcv (S.cells I.ok)) S.kind S.names (thn (hi pins s σ H _ I h) λv s1 G=>thn G λx s2 N=>?_);refine zkZ (RR:=λacc C=>compPost (model X.prog X.w) X.A X.xe bj (EP X pins σ Q) acc C) hc S k na Z L U N λD C s' H' u J _ _ q=>?_;obtain⟨m,u⟩:=u;exact⟨m,u,λl sb=>⟨.ref D,H',J l sb,rfl,q⟩⟩
theorem zrV(hc:X.calm=du)(S:JB scope own capt X)(k:VN e tg iter ifs scope Lc nx)(na:NA X.prog X.w Lc z)(hi:PI X tg iter wi)(hg:Fam X scope own capt λY=>PG Y tg g)(ht:Fam X scope own capt λY=>PTs Y ifs tt)(hm:∀D,Fam X scope own capt λY=>PM Y (nx (bQ D) Y.env) (te D))
  (hs:Fsi X iter) {i:Nat} {x:Str} {l Ln:Pos} (hN:X.N.Nodup) (G:X.N[i]?=ao x) (hx:Loc (d0 X.env) x) (u:swapsWith e (ao (bv x l)) Ln.line X.env=pure du)
  (hf:Fnl X x):PS X (ii [bv x l] e Ln) (tAsg (ztX z own capt wi g tt te) (UO i)):=by
 intro pins s σ H D I h;obtain⟨gs,Z⟩:=k.cl;obtain⟨p,ev⟩:=k.ev2 X.env (assign (bv x l) X.env);rw[exec_Assign_Name_used _ _ _ _ u];refine ae (fO (ae ?_));rw[ev];refine ae (c8 (mX (use:=ao (assign (bv x l) X.env)) (Q:=λ_ s'=>SP X pins D A3 s') Z hs (zcv (S.cells I.ok)) S.kind S.names (thn (hi pins s σ H _ I h) λv s1 h1=>thn h1 λitv s2 h2=>?_)) (λ_ s' hq=>ak (ak hq)) λ_ _ e=>e);refine zkZ (RR:=λacc C=>compPost (model X.prog X.w) X.A X.xe (ao (assign (bv x l) X.env)) (λ_ s'=>SP X pins D A3 s') acc C) (Q:=λv H'=>UO i v σ H' D.nx) hc S k na hg ht hm h2 λD' C s' H' hn J hCn fp q=>?_;obtain⟨m,hn⟩:=hn;obtain⟨f0,f1,f2,f3,f4,f5⟩:=fp;have Is:Inv X pins σ H' s':=J s'.heap (AG _ _);refine pP (zhU Is hN G hx (show RelV (.ref D') (bQ D') from rfl) (λL U sb=>?_) hf);obtain⟨a,sb,ha⟩:=sb;have neA:C≠a:=by rcases ha with rfl|ha;exact f1;exact λz=>f4 x a ha z.symm
 exact⟨m,hn.sameBut sb neA,λh' R=>⟨_,H',U.turned (t':=eA L) (λb o hb e=>b4 (R.2 b hb) e) f0 f1 f3 f4 f5,q⟩⟩
end
def WT(scope outer:fS)(N:List Str)(capt:List Nat):Bool :=
 scope.kind == je&&scope.names.all (λy=>!(y.2 == cV)||!scope.names.contains (y.1,kT))&&scope.names.all (λy=>!(y.2 == .local)||scope.names.lookup y.1 == ao .local) &&
 scope.names.all (λy=>!(y.2 == cV)||(outer.names.lookup y.1 == ao kT||outer.names.lookup y.1 == ao cV))&&capt.all (λk=>scope.names.lookup (N.getD k lW) == ao cV)
theorem JB.of{X:Cx}{scope:fS}{own:List Str}{capt:List Nat}(h:WT scope (d0 X.env) X.N capt=du):JB scope own capt X:=by simp only[WT,aF,bM,iL,i9,beq_iff_eq,beq_eq_false_iff_ne]at h;obtain⟨⟨⟨⟨J,G⟩,C⟩,I⟩,x⟩:=h;refine⟨J,λy u e=>?_,λy u e=>jr (C y u) λz=>z e,λy u e=>jr (I y u) λz=>z e,x⟩;have:=jr (G y u) λz=>z e;simpa using this
end L2
namespace L2
open PySem PySem.Spec PyProof.Rows
section
variable{X:Cx}
theorem zu0:OpR X (compareOp .Is) (λx y H Q=>∃a b,x=.bl a/\y=.bl b/\Q (.bl (a == b)) H):=by intro pins s σ H x y v u Q I o C h;obtain⟨a,b,rfl,rfl,q⟩:=h;cases o;cases C;exact is_bool ⟨.bl (a == b),H,I,rfl,q⟩
theorem zm6:OpR X (compareOp .IsNot) (λx y H Q=>∃a b,x=.bl a/\y=.bl b/\Q (.bl (a != b)) H):=by intro pins s σ H x y v u Q I C G h;obtain⟨a,b,rfl,rfl,q⟩:=h;cases C;cases G;exact isnot_bool ⟨.bl (a != b),H,I,rfl,q⟩
def kitB(t T:String):Option Bool:=if (bU t == bU T)=du then ao du else if PySem.W.kitMeta T=du then(fastBuiltinMro t).map (·.contains (bU T)) else bj
theorem Y5(K:qF)(t T:String):tQ K (bU t) (bU T)=kitB t T:=rfl
inductive Ty (H:Hp):V->String->Prop where
 | non:Ty H .non "NoneType"
 | bl (x:Bool):Ty H (.bl x) "bool"
 | int (i:Int):Ty H (.int i) "int"
 | str (x:Str):Ty H (.str x) "str"
 | lst {a:ai} {xs:List V} (e:H a=ao (.lst xs)):Ty H (.ref a) "list"
 | tup {a:ai} {xs:List V} (e:H a=ao (.tup xs)):Ty H (.ref a) "tuple"
 | dK {a:ai} {kvs:List (Key×V)} (e:H a=ao (.dK kvs)):Ty H (.ref a) "dict"
theorem Ty.of{K:qF}{H:Hp}{v:V}{t:String}(h:Ty H v t):TyOf K H v (bU t):=by
 cases h with
 | non=>exact .non
 | bl x=>exact .bl x
 | int i=>exact .int i
 | str x=>exact .str x
 | lst e=>exact .lst e
 | tup e=>exact .tup e
 | dK e=>exact .dK e
theorem zqB:bootBuiltins "isinstance" = ao (dL "isinstance"):=by decide +kernel
theorem boot_int:bootBuiltins "int" = ao (bU "int"):=by decide +kernel
theorem zgT:bootBuiltins "bool" = ao (bU "bool"):=by decide +kernel
theorem Qn:bootBuiltins "tuple" = ao (bU "tuple"):=by decide +kernel
theorem WS:bootBuiltins "str" = ao (bU "str"):=by decide +kernel
theorem UF:bootBuiltins "all" = ao (dL "all"):=by decide +kernel
theorem zfW:bootBuiltins "any" = ao (dL "any"):=by decide +kernel
theorem Yh:bootBuiltins "min" = ao (dL "min"):=by decide +kernel
theorem Vy:bootBuiltins "max" = ao (dL "max"):=by decide +kernel
theorem Qs:bootBuiltins "len" = ao (dL "len"):=by decide +kernel
theorem zox:bootBuiltins "sum" = ao (dL "sum"):=by decide +kernel
theorem zfX:∀{bs:List Bool}{us:List ah},Vals (bs.map V.bl) us->LSm.BoolsAre us bs
 | [],_,h=>by cases h;exact .nil
 | b::bs,_,h=>by
  cases h with
  | cons r t =>cases(show _=nJ b from r);exact .cons b (zfX t)
theorem Uv(hc:X.calm=du):JX X (dL "all") (λxs H Q=>∃(a:ai) (bs:List Bool),xs=[.ref a]/\SqL X.K H a (bs.map V.bl)/\Q (.bl (bs.all id)) H):=by
 intro pins s σ H xs us Q I r h;obtain⟨a,bs,rfl,S,q⟩:=h;cases r with
 | cons L N =>
  cases N;cases(show _=bQ a from L);obtain⟨its,J,p,Y⟩:=I.list S;have hb:=zfX J;have o:s.heap.IsList a (bm its):=p.isList;have x:a<be s.heap.objs:=by obtain⟨_,e,_⟩:=o;exact aE e
  refine call_all_walk (ft o ?_);refine⟨be s.heap.objs,[be s.heap.objs,a],[be s.heap.objs],be its.toArray,_,_,λi=>(bs[i]?).getD du,rfl,tY (A:=X.A.in1) (I.ok.hd hc) _ a (aW x) (bm its),
   ⟨⟨_,aB _ rfl,rfl,rfl⟩,o.push _⟩,λi v s' U Z G C=>?_,λh' tk R=>?_⟩
  obtain⟨b,e,rfl⟩:=hb.get i v (by simpa using G);simp only[e,fc]at C;exact cg C;have e:((dw its.toArray.size).all λi=>(bs[i]?).getD du)=bs.all id:=by rw[aD,hb.length];exact LSm.range_all bs
  rw[e];exact⟨.bl _,H,I.kept (pf R),rfl,q⟩
theorem zfU(hc:X.calm=du):JX X (dL "any") (λxs H Q=>∃(a:ai) (bs:List Bool),xs=[.ref a]/\SqL X.K H a (bs.map V.bl)/\Q (.bl (bs.any id)) H):=by
 intro pins s σ H xs us Q I r h;obtain⟨a,bs,rfl,S,q⟩:=h;cases r with
 | cons L N =>
  cases N;cases(show _=bQ a from L);obtain⟨its,J,p,Y⟩:=I.list S;have hb:=zfX J;have o:s.heap.IsList a (bm its):=p.isList;have x:a<be s.heap.objs:=by obtain⟨_,e,_⟩:=o;exact aE e
  refine call_any_walk (ft o ?_);refine⟨be s.heap.objs,[be s.heap.objs,a],[be s.heap.objs],be its.toArray,_,_,λi=>(bs[i]?).getD dy,rfl,tY (A:=X.A.in1) (I.ok.hd hc) _ a (aW x) (bm its),
   ⟨⟨_,aB _ rfl,rfl,rfl⟩,o.push _⟩,λi v s' U Z G C=>?_,λh' tk R=>?_⟩
  obtain⟨b,e,rfl⟩:=hb.get i v (by simpa using G);simp only[e,fc]at C;exact cg C;have e:((dw its.toArray.size).any λi=>(bs[i]?).getD dy)=bs.any id:=by rw[aD,hb.length];exact LSm.range_any bs
  rw[e];exact⟨.bl _,H,I.kept (pf R),rfl,q⟩
mutual
inductive U8 (H:Hp):V->af->Prop
 | non:U8 H .non fq
 | bl (b:Bool):U8 H (.bl b) (dQ b)
 | int (i:Int):U8 H (.int i) (bu i)
 | str (x:Str):U8 H (.str x) (cH x)
 | lst {a:ai} {xs:List V} {ds:qD}:H a=ao (.lst xs)->Vi H xs ds->U8 H (.ref a) (sJ ds)
 | tup {a:ai} {xs:List V} {ds:qD}:H a=ao (.tup xs)->Vi H xs ds->U8 H (.ref a) (lV ds)
inductive Vi (H:Hp):List V->qD->Prop
 | nil:Vi H [] []
 | cons {v:V} {vs:List V} {d:af} {ds:qD}:U8 H v d->Vi H vs ds->Vi H (v::vs) (d::ds)
end
def Zy(i j:Int):Prop:=0<j/\j<2 ^ 128
theorem WD:OpR X (binaryOp .FloorDiv) (rI Zy λi j=>.int (i / j)):=opI λi j _ _ _ _ _ hc q=>by
 have G:(0:Int)<j:=hc.1;have x:j<2 ^ 128:=hc.2;refine floordiv_int (by omega) (by rw[mh i (by omega)];exact q) (dY (PyProof.noPylong_of_log2 ?_));have u:j.natAbs<2 ^ 128:=by omega
 have C:j.natAbs.log2<128:=(Nat.log2_lt (by omega)).mpr u;omega
end
def Pl(X:Cx)(l:List bg):Prop:=∀pos,(backTo pos (starEach l X.env)).any (·.1)=false
def Hd(X:Cx):List bg->Prop
 | []=>True
 | e::r=>starEach (e::r) X.env=(dy,eval e X.env)::starEach r X.env/\Pl X r
structure PB(X:Cx)(es:List bg)(t:TA):Prop where
 pa:PA X es t
 pl:Pl X es
 hd:Hd X es
section
variable{X:Cx}{es:List bg}{t:TA}{te:TE}
theorem Ua:PB X [] tNil:=⟨UW,λ_=>rfl,trivial⟩
theorem QN(h:PE X e te)(l:PB X es t)(o:starEach (e::es) X.env=(dy,eval e X.env)::starEach es X.env):PB X (e::es) (QW te t) :=
 ⟨Ue h l.pa o,λpos=>by rw[o];have:(backTo pos ((dy,eval e X.env)::starEach es X.env)).any (·.1)=(dy||(backTo pos (starEach es X.env)).any (·.1)):=rfl;rw[this,l.pl pos];rfl,o,l.pl⟩
theorem pb_i{j pos}(l:PB X es t):PB X (jf (.int i) j pos::es) (QW (tC (.int i)) t):=QN JN l rfl
theorem pb_v(i:Nat){x:Str}{pos:Pos}(o:PB X es t)(u:X.N[i]?=ao x:=by rfl)(v:Vis (d0 X.env) x:=by walk_at "V")(hd:Ndb x:=by rfl)
  (l:Ncd x:=by rfl):PB X (bv x pos::es) (QW (tVar i) t):=QN (Ub u v hd l) o rfl
theorem zsa(h:PE X (bv x pos) te)(l:PB X es t):PB X (bv x pos::es) (QW te t):=QN h l rfl
theorem zq5{a b c d}(h:PE X (jj a b c d) te)(l:PB X es t):PB X (jj a b c d::es) (QW te t):=QN h l rfl
theorem zuP{a b c d}(h:PE X (jg a b c d) te)(l:PB X es t):PB X (jg a b c d::es) (QW te t):=QN h l rfl
variable{e:bg}{x:Str}{p pos:Pos}
theorem zr1{x1}(h:PB X es t):PE X (i4 es x1 pos) (tTup t):=zuF h.pa
theorem zmW(h:PB X es t):PE X (.List es pos) (tLst t):=zuL h.pa
theorem V2{id:String}{r:List V->Hp->VK->Prop}(hc:JX X (dL id) r)(G:X.mg x=bj)(J:bootBuiltins x=ao (dL id))(h:PB X (e::es) t)(v:Gl X x:=by rfl)(I:x ≠ "__name__":=by decide) (o:Ndb x:=by rfl) :
  PE X (f9 (bv x p) (e::es) [] pos) (tCB r t):=zpy hc v G J h.pa I o h.hd.1 (h.hd.2 pos)
theorem VR(hc:JX X (bU T) r)(v:X.mg x=bj)(I:bootBuiltins x=ao (bU T))(h:PB X (e::es) t)(u:Gl X x:=by rfl)(G:x ≠ "__name__":=by decide) (o:Ndb x:=by rfl) :
  PE X (f9 (bv x p) (e::es) [] pos) (tCB r t):=zif hc u v I h.pa G o h.hd.1 (h.hd.2 pos)
end
end L2
namespace Bd
open PySem L2
structure Def(K:qF)(mg:qM)(x:Str)(st:e8)(ps:List Str)(f:ai)(fd:dU):Prop where
 F:Fun K x x st f fd
 b:Binds K fd ps []
 m:mg x=ao (bQ f)
section
variable{X:Cx}{k:Nat}{f:ai}{fd:dU}{ps:List Str}{sp:Sp}{x:Str}{p pos:Pos}{e:bg}{es:List bg}{t:TA}{st:e8}
theorem zr3(D:Def X.K X.mg x st ps f fd)(G:FnOk X.prog X.w X.K X.mg X.base CX0 k f fd ps sp)(u:Room k X.A)(h:PB X (e::es) t)(v:Gl X x:=by rfl)
  (o:Ndb x:=by rfl):PE X (f9 (bv x p) (e::es) [] pos) (ztZ sp [] E0 t):=zr6 G u v D.m D.F.kp D.b ja zuQ h.pa o h.hd.1 (h.hd.2 pos)
theorem zys(l:X.mg x=bj)(u:bootBuiltins x=ao (bU T))(v:Gl X x:=by rfl)(o:x ≠ "__name__":=by decide) (hd:Ndb x:=by rfl):PE X (bv x p) (tC (.ty T)) :=
 zr7 v l u rfl o hd
end
theorem iteP{c A B:Prop}[Decidable c](hc:c)(h:A):if decide c=du then A else B:=by rw[decide_eq_true hc];exact iteT h
theorem iteN{c A B:Prop}[Decidable c](hc:¬c)(h:B):if decide c=du then A else B:=by rw[decide_eq_false hc];exact iteF h
theorem zvW{c A B:Prop}[Decidable c](o:c->A)(l:¬c->B):if decide c=du then A else B:=by by_cases h:c;exact iteP h (o h);exact iteN h (l h)
theorem zfY{α:Type}{xs:List α}{k:Int}{v:α}(h0:0<=k)(h:xs[ap k]?=ao v):atI xs k=ao v:=by obtain⟨n,rfl⟩:=nq h0;exact ztC h
theorem JE(k:Nat):(0:Int)<2 ^ k:=by
 have:(0:Nat)<2 ^ k:=Nat.two_pow_pos k;have e:((2 ^ k:Nat):Int)=(2:Int) ^ k:=by simp
 omega
theorem zmP(h:k<=64):(2:Int) ^ k<2 ^ 128:=by
 have:(2:Nat) ^ k<2 ^ 128:=Nat.pow_lt_pow_right (by decide) (by omega);have e:((2 ^ k:Nat):Int)=(2:Int) ^ k:=by simp
 omega
theorem zdP(h:k<=64):(2:Int) ^ k<=2 ^ 64:=by
 have:(2:Nat) ^ k<=2 ^ 64:=Nat.pow_le_pow_right (by decide) (by omega);have e:((2 ^ k:Nat):Int)=(2:Int) ^ k:=by simp
 omega
theorem zo5(h:H p=bj):Same H (upd H p o):=λb u e=>by rw[Ju (QV e h)];exact e
end Bd
namespace L2
open PySem PySem.Spec PyProof.Rows
theorem ztD(k h:Nat):(k*2 ^ h) &&& (2 ^ h)=(k % 2)*2 ^ h:=by
 have l:k*2 ^ h=k <<< h:=dv (nt k h);have o:(2:Nat) ^ h=1 <<< h:=by rw[nt,xI]
 have u:(k &&& 1) <<< h=k <<< h &&& 1 <<< h:=Nat.shiftLeft_and_distrib;rw[l];conv=>lhs;rw[o]
 rw[<- u,Nat.and_one_is_mod,nt]
theorem zj9(h:Nat)(u:0<=k):bW (k*2 ^ h) (2 ^ h)=if k % 2=0 then k*2 ^ h+2 ^ h else k*2 ^ h - 2 ^ h:=by
 obtain⟨n,rfl⟩:=nq u;have l:((2 ^ h:Nat):Int)=(2:Int) ^ h:=by simp
 have v:((n:Int)*2 ^ h)=((n*2 ^ h:Nat):Int):=by rw[Int.natCast_mul,l]
 rw[bitXor_and,v,<- l,bitAnd_pp (l9 _) (l9 _)];have x:ap ((n*2 ^ h:Nat):Int) &&& ap ((2 ^ h:Nat):Int)=(n % 2)*2 ^ h:=by rw[gr,gr];exact ztD n h
 rw[x];rcases Nat.mod_two_eq_zero_or_one n with z|z;have:((n:Int)) % 2=0:=by lia
 rw[if_pos this,z];simp;have:¬((n:Int)) % 2=0:=by lia
 rw[if_neg this,z,xI];lia
def HAND:af:=sI [(fq,fq)]
def SCR(ns:List Int):af:=sI [(fq,sJ (ns.map bu))]
def ZM(H:Hp)(hd:ai)(n:Int):Prop:=∃d m t:Int,H hd=ao (.lst [.int d,.int m,.int t])/\0<=m/\m<2 ^ 62/\0<=t/\t<=n
def StT(K:qF)(a:ai)(xs:List V):Prop :=
 ∃(o:Obj) (its:Array ah) (n:Nat),K.lookup a=ao o/\jo o=bU "tuple" /\ io o=im its n/\be its<=sizeLine/\Vals xs (nK its)/\o.dict=bj
theorem StT.sq{K:qF}{H:Hp}{a:ai}{xs:List V}(h:StT K a xs):SqT K H a xs:=by obtain⟨o,its,n,C,v,u,x,l,_⟩:=h;exact sr ⟨o,its,n,C,v,u,x,l⟩
def hsT(k:Int×Int):Int:=reduceHash (uB [hashInt k.1,hashInt k.2])
def entZ(z:(Int×Int)×ai×V)(e:eI):Prop:=e.hash=hsT z.1/\e.key=bQ z.2.1/\RelV z.2.2 e.val
abbrev ZT:=List ((Int×Int)×ai×V)
def ZDO(a:ai)(zs:ZT)(v:Nat):HO:=.ext λh=>(a == sysModules)=dy/\fo zs<=sizeLine/\(zs.map (·.1)).Nodup/\∃o l,bi h a=ao o/\o.ExactDict/\io o=jt l v/\cA entZ zs (nK l)
abbrev KT2:=List ((Int×Int)×af)
def entI(z:Int×V)(e:eI):Prop:=e.hash=hashInt z.1/\(∃t,e.key=rL z.1 t)/\RelV z.2 e.val
def KDO(a:ai)(zs:List (Int×V))(v:Nat):HO:=.ext λh=>(a == sysModules)=dy/\fo zs<=sizeLine/\(zs.map (·.1)).Nodup/\∃o l,bi h a=ao o/\o.ExactDict/\io o=jt l v/\cA entI zs (nK l)
def blkT(k:Int×Int):af:=lV [bu k.1,bu k.2]
def ZH(l:List (Int×af)):List (af×af):=l.map λq=>(bu q.1,q.2)
def J2(l:KT2):List (af×af):=l.map λq=>(blkT q.1,q.2)
def EXC(C:ai):af:=sI [(fq,bu (C:Int))]
def EXO(a C:ai):HO:=.ext λh=>∃o,bi h a=ao o/\jo o=bQ C/\∃u,io o=fm u
mutual
inductive Rep (K:qF)(hd:Option ai)(O:ai->Prop)(H:Hp):V->af->Prop
 | non:Rep K hd O H .non fq
 | bl (b:Bool):Rep K hd O H (.bl b) (dQ b)
 | int (i:Int):Rep K hd O H (.int i) (bu i)
 | str (x:Str):Rep K hd O H (.str x) (cH x)
 | tup {a vs ds} (h:H a=ao (.tup vs)) (o:¬O a) (r:Reps K hd O H vs ds):Rep K hd O H (.ref a) (lV ds)
 | tupS {a vs ds} (h:StT K a vs) (r:Reps K hd O H vs ds):Rep K hd O H (.ref a) (lV ds)
 | lst {a vs ds} (h:H a=ao (.lst vs)) (o:¬O a) (r:Reps K hd O H vs ds):Rep K hd O H (.ref a) (sJ ds)
 | dct {a ep} (h:H a=ao (KDO a [] ep)) (o:¬O a):Rep K hd O H (.ref a) (sI [])
 | dcK {a kvs ep ks ps} (h:H a=ao (KDO a kvs ep)) (o:¬O a) (r:ZB K hd O H kvs ks) (e:ps=ZH ks):Rep K hd O H (.ref a) (sI ps)
 | dcT {a zs ep ks ps} (h:H a=ao (ZDO a zs ep)) (o:¬O a) (r:Jx K hd O H zs ks) (e:ps=J2 ks):Rep K hd O H (.ref a) (sI ps)
 | hand {a} (h:hd=ao a):Rep K hd O H (.ref a) HAND
 | scr {a ns} (h:Rd H a (.lst (ns.map V.int))) (o:¬O a):Rep K hd O H (.ref a) (SCR ns)
 | scrS {a} {ns:List Int} (h:∀H':Hp,SqL K H' a (ns.map V.int)):Rep K hd O H (.ref a) (SCR ns)
 | exc {a C} (h:H a=ao (EXO a C)) (o:¬O a):Rep K hd O H (.ref a) (EXC C)
inductive Reps (K:qF)(hd:Option ai)(O:ai->Prop)(H:Hp):List V->qD->Prop
 | nil:Reps K hd O H [] []
 | cons {v d vs ds} (h:Rep K hd O H v d) (r:Reps K hd O H vs ds):Reps K hd O H (v::vs) (d::ds)
inductive ZB (K:qF)(hd:Option ai)(O:ai->Prop)(H:Hp):List (Int×V)->List (Int×af)->Prop
 | nil:ZB K hd O H [] []
 | cons {k v d kvs ks} (h:Rep K hd O H v d) (r:ZB K hd O H kvs ks):ZB K hd O H ((k,v)::kvs) ((k,d)::ks)
inductive Jx (K:qF)(hd:Option ai)(O:ai->Prop)(H:Hp):ZT->KT2->Prop
 | nil:Jx K hd O H [] []
 | cons {k q v d zs ks} (h:Rep K hd O H (.ref q) (lV [bu k.1,bu k.2])) (h2:Rep K hd O H v d) (r:Jx K hd O H zs ks):Jx K hd O H ((k,q,v)::zs) ((k,d)::ks)
end
section
variable{K:qF}{hd:Option ai}{O O':ai->Prop}{H H':Hp}
theorem Rep.mono(G:∀a o,H a=ao o->O' a->O a)(C:∀a o,¬O a->H a=ao o->H' a=ao o)(q:Rep K hd O H v d):Rep K hd O' H' v d :=
 Rep.rec (motive_1:=λv d _=>Rep K hd O' H' v d) (motive_2:=λv d _=>Reps K hd O' H' v d) (motive_3:=λv d _=>ZB K hd O' H' v d) (motive_4:=λv d _=>Jx K hd O' H' v d)
  .non .bl .int .str (λh o _ r=>.tup (C _ _ o h) (λz=>o (G _ _ h z)) r) (λh _ r=>.tupS h r) (λh o _ r=>.lst (C _ _ o h) (λz=>o (G _ _ h z)) r) (λh o=>.dct (C _ _ o h) (λz=>o (G _ _ h z))) (λh o _ e r=>.dcK (C _ _ o h) (λz=>o (G _ _ h z)) r e) (λh o _ e r=>.dcT (C _ _ o h) (λz=>o (G _ _ h z)) r e) .hand
  (λh o=>h7 h (λh=>.scr (dY (C _ _ o h)) λz=>o (G _ _ h z)) λh=>h.elim λu h=>.scr (sr ⟨u,C _ _ o h⟩) λz=>o (G _ _ h z)) .scrS (λh o=>.exc (C _ _ o h) (λz=>o (G _ _ h z)))
  .nil (λ_ _ h r=>.cons h r) .nil (λ_ _ h r=>.cons h r) .nil (λ_ _ _ h k r=>.cons h k r) q
theorem Reps.ind{P:List V->qD->Prop}(n:P [] [])(c:∀{v d vs ds},Rep K hd O H v d->Reps K hd O H vs ds->P vs ds->P (v::vs) (d::ds))(q:Reps K hd O H vs ds):P vs ds:=by refine Reps.rec (motive_1:=λ_ _ _=>True) (motive_2:=λv d _=>P v d) (motive_3:=λ_ _ _=>True) (motive_4:=λ_ _ _=>True) ?_ ?_ ?_ ?_ ?_ ?_ ?_ ?_ ?_ ?_ ?_ ?_ ?_ ?_ n (λh r _ i=>c h r i) ?_ ?_ ?_ ?_ q <;> intros <;> trivial
theorem Jx.ind{P:ZT->KT2->Prop}(n:P [] [])(c:∀{k q v d vs ds},Rep K hd O H (.ref q) (lV [bu k.1,bu k.2])->Rep K hd O H v d->Jx K hd O H vs ds->P vs ds->P ((k,q,v)::vs) ((k,d)::ds))(q:Jx K hd O H vs ds):P vs ds:=by refine Jx.rec (motive_1:=λ_ _ _=>True) (motive_4:=λv d _=>P v d) (motive_2:=λ_ _ _=>True) (motive_3:=λ_ _ _=>True) ?_ ?_ ?_ ?_ ?_ ?_ ?_ ?_ ?_ ?_ ?_ ?_ ?_ ?_ ?_ ?_ ?_ ?_ n (λh k r _ _ i=>c h k r i) q <;> intros <;> trivial
theorem Reps.mono(v:∀a o,H a=ao o->O' a->O a)(u:∀a o,¬O a->H a=ao o->H' a=ao o)(q:Reps K hd O H vs ds):Reps K hd O' H' vs ds:=q.ind .nil λh _ r=>.cons (h.mono v u) r
theorem Jx.mono(v:∀a o,H a=ao o->O' a->O a)(u:∀a o,¬O a->H a=ao o->H' a=ao o)(q:Jx K hd O H vs ds):Jx K hd O' H' vs ds:=q.ind .nil λh k _ r=>.cons (h.mono v u) (k.mono v u) r
theorem Wz(e:(fq,v)::r=ZH l):False:=by
 cases l with
 | nil=>cases e
 | cons q l=>cases e
theorem dict_noT(e:(fq,v)::r=J2 l):False:=by
 cases l with
 | nil=>cases e
 | cons q l=>cases e
theorem Reps.length(q:Reps K hd O H vs ds):fo vs=fo ds:=q.ind (P:=λa b=>fo a=fo b) rfl λ_ _ e=>congrArg (·+1) e
theorem Reps.get{i:Nat}(q:Reps K hd O H l ds):ds[i]?=ao d->∃v,l[i]?=ao v/\Rep K hd O H v d :=
 q.ind (P:=λl ds=>∀(i:Nat),ds[i]?=ao d->∃v,l[i]?=ao v/\Rep K hd O H v d) (λ_ e=>nomatch e) (λ{v _ _ _} h _ r i=>i.casesOn (λe=>⟨v,rfl,aX e▸h⟩) λi e=>r i e) i
theorem Reps.append(q:Reps K hd O H vs ds)(s:Reps K hd O H ws es):Reps K hd O H (vs++ws) (ds++es):=q.ind (P:=λa b=>Reps K hd O H (a++ws) (b++es)) s λh _ r=>.cons h r
theorem Reps.take(n:Nat)(q:Reps K hd O H u ds):Reps K hd O H (u.take n) (ds.take n) :=
 q.ind (P:=λu ds=>∀n:Nat,Reps K hd O H (u.take n) (ds.take n)) (λn=>by rw[u4,u4];exact .nil) (λh _ r n=>n.casesOn .nil λn=>.cons h (r n)) n
theorem Reps.drop(n:Nat)(q:Reps K hd O H u ds):Reps K hd O H (u.drop n) (ds.drop n) :=
 q.ind (P:=λu ds=>∀n:Nat,Reps K hd O H (u.drop n) (ds.drop n)) (λn=>by rw[u5,u5];exact .nil) (λh k r n=>n.casesOn (.cons h k) λn=>r n) n
theorem Reps.set{v d}(h:Rep K hd O H v d)(n:Nat)(q:Reps K hd O H u ds):Reps K hd O H (ce u n v) (ce ds n d) :=
 q.ind (P:=λu ds=>∀n:Nat,Reps K hd O H (ce u n v) (ce ds n d)) (λn=>.nil) (λk s r n=>n.casesOn (.cons h s) λn=>.cons k (r n)) n
theorem Rep.tupI(h:Rep K hd O H v (lV ds)):∃a x,v=.ref a/\SqT K H a x/\Reps K hd O H x ds:=by
 cases h with
 | tup h o r=>exact⟨_,_,rfl,dY (dY h),r⟩
 | tupS h r=>exact⟨_,_,rfl,h.sq,r⟩
theorem Rep.lstI(h:Rep K hd O H v (sJ ds)):∃a u,v=.ref a/\H a=ao (.lst u)/\¬O a/\Reps K hd O H u ds:=by
 cases h with
 | lst h o r=>exact⟨_,_,rfl,h,o,r⟩
theorem Rep.intI(h:Rep K hd O H v (bu i)):v=.int i:=by cases h;rfl
theorem Rep.blI(h:Rep K hd O H v (dQ b)):v=.bl b:=by cases h;rfl
theorem Rep.strI(h:Rep K hd O H v (cH x)):v=.str x:=by cases h;rfl
theorem Rep.nonI(h:Rep K hd O H v fq):v=.non:=by cases h;rfl
theorem Rep.handI(h:Rep K hd O H v HAND):∃a,v=.ref a/\hd=ao a:=by
 generalize e:HAND=d at h;cases h with
 | hand h=>exact⟨_,rfl,h⟩
 | dct _ _=>cases e
 | dcK _ _ _ o=>cases e;exact(Wz o).elim
 | dcT _ _ _ o=>cases e;exact(dict_noT o).elim
 | scr _ _=>simp[HAND,SCR]at e
 | scrS _=>simp[HAND,SCR]at e
 | exc _ _=>simp[HAND,EXC]at e
 | _=>cases e
theorem Rep.scrI(h:Rep K hd O H v (SCR ns)):∃a,v=.ref a/\SqL K H a (ns.map V.int):=by
 generalize e:SCR ns=d at h;cases h with
 | hand h=>simp[HAND,SCR]at e
 | dct _ _=>cases e
 | dcK _ _ _ u=>cases e;exact(Wz u).elim
 | dcT _ _ _ u=>cases e;exact(dict_noT u).elim
 | @scr a ms h o =>
  have:ns=ms:=by
   have u:(ns.map bu)=ms.map bu:=by simpa[SCR] using e
   have:=congrArg (oG λx=>match x with|bu i=>i|_=>0) u;simpa[bS,ka] using this
  subst this;exact⟨_,rfl,dY h⟩
 | @scrS a ms h =>
  have:ns=ms:=by
   have u:(ns.map bu)=ms.map bu:=by simpa[SCR] using e
   have:=congrArg (oG λx=>match x with|bu i=>i|_=>0) u;simpa[bS,ka] using this
  subst this;exact⟨_,rfl,h H⟩
 | exc _ _=>simp[SCR,EXC]at e
 | _=>cases e
end
mutual
def Qg:af->Bool
 | sJ _=>false
 | lV ts=>Q0 ts
 | sI [(fq,fq)]=>true
 | sI _=>false
 | _=>true
def Q0:qD->Bool
 | []=>true
 | t::ts=>Qg t&&Q0 ts
end
section
variable{K:qF}{hd:Option ai}{O O':ai->Prop}{H:Hp}
theorem zst(e:Qg (sI (ZH ks))=du):False:=by cases ks <;> exact nomatch e
theorem zss(e:Qg (sI (J2 ks))=du):False:=by cases ks <;> exact nomatch e
def MutO(o:Option HO):Prop:=(∃xs,o=ao (.lst xs))\/(∃v,o=ao (.dK v))\/∃u,o=ao (.ext u)
theorem Rep.up(C:∀a,O a->MutO (H a))(q:Rep K hd O' H v d):Qg d=du->Rep K hd O H v d:=by
 refine Rep.rec (motive_1:=λv d _=>Qg d=du->Rep K hd O H v d) (motive_2:=λv d _=>Q0 d=du->Reps K hd O H v d) (motive_3:=λ_ _ _=>True) (motive_4:=λ_ _ _=>True)
  (λ_=>.non) (λb _=>.bl b) (λb _=>.int b) (λb _=>.str b) (λh _ _ r e=>.tup h (λz=>by rcases C _ z with⟨xs,q⟩|⟨xs,q⟩|⟨b,q⟩ <;> (rw[h]at q;cases q)) (r e)) (λh _ r e=>.tupS h (r e))
  (λ_ _ _ _ e=>nomatch e) (λ_ _ e=>nomatch e) (λ_ _ _ x _ e=>by subst x;exact(zst e).elim) (λ_ _ _ x _ e=>by subst x;exact(zss e).elim) (λh _=>.hand h) (λ_ _ e=>nomatch e) (λ_ e=>nomatch e) (λ_ _ e=>nomatch e)
  (λ_=>.nil) (λ_ _ h r e=>by rw[Q0,aF]at e;exact .cons (h e.1) (r e.2)) trivial ?_ trivial ?_ q <;> intros <;> trivial
theorem Reps.up(v:∀a,O a->MutO (H a))(q:Reps K hd O' H u ds):Q0 ds=du->Reps K hd O H u ds :=
 q.ind (P:=λu ds=>Q0 ds=du->Reps K hd O H u ds) (λ_=>.nil) λh _ r e=>by rw[Q0,aF]at e;exact .cons (h.up v e.1) (r e.2)
variable{X:Cx}{pins:qO}{σ:St}{s:ax}
theorem Rep.reads(I:Inv X pins σ H s){u:ah}(q:Rep X.K hd O H v d):RelV v u->d.hasDict=dy->∃G,Reads s.heap u d G:=by
 refine Rep.rec (motive_1:=λv d _=>∀u,RelV v u->d.hasDict=dy->∃G,Reads s.heap u d G) (motive_2:=λv d _=>∀u,Vals v u->bo d=dy->∃G,xJ s.heap u d G) (motive_3:=λ_ _ _=>True) (motive_4:=λ_ _ _=>True)
  (λ_ r _=>by cases r;exact⟨_,.none⟩) (λb _ r _=>by cases r;exact⟨_,.bool b⟩) (λi _ r _=>by obtain⟨t,rfl⟩:=r;exact⟨_,.int i t⟩) (λx _ r _=>by obtain⟨t,rfl⟩:=r;exact⟨_,.str x t⟩)
  (λ{_ vs _} h _ _ q _ r e=>?_) (λ{_ vs _} h _ q _ r e=>?_) (λ{_ vs _} h _ _ q _ r e=>?_) (λ_ _ _ _ e=>by simp[aR]at e) (λ_ _ _ _ _ _ _ e=>by simp[aR]at e) (λ_ _ _ _ _ _ _ e=>by simp[aR]at e)
  (λ_ _ _ e=>by simp[HAND,aR]at e) (λ_ _ _ _ e=>by simp[SCR,aR]at e) (λ_ _ _ e=>by simp[SCR,aR]at e) (λ_ _ _ _ e=>by simp[EXC,aR]at e)
  (λ_ r _=>by cases r;exact⟨_,.nil⟩) (λ_ _ h q _ r e=>?_) trivial (by intros;trivial) trivial (by intros;trivial) q u
 cases r;obtain⟨its,N,p,_⟩:=I.tuple (xs:=vs) (dY (dY h));obtain⟨o,L,hc,n,C⟩:=p;obtain⟨G,J⟩:=q _ N (by simpa[aR] using e);exact⟨_,.tuple L hc C (by simpa using J)⟩;cases r;obtain⟨its,N,p,_⟩:=I.tuple (xs:=vs) h.sq;obtain⟨o,L,hc,n,C⟩:=p;obtain⟨G,J⟩:=q _ N (by simpa[aR] using e);exact⟨_,.tuple L hc C (by simpa using J)⟩;cases r;obtain⟨its,N,p,_⟩:=I.list (xs:=vs) (dY (dY h));obtain⟨o,n,L,hc,_,C⟩:=p;obtain⟨G,J⟩:=q _ N (by simpa[aR] using e);exact⟨_,.list L hc C (by simpa using J)⟩;cases r with
 | cons S U =>rw[bo,ie]at e;obtain⟨G,J⟩:=h _ S e.1;obtain⟨bs,R⟩:=q _ U e.2;exact⟨_,.cons J R⟩
theorem Reps.reads(I:Inv X pins σ H s){us:List ah}(q:Reps X.K hd O H v ds):Vals v us->bo ds=dy->∃u,xJ s.heap us ds u :=
 q.ind (P:=λv ds=>∀us,Vals v us->bo ds=dy->∃u,xJ s.heap us ds u) (λ_ r _=>by cases r;exact⟨_,.nil⟩) (λh _ q _ r e=>by
  cases r with
  | cons G J =>rw[bo,ie]at e;obtain⟨u,C⟩:=h.reads I G e.1;obtain⟨bs,x⟩:=q _ J e.2;exact⟨_,.cons C x⟩) us
end
inductive Cell where
 | val (d:af)
 | own (ds:qD)
 | dct (ks:List (Key×af))
 | rdo (ks:List (Key×af))
 | dtt (ks:KT2)
def Cell.mine:Cell->Bool
 | .val _=>false
 | .own _=>true
 | .dct _=>true
 | .rdo _=>false
 | .dtt _=>true
def U7(K:qF)(hd:Option ai)(O:ai->Prop)(H:Hp)(l:List (Key×V))(o:List (Key×af)):Prop:=cA (λ(p:Key×V) (q:Key×af)=>p.1=q.1/\Rep K hd O H p.2 q.2) l o
theorem U7.mono{K:qF}{hd:Option ai}{O u:ai->Prop}{H H':Hp}(C:∀a o,H a=ao o->u a->O a)(x:∀a o,¬O a->H a=ao o->H' a=ao o){l:List (Key×V)}{v:List (Key×af)}(r:U7 K hd O H l v):U7 K hd u H' l v :=
 Paired.mapP r λ_ _ z=>⟨z.1,z.2.mono C x⟩
abbrev En:=List (Option Cell)
structure Ctx where
 hd:Option ai
 ext:ai->Prop
def OwnS(l:En)(σ:St)(a:ai):Prop:=∃(i:Nat) (c:Cell),c.mine=du/\l[i]?=ao (ao c)/\σ[i]?=ao (ao (V.ref a))
def Own(C:Ctx)(l:En)(σ:St)(a:ai):Prop:=C.ext a\/OwnS l σ a
mutual
def papD:af->Bool
 | lV ts=>decide (fo ts<=1000000)&&QG ts
 | cH x=>decide (nN x<=1000000)
 | bu _=>true
 | fq=>true
 | dQ _=>true
 | _=>false
def QG:qD->Bool
 | []=>true
 | t::ts=>papD t&&QG ts
end
def pap(t:af):Bool:=papD t&&t.canLay0&&decide (t.depth<=40)
def Q6(K:qF)(H:Hp)(a:ai)(m:Nat):Prop:=∃(o:List V) (ts:qD),H a=ao (.lst o)/\fo o<=m/\Reps K bj (λb=>MutO (H b)) H o ts/\∀t∈ts,pap t=true
def Hn(K:qF)(hd:Option ai)(H:Hp)(n:Nat):Prop:=∀a,hd=ao a->(ZM H a n/\n<10000000000000)\/(10000000000000<=n/\Q6 K H a (n - 10000000000000))
theorem Hn.lst{K:qF}{hd:Option ai}{H:Hp}{n:Nat}{a:ai}(h:Hn K hd H n)(e:hd=ao a):∃o,H a=ao (.lst o):=by rcases h a e with⟨⟨_,_,_,q,_⟩,_⟩|⟨_,_,_,q,_⟩;exact⟨_,q⟩;exact⟨_,q⟩
theorem Q6.to{K:qF}{H H':Hp}{a:ai}{w:Nat}(h:Q6 K H a w)(ha:H' a=H a)(k:∀b o,¬MutO (H b)->H b=ao o->H' b=ao o)(m:∀b o,H b=ao o->MutO (H' b)->MutO (H b)):Q6 K H' a w:=by obtain⟨u,ts,q,l,r,p⟩:=h;exact⟨u,ts,b4 ha q,l,r.mono m k,p⟩
theorem Q6.upd{K:qF}{H:Hp}{a p:ai}{o:HO}{m:Nat}(h:Q6 K H a m)(ne:a≠p)(l:MutO (H p)):Q6 K (upd H p o) a m:=by refine h.to (Ju ne) (λb u nb e=>?_) λb u e z=>?_;rw[Ju (show b≠p from λz=>nb (by rw[z];exact l))];exact e;by_cases y:b=p;rw[y];exact l;rw[Ju y]at z;exact z
theorem Q6.same{K:qF}{H H':Hp}{a:ai}{m:Nat}(h:Q6 K H a m)(s:∀b o,H b=ao o->H' b=ao o):Q6 K H' a m:=by obtain⟨u,ts,q,l,r,p⟩:=id h;exact h.to (by rw[q];exact s _ _ q) (λb o _ e=>s b o e) λb o e z=>by rw[s b o e]at z;rw[e];exact z
structure Stt(K:qF)(C:Ctx)(ρ:En)(σ:St)(H:Hp)(n:Nat):Prop where
 len:fo ρ=fo σ
 val:∀(i:Nat) (d:af),ρ[i]?=ao (ao (Cell.val d))->∃v,σ[i]?=ao (ao v)/\Rep K C.hd (Own C ρ σ) H v d
 own:∀(i:Nat) (ds:qD),ρ[i]?=ao (ao (Cell.own ds))->∃a vs,σ[i]?=ao (ao (V.ref a))/\H a=ao (.lst vs)/\Reps K C.hd (Own C ρ σ) H vs ds/\¬C.ext a
 dct:∀(i:Nat) (ks:List (Key×af)),ρ[i]?=ao (ao (Cell.dct ks))->∃a kvs,σ[i]?=ao (ao (V.ref a))/\H a=ao (.dK kvs)/\U7 K C.hd (Own C ρ σ) H kvs ks/\¬C.ext a
 rdo:∀(i:Nat) (ks:List (Key×af)),ρ[i]?=ao (ao (Cell.rdo ks))->∃a kvs,σ[i]?=ao (ao (V.ref a))/\H a=ao (.dK kvs)/\U7 K C.hd (Own C ρ σ) H kvs ks/\C.ext a/\C.hd≠ao a
 dtt:∀(i:Nat) (ks:KT2),ρ[i]?=ao (ao (Cell.dtt ks))->∃a zs ep,σ[i]?=ao (ao (V.ref a))/\H a=ao (ZDO a zs ep)/\Jx K C.hd (Own C ρ σ) H zs ks/\¬C.ext a
 dif:∀(i j:Nat) (c e:Cell) (a:ai),c.mine=du->e.mine=du->ρ[i]?=ao (ao c)->ρ[j]?=ao (ao e)->σ[i]?=ao (ao (V.ref a))->σ[j]?=ao (ao (V.ref a))->i=j
 hnd:Hn K C.hd H n
 ext:∀a,C.ext a->MutO (H a)
 hx:∀a,C.hd=ao a->C.ext a
def ExtE(hd:Option ai)(H H':Hp):Prop:=∀a o,H a=ao o->hd≠ao a->H' a=ao o
theorem ExtE.refl:ExtE hd H H:=λ_ _ h _=>h
theorem ExtE.trans(a:ExtE hd H H1)(b:ExtE hd H1 H2):ExtE hd H H2:=λc o h n=>b c o (a c o h n) n
theorem ExtE.new(h:H p=bj):ExtE hd H (upd H p o):=λb u e _=>by rw[Ju (QV e h)];exact e
section
variable{K:qF}{C:Ctx}{ρ:En}{σ:St}{H H':Hp}{n n':Nat}
theorem MutO.ne(h:MutO o):o≠bj:=by rcases h with⟨_,rfl⟩|⟨_,rfl⟩|⟨_,rfl⟩ <;> exact λz=>by cases z
theorem Stt.at(S:Stt K C ρ σ H n){i:Nat}{c:Cell}(m:c.mine=du)(G:ρ[i]?=ao (ao c)):∃a:ai,σ[i]?=ao (ao (V.ref a))/\MutO (H a)/\¬C.ext a:=by
 cases c with
 | val d=>cases m
 | own ds =>obtain⟨a,I,u,v,_,o⟩:=S.own i ds G;exact⟨a,u,dY ⟨_,v⟩,o⟩
 | dct x =>obtain⟨a,I,u,v,_,o⟩:=S.dct i x G;exact⟨a,u,sr (dY ⟨_,v⟩),o⟩
 | rdo x=>cases m
 | dtt x =>obtain⟨a,I,J,u,v,_,o⟩:=S.dtt i x G;exact⟨a,u,sr (sr ⟨_,v⟩),o⟩
theorem Stt.lst(S:Stt K C ρ σ H n){a:ai}(h:Own C ρ σ a):MutO (H a):=by rcases h with h|⟨i,c,m,v,o⟩;exact S.ext a h;obtain⟨b,l,u,_⟩:=S.at m v;rw[o]at l;cases l;exact u
theorem Stt.dom(S:Stt K C ρ σ H n)(h:Own C ρ σ a):H a≠bj:=(S.lst h).ne
theorem Stt.free(S:Stt K C ρ σ H n)(h:H a=bj):¬Own C ρ σ a:=λz=>S.dom z h
theorem ExtE.rep(e:ExtE C.hd H H')(hx:∀a,C.hd=ao a->C.ext a){v d}(r:Rep K C.hd (Own C ρ σ) H v d):Rep K C.hd (Own C ρ σ) H' v d :=
 r.mono (λ_ _ _ z=>z) λa o no h=>e a o h λz=>no (dY (hx a z))
theorem ExtE.reps(e:ExtE C.hd H H')(hx:∀a,C.hd=ao a->C.ext a){v d}(r:Reps K C.hd (Own C ρ σ) H v d):Reps K C.hd (Own C ρ σ) H' v d :=
 r.mono (λ_ _ _ z=>z) λa o no h=>e a o h λz=>no (dY (hx a z))
theorem Stt.onX(S:Stt K C ρ σ H n)(k:∀a o,H a=ao o->¬C.ext a->H' a=ao o)(U:∀a,C.ext a->MutO (H' a))(R:∀a L,H a=ao (.dK L)->C.ext a->C.hd≠ao a->H' a=ao (.dK L))(Z:Hn K C.hd H' n'):Stt K C ρ σ H' n' where
 len:=S.len
 val:=λi d hi=>by obtain⟨v,x,G⟩:=S.val i d hi;exact⟨v,x,G.mono (λ_ _ _ z=>z) λa o no h=>k a o h λz=>no (dY z)⟩
 own:=λi ds hi=>by obtain⟨a,I,x,G,J,u⟩:=S.own i ds hi;exact⟨a,I,x,k a _ G u,J.mono (λ_ _ _ z=>z) (λa o no h=>k a o h λz=>no (dY z)),u⟩
 dct:=λi ds hi=>by obtain⟨a,I,x,G,J,u⟩:=S.dct i ds hi;exact⟨a,I,x,k a _ G u,J.mono (λ_ _ _ z=>z) (λa o no h=>k a o h λz=>no (dY z)),u⟩
 rdo:=λi ds hi=>by obtain⟨a,I,x,G,J,u,N⟩:=S.rdo i ds hi;exact⟨a,I,x,R a _ G u N,J.mono (λ_ _ _ z=>z) (λa o no h=>k a o h λz=>no (dY z)),u,N⟩
 dtt:=λi ds hi=>by obtain⟨a,I,Y,x,G,J,u⟩:=S.dtt i ds hi;exact⟨a,I,Y,x,k a _ G u,J.mono (λ_ _ _ z=>z) (λa o no h=>k a o h λz=>no (dY z)),u⟩
 dif:=S.dif
 hnd:=Z
 ext:=U
 hx:=S.hx
theorem Stt.mut(S:Stt K C ρ σ H n){a:ai}(ha:C.ext a)(h:Hn K C.hd H' n')(e:∀o,H a=ao o->C.hd≠ao a->H' a=ao o):MutO (H' a):=by by_cases z:C.hd=ao a;exact dY (h.lst z);have q:=S.ext a ha;obtain⟨o,u⟩:=Option.ne_none_iff_exists'.mp q.ne;rw[e o u z,<- u];exact q
theorem Stt.on(S:Stt K C ρ σ H n)(e:ExtE C.hd H H')(h:Hn K C.hd H' n'):Stt K C ρ σ H' n' :=
 S.onX (λa o ha no=>e a o ha λz=>no (S.hx a z)) (λa ha=>S.mut ha h (e a)) (λa u ha _ l=>e a _ ha l) h
end
abbrev DTE:=En->Nat->qN->Prop
abbrev DTT:=En->Nat->(Bool->Nat->Prop)->Prop
abbrev DTA:=En->Nat->(qD->Nat->Prop)->Prop
def DE(X:Cx)(e:bg)(d:DTE):Prop:=∃u,PE X e u/\∀(C:Ctx) (l:En) (σ:St) (H:Hp) (n:Nat) (Q:VK) (R:qN),Stt X.K C l σ H n->d l n R ->
 (∀t o v H',R t o->ExtE C.hd H H'->Hn X.K C.hd H' o->Rep X.K C.hd (Own C l σ) H' v t->Q v H')->u σ H Q
def RepT(K:qF)(hd:Option ai)(O:ai->Prop)(H:Hp)(v:V)(t:af):Prop :=
 Rep K hd O H v t\/(∃a o ds,v=.ref a/\t=sJ ds/\H a=ao (.lst o)/\Reps K hd O H o ds/\hd≠ao a)\/∃a zs x u,v=.ref a/\t=sI (J2 u)/\H a=ao (ZDO a zs x)/\Jx K hd O H zs u/\hd≠ao a
def DL(X:Cx)(e:bg)(d:DTE):Prop:=∃u,PE X e u/\∀(C:Ctx) (l:En) (σ:St) (H:Hp) (n:Nat) (Q:VK) (R:qN),Stt X.K C l σ H n->d l n R ->
 (∀t o v H',R t o->ExtE C.hd H H'->Hn X.K C.hd H' o->RepT X.K C.hd (Own C l σ) H' v t->Q v H')->u σ H Q
def DN(X:Cx)(e:bg)(d:DTA):Prop:=∃x,PE X e x/\∀(C:Ctx) (o:En) (σ:St) (H:Hp) (n:Nat) (Q:VK) (R:qD->Nat->Prop),Stt X.K C o σ H n->d o n R ->
 (∀ts u p v H',R ts u->ExtE C.hd H H'->Hn X.K C.hd H' u->H p=bj->H' p=ao (.lst v)->Reps X.K C.hd (λa=>Own C o σ a\/a=p) H' v ts->Q (.ref p) H')->x σ H Q
def DT(X:Cx)(e:bg)(d:DTT):Prop:=∃u,PT X e u/\∀(C:Ctx) (o:En) (σ:St) (H:Hp) (n:Nat) (Q:Bool->Hp->Prop) (R:Bool->Nat->Prop),Stt X.K C o σ H n->d o n R ->
 (∀b l H',R b l->ExtE C.hd H H'->Hn X.K C.hd H' l->Q b H')->u σ H Q
def DW(X:Cx)(e:bg)(d:DTT):Prop:=∃u,PW X e u/\∀(C:Ctx) (o:En) (σ:St) (H:Hp) (n:Nat) (Q:Bool->Hp->Prop) (R:Bool->Nat->Prop),Stt X.K C o σ H n->d o n R ->
 (∀b l H',R b l->ExtE C.hd H H'->Hn X.K C.hd H' l->Q b H')->u σ H Q
def DB(X:Cx)(u:List bg)(d:DTA):Prop:=∃v,PB X u v/\∀(C:Ctx) (l:En) (σ:St) (H:Hp) (n:Nat) (Q:List V->Hp->Prop) (R:qD->Nat->Prop),Stt X.K C l σ H n->d l n R ->
 (∀ts o x H',R ts o->ExtE C.hd H H'->Hn X.K C.hd H' o->Reps X.K C.hd (Own C l σ) H' x ts->fo ts=fo u->Q x H')->v σ H Q
section
variable{X:Cx}{e b:bg}{d:DTE}{pos:Pos}
theorem dl(h:DE X e d):DL X e d:=by obtain⟨G,p,h⟩:=h;exact⟨G,p,λC o σ H n Q R S hd J=>h C o σ H n Q R S hd λt u v H' r e x I=>J t u v H' r e x (dY I)⟩
def dNew(d:DTA):DTE:=λu n R=>d u n λts o=>R (sJ ts) o
theorem Jr{d:DTA}(h:DN X e d):DE X e (dNew d):=by obtain⟨G,p,h⟩:=h;refine⟨G,p,λC u σ H n Q R S hd J=>h C u σ H n Q _ S hd λts v p N H' r e x I o L=>J _ v _ H' r e x (.lst o (S.free I) (L.mono (λ_ _ _ z=>dY z) λ_ _ _ z=>z))⟩
def dVar(i:Nat):DTE:=λl n R=>match l[i]? with|some (ao (Cell.val d))=>R d n|_=>False
def dOwn(i:Nat):DTE:=λo n R=>match o[i]? with|some (ao (Cell.own d))=>R (sJ d) n|_=>False
def dC(t:af):DTE:=λ_ n R=>R t n
theorem Jh(i:Nat)(o:X.N[i]?=ao x:=by rfl)(G:Vis (d0 X.env) x:=by walk_at "V")(hd:Ndb x:=by rfl)
  (l:Ncd x:=by rfl):DE X (bv x pos) (dVar i):=by
 refine⟨_,Ub o G hd l,λC L σ H n Q R S h J=>?_⟩;unfold dVar at h;split at h;rename_i d e;obtain⟨v,u,I⟩:=S.val i d e;exact⟨v,u,J d n v H h ExtE.refl S.hnd I⟩;exact e9 h
theorem Y3(i:Nat)(G:X.N[i]?=ao x:=by rfl)(J:Vis (d0 X.env) x:=by walk_at "V")(hd:Ndb x:=by rfl)
  (o:Ncd x:=by rfl):DL X (bv x pos) (dOwn i):=by
 refine⟨_,Ub G J hd o,λC Z σ H n Q R S h U=>?_⟩;unfold dOwn at h;split at h;rename_i ds e;obtain⟨p,u,I,L,v,Y⟩:=S.own i ds e;exact⟨.ref p,I,U _ n _ H h ExtE.refl S.hnd (sr (dY ⟨p,u,ds,rfl,rfl,L,v,λz=>Y (S.hx p z)⟩))⟩;exact e9 h
theorem Ji{i j pos}:DE X (jf (.int i) j pos) (dC (bu i)):=⟨_,JN,λ_ _ _ H n _ _ S h l=>l _ n _ H h ExtE.refl S.hnd (.int i)⟩
theorem JC{b j pos}:DE X (jf (.bool b) j pos) (dC (dQ b)):=⟨_,zyu,λ_ _ _ H n _ _ S h u=>u _ n _ H h ExtE.refl S.hnd (.bl b)⟩
theorem US{j pos}:DE X (jf .none j pos) (dC fq):=⟨_,zuK,λ_ _ _ H n _ _ S h l=>l _ n _ H h ExtE.refl S.hnd .non⟩
theorem JM{x j pos}:DE X (jf (.str x) j pos) (dC (cH x)):=⟨_,zuG,λ_ _ _ H n _ _ S h l=>l _ n _ H h ExtE.refl S.hnd (.str x)⟩
end
section
variable{K:qF}{hd:Option ai}{O:ai->Prop}{H H':Hp}{v:V}{t:af}{n:Nat}
theorem Same.ext(h:Same H H'):ExtE hd H H':=λa o e _=>h a o e
theorem Hn.same(h:Hn K hd H n)(s:Same H H'):Hn K hd H' n:=λa e=>by rcases h a e with⟨⟨d,m,t,q,r⟩,l⟩|⟨l,p⟩;exact dY ⟨⟨d,m,t,s _ _ q,r⟩,l⟩;exact sr ⟨l,p.same s⟩
theorem Reps.same{vs ts}(s:Same H H')(r:Reps K hd O H vs ts):Reps K hd O H' vs ts:=r.mono (λ_ _ _ z=>z) λa o _ h=>s a o h
theorem ExtE.repT(e:ExtE C.hd H H')(hx:∀a,C.hd=ao a->C.ext a)(r:RepT K C.hd (Own C ρ σ) H v t):RepT K C.hd (Own C ρ σ) H' v t:=by rcases r with r|⟨a,L,ds,G,I,x,J,u⟩|⟨a,zs,R,N,G,I,x,J,u⟩;exact dY (e.rep hx r);exact sr (dY ⟨a,L,ds,G,I,e _ _ x u,e.reps hx J,u⟩);exact sr (sr ⟨a,zs,R,N,G,I,e _ _ x u,J.mono (λ_ _ _ z=>z) (λa o no h=>e a o h λz=>no (dY (hx a z))),u⟩)
theorem RepT.lstI{ds}(h:RepT K hd O H v (sJ ds)):∃a o,v=.ref a/\H a=ao (.lst o)/\Reps K hd O H o ds:=by rcases h with h|⟨a,o,I,C,u,x,G,_⟩|⟨a,o,J,I,C,u,x,G,_⟩;obtain⟨a,o,C,u,_,x⟩:=h.lstI;exact⟨a,o,C,u,x⟩;cases u;exact⟨a,o,C,x,G⟩;cases u
theorem RepT.tupI{ds}(h:RepT K hd O H v (lV ds)):∃a o,v=.ref a/\SqT K H a o/\Reps K hd O H o ds:=by rcases h with h|⟨a,o,C,J,x,G,I,_⟩|⟨a,o,L,C,J,x,G,I,_⟩;exact h.tupI;cases x;cases x
theorem RepT.rep(h:RepT K hd O H v t)(nl:∀ds,t≠sJ ds)(nd:∀x,t≠sI (J2 x):=by intro x z;first|cases z|exact dict_noT (eV z)):Rep K hd O H v t:=by rcases h with h|⟨a,C,o,J,u,G,I,_⟩|⟨a,C,L,o,J,u,G,I,_⟩;exact h;exact absurd u (nl o);exact absurd u (nd o)
theorem RepT.intI{i}(h:RepT K hd O H v (bu i)):v=.int i:=(h.rep (by intro _ z;cases z)).intI
theorem RepT.blI{i}(h:RepT K hd O H v (dQ i)):v=.bl i:=(h.rep (by intro _ z;cases z)).blI
theorem RepT.strI{i}(h:RepT K hd O H v (cH i)):v=.str i:=(h.rep (by intro _ z;cases z)).strI
theorem RepT.nonI(h:RepT K hd O H v fq):v=.non:=(h.rep (by intro _ z;cases z)).nonI
theorem Rep.newT{vs ts}(no:¬O p)(h:H p=bj)(r:Reps K hd O H vs ts):Rep K hd O (upd H p (.tup vs)) (.ref p) (lV ts) :=
 .tup J1 no (r.same (λb u e=>by rw[Ju (QV e h)];exact e))
end
theorem Qf(h:H p=bj):Same H (upd H p o):=λb u e=>by rw[Ju (QV e h)];exact e
abbrev G2:=af->af->(af->Prop)->Prop
def dOp(g:G2)(v db:DTE):DTE:=λl n R=>v l n λx o=>db l o λy u=>g x y λz=>R z u
def Gp2(X:Cx)(r:R2)(g:G2):Prop:=∀(hd:Option ai) (O:ai->Prop) (H:Hp) (x y:V) (t u:af) (Q:VK) (R:af->Prop),(∀p,O p->H p≠bj)->RepT X.K hd O H x t->RepT X.K hd O H y u->g t u R ->
 (∀z v H',R z->Same H H'->Rep X.K hd O H' v z->Q v H')->r x y H Q
section
variable{X:Cx}{a b:bg}{da db dc:DTE}{pos:Pos}{r:R2}{g g':G2}
theorem two{C:Ctx}{l:En}{σ:St}{H:Hp}{n:Nat}{Y U:TE}(ha:∀(C:Ctx) (l:En) (σ:St) (H:Hp) (n:Nat) (Q:VK) (R:qN),Stt X.K C l σ H n->da l n R ->
  (∀t I v H',R t I->ExtE C.hd H H'->Hn X.K C.hd H' I->RepT X.K C.hd (Own C l σ) H' v t->Q v H')->Y σ H Q)
  (hb:∀(C:Ctx) (l:En) (σ:St) (H:Hp) (n:Nat) (Q:VK) (R:qN),Stt X.K C l σ H n->db l n R ->
  (∀t I v H',R t I->ExtE C.hd H H'->Hn X.K C.hd H' I->RepT X.K C.hd (Own C l σ) H' v t->Q v H')->U σ H Q)
  {Q2:V->V->Hp->Prop} {R2:af->qN} (S:Stt X.K C l σ H n) (h:da l n λx J=>db l J λy G=>R2 x y G)
  (hq:∀x y G v w o,R2 x y G->ExtE C.hd H o->Stt X.K C l σ o G->RepT X.K C.hd (Own C l σ) o v x->RepT X.K C.hd (Own C l σ) o w y->Q2 v w o) :
  Y σ H λv N=>U σ N λw o=>Q2 v w o:=by
 refine ha C l σ H n _ _ S h λt J v N r1 e1 h1 q1=>?_;have Z:=S.on e1 h1;refine hb C l σ N J _ _ Z r1 λu G w o r2 L h2 q2=>?_;exact hq t u G v w o r2 (e1.trans L) (Z.on L h2) (L.repT S.hx q1) q2
theorem Q7{op:tL}(G:OpR X (binaryOp op) r)(hg:Gp2 X r g)(ha:DL X a da)(hb:DL X b db):DE X (jj a op b pos) (dOp g da db):=by obtain⟨ta,pa,ha⟩:=ha;obtain⟨tb,o,hb⟩:=hb;refine⟨_,JL G pa o,λC J σ H n Q R S h Z=>?_⟩;refine two ha hb S h λx y N v w H2 L e l q1 Y=>?_;exact hg C.hd (Own C J σ) H2 v w x y Q _ (λp=>l.dom) q1 Y L λz u H' U sm I=>Z z N u H' U (e.trans sm.ext) (l.hnd.same sm) I
theorem J3{op:sG}(I:OpR X (compareOp op) r)(hg:Gp2 X r g)(ha:DL X a da)(hb:DL X b db)(hm:behindInMarks op b=dy):DE X (jg a [op] [b] pos) (dOp g da db):=by obtain⟨ta,pa,ha⟩:=ha;obtain⟨tb,G,hb⟩:=hb;refine⟨_,zmX I pa G hm,λC L σ H n Q R S h hq=>?_⟩;refine two ha hb S h λx y U v w H2 N e l q1 Z=>?_;exact hg C.hd (Own C L σ) H2 v w x y Q _ (λp=>l.dom) q1 Z N λz u H' Y sm J=>hq z U u H' Y (e.trans sm.ext) (l.hnd.same sm) J
def Ui(d:DTE):DTT:=λv n R=>d v n λt u=>match t with|dQ k=>R k u|_=>False
theorem Jl{op:sG}(J:OpR X (compareOp op) r)(hg:Gp2 X r g)(ha:DL X a da)(hb:DL X b db)(hm:behindInMarks op b=dy):DT X (jg a [op] [b] pos) (Ui (dOp g da db)):=by
 obtain⟨ta,pa,ha⟩:=ha;obtain⟨tb,I,hb⟩:=hb;refine⟨_,zjo J pa I hm,λC N σ H n Q R S h hq=>?_⟩;refine two ha hb S h λx y Y v w H2 U e l q1 Z=>?_;refine hg C.hd (Own C N σ) H2 v w x y _ _ (λp=>l.dom) q1 Z U λz u H' G sm L=>?_;cases z with
 | bool k =>cases L;exact⟨k,rfl,hq k Y H' G (e.trans sm.ext) (l.hnd.same sm)⟩
 | _=>exact e9 G
def Y2(g g':G2)(da db dc:DTE):DTE:=λu n R=>da u n λx C=>db u C λy v=>g x y λz=>match z with
 | dQ du=>dc u v λw G=>g' y w λz=>R z G
 | dQ dy=>R (dQ dy) v
 | _=>False
def gI(C:Int->Int->Prop)(f:Int->Int->Int):G2
 | bu i,bu j,R=>C i j/\R (bu (f i j))
 | _,_,_=>False
def gB(f:Int->Int->Bool):G2
 | bu i,bu j,R=>R (dQ (f i j))
 | _,_,_=>False
theorem gp_I:Gp2 X (rI C λi j=>.int (f i j)) (gI C f):=by intro hd O H x y t u Q R dom l o h v;unfold gI at h;split at h;rename_i i j;exact⟨i,j,l.intI,o.intI,h.1,v _ _ H h.2 (Same.refl H) (.int _)⟩;exact e9 h
def gI0(f:Int->Int->Int):G2
 | bu i,bu j,R=>R (bu (f i j))
 | _,_,_=>False
theorem zs6:Gp2 X (rI0 λi j=>.int (f i j)) (gI0 f):=by intro hd O H x y t u Q R dom l o h v;unfold gI0 at h;split at h;rename_i i j;exact⟨i,j,l.intI,o.intI,v _ _ H h (Same.refl H) (.int _)⟩;exact e9 h
theorem gp_B:Gp2 X (rI0 λi j=>.bl (f i j)) (gB f):=by intro hd O H x y t u Q R dom o v h C;unfold gB at h;split at h;rename_i i j;exact⟨i,j,o.intI,v.intI,C _ _ H h (Same.refl H) (.bl _)⟩;exact e9 h
def oSub:=gI0 λi j=>i - j
def oMod:=gI (λ_ j=>0<j) λi j=>i % j
def UN:=gI Zy λi j=>i / j
def oShl:=gI CPow λi j=>i*2 ^ ap j
def oShr:=gI (λ_ j=>0<=j) λi j=>i / 2 ^ ap j
def oXor:=gI0 bW
def oAnd:=gI0 hZ
theorem UT(ha:DL X a da)(hb:DL X b db):DE X (jj a .Sub b pos) (dOp oSub da db):=Q7 zuS zs6 ha hb
theorem Wb(ha:DL X a da)(hb:DL X b db):DE X (jj a .Mod b pos) (dOp oMod da db):=Q7 Yb gp_I ha hb
theorem zjX(ha:DL X a da)(hb:DL X b db):DE X (jj a .FloorDiv b pos) (dOp UN da db):=Q7 WD gp_I ha hb
theorem JO(ha:DL X a da)(hb:DL X b db):DE X (jj a .LShift b pos) (dOp oShl da db):=Q7 zuU gp_I ha hb
theorem zwH(ha:DL X a da)(hb:DL X b db):DE X (jj a .RShift b pos) (dOp oShr da db):=Q7 zuT gp_I ha hb
theorem zn_(ha:DL X a da)(hb:DL X b db):DE X (jj a .BitXor b pos) (dOp oXor da db):=Q7 zuR zs6 ha hb
theorem zwL(ha:DL X a da)(hb:DL X b db):DE X (jj a .BitAnd b pos) (dOp oAnd da db):=Q7 zu3 zs6 ha hb
end
section
variable{X:Cx}{pins:qO}{σ:St}{H:Hp}{s:ax}{hd:Option ai}{O:ai->Prop}
theorem RepT.reads(I:Inv X pins σ H s)(h:RepT X.K hd O H v d)(r:RelV v u)(e:d.hasDict=dy):∃G,Reads s.heap u d G:=by
 rcases h with h|⟨a,L,ds,rfl,rfl,C,J,_⟩|⟨a,zs,Y,U,rfl,rfl,C,J,_⟩
 rotate_left 2
 simp[aR]at e;exact h.reads I r e;cases r;obtain⟨its,R,p,_⟩:=I.list (xs:=L) (dY (dY C));obtain⟨o,n,N,hc,_,x⟩:=p;obtain⟨G,S⟩:=Reps.reads I J R (by simpa[aR] using e);exact⟨_,.list N hc x (by simpa using S)⟩
end
def Okd(t:af):Prop:=t.canLay0=du/\t.depth<=60
section
variable{X:Cx}{a b c:bg}{da db dc:DTE}{pos:Pos}{k:Nat}
def rEqD(K:qF)(neg:Bool):R2:=λx y H Q=>∃hd O t u,RepT K hd O H x t/\RepT K hd O H y u/\Okd t/\Okd u/\Q (.bl (if neg then !t.eqv u else t.eqv u)) H
theorem zu1(J:Room k X.A):OpR X (compareOp .Eq) (rEqD X.K dy):=by intro pins s σ H x y v u Q I G N h;obtain⟨hd,O,t,w,R,U,o,C,q⟩:=h;obtain⟨Y,S⟩:=R.reads I G (cn _ o.1);obtain⟨bs,L⟩:=U.reads I N (cn _ C.1);refine SeqAt.compareEq_reads S L o.1 C.1 ?_ ⟨.bl _,H,I,rfl,q⟩;have:=J.un;have:=o.2;omega
theorem zuW(L:Room k X.A):OpR X (compareOp .NotEq) (rEqD X.K du):=by intro pins s σ H x y v u Q I J S h;obtain⟨hd,O,t,w,U,Z,C,G,q⟩:=h;obtain⟨as,Y⟩:=U.reads I J (cn _ C.1);obtain⟨bs,R⟩:=Z.reads I S (cn _ G.1);refine SeqAt.compareNe_reads Y R C.1 G.1 ?_ ⟨.bl _,H,I,rfl,q⟩;have:=L.un;have:=C.2;omega
def oEq:G2
 | bu i,bu j,R=>R (dQ (decide (i=j)))
 | cH i,cH j,R=>R (dQ (decide (i=j)))
 | dQ i,dQ j,R=>R (dQ (decide (i=j)))
 | t,u,R=>Okd t/\Okd u/\R (dQ (t.eqv u))
def oNe:G2
 | bu i,bu j,R=>R (dQ (!decide (i=j)))
 | cH i,cH j,R=>R (dQ (!decide (i=j)))
 | dQ i,dQ j,R=>R (dQ (!decide (i=j)))
 | t,u,R=>Okd t/\Okd u/\R (dQ (!t.eqv u))
def rEqA(K:qF):R2:=λx y H Q=>rEq x y H Q\/rEqD K dy x y H Q
def rNeA(K:qF):R2:=λx y H Q=>rNe x y H Q\/rEqD K du x y H Q
theorem Qc(l:Room k X.A):OpR X (compareOp .Eq) (rEqA X.K):=OpR.or zyx (zu1 l)
theorem QB(l:Room k X.A):OpR X (compareOp .NotEq) (rNeA X.K):=OpR.or zyv (zuW l)
theorem Qa:Gp2 X (rEqA X.K) oEq:=by
 intro hd O H x y t u Q R dom v C h G;have D:Okd t/\Okd u/\R (dQ (t.eqv u))->rEqA X.K x y H Q:=λh=>sr ⟨hd,O,_,_,v,C,h.1,h.2.1,G _ _ H h.2.2 (Same.refl H) (.bl _)⟩;cases t with
 | int i=>cases u with
  | int j =>rw[v.intI,C.intI];refine dY ⟨rfl,?_⟩;have e:decide (V.int i=V.int j)=decide (i=j):=decide_eq_decide.mpr ⟨λz=>by cases z;rfl,λz=>by rw[z]⟩;rw[e];exact G _ _ H h (Same.refl H) (.bl _)
  | _=>exact D h
 | str i=>cases u with
  | str j =>rw[v.strI,C.strI];refine dY ⟨rfl,?_⟩;have e:decide (V.str i=V.str j)=decide (i=j):=decide_eq_decide.mpr ⟨λz=>by cases z;rfl,λz=>by rw[z]⟩;rw[e];exact G _ _ H h (Same.refl H) (.bl _)
  | _=>exact D h
 | bool i=>cases u with
  | bool j =>rw[v.blI,C.blI];refine dY ⟨rfl,?_⟩;have e:decide (V.bl i=V.bl j)=decide (i=j):=decide_eq_decide.mpr ⟨λz=>by cases z;rfl,λz=>by rw[z]⟩;rw[e];exact G _ _ H h (Same.refl H) (.bl _)
  | _=>exact D h
 | _=>exact D h
theorem QA:Gp2 X (rNeA X.K) oNe:=by
 intro hd O H x y t u Q R dom v C h G;have D:Okd t/\Okd u/\R (dQ (!t.eqv u))->rNeA X.K x y H Q:=λh=>sr ⟨hd,O,_,_,v,C,h.1,h.2.1,G _ _ H h.2.2 (Same.refl H) (.bl _)⟩;cases t with
 | int i=>cases u with
  | int j =>rw[v.intI,C.intI];refine dY ⟨rfl,?_⟩;have e:decide (V.int i=V.int j)=decide (i=j):=decide_eq_decide.mpr ⟨λz=>by cases z;rfl,λz=>by rw[z]⟩;rw[e];exact G _ _ H h (Same.refl H) (.bl _)
  | _=>exact D h
 | str i=>cases u with
  | str j =>rw[v.strI,C.strI];refine dY ⟨rfl,?_⟩;have e:decide (V.str i=V.str j)=decide (i=j):=decide_eq_decide.mpr ⟨λz=>by cases z;rfl,λz=>by rw[z]⟩;rw[e];exact G _ _ H h (Same.refl H) (.bl _)
  | _=>exact D h
 | bool i=>cases u with
  | bool j =>rw[v.blI,C.blI];refine dY ⟨rfl,?_⟩;have e:decide (V.bl i=V.bl j)=decide (i=j):=decide_eq_decide.mpr ⟨λz=>by cases z;rfl,λz=>by rw[z]⟩;rw[e];exact G _ _ H h (Same.refl H) (.bl _)
  | _=>exact D h
 | _=>exact D h
def isNone:af->Bool
 | fq=>true
 | _=>false
def oIs:G2
 | dQ a,dQ b,R=>R (dQ (a == b))
 | t,fq,R=>R (dQ (isNone t))
 | _,_,_=>False
def oIsN:G2
 | dQ a,dQ b,R=>R (dQ (a != b))
 | t,fq,R=>R (dQ (!isNone t))
 | _,_,_=>False
def rIs:R2:=λx y H Q=>(y=.non/\Q (.bl (decide (x=.non))) H)\/∃a b,x=.bl a/\y=.bl b/\Q (.bl (a == b)) H
def rIsN:R2:=λx y H Q=>(y=.non/\Q (.bl (!decide (x=.non))) H)\/∃a b,x=.bl a/\y=.bl b/\Q (.bl (a != b)) H
theorem V0:OpR X (compareOp .Is) rIs:=OpR.or zuZ zu0
theorem zm5:OpR X (compareOp .IsNot) rIsN:=OpR.or zse zm6
theorem RepT.isN{K:qF}{hd:Option ai}{O:ai->Prop}{H:Hp}{v:V}{t:af}(h:RepT K hd O H v t):decide (v=.non)=(isNone t):=by rcases h with h|⟨a,C,ds,rfl,rfl,l,u,_⟩|⟨a,zs,x,G,rfl,rfl,l,u,_⟩;cases h <;> simp[HAND,SCR,EXC,isNone];simp[isNone];simp[isNone]
theorem VM:Gp2 X rIs oIs:=by intro hd O H x y t u Q R dom o v h C;unfold oIs at h;split at h;rename_i i j;exact sr ⟨i,j,o.blI,v.blI,C _ _ H h (Same.refl H) (.bl _)⟩;refine dY ⟨v.nonI,?_⟩;rw[o.isN];exact C _ _ H h (Same.refl H) (.bl _);exact e9 h
theorem znM:Gp2 X rIsN oIsN:=by intro hd O H x y t u Q R dom o v h C;unfold oIsN at h;split at h;rename_i i j;exact sr ⟨i,j,o.blI,v.blI,C _ _ H h (Same.refl H) (.bl _)⟩;refine dY ⟨v.nonI,?_⟩;rw[o.isN];exact C _ _ H h (Same.refl H) (.bl _);exact e9 h
def rInD(K:qF)(neg:Bool):R2:=λx y H Q=>∃hd O t ts,RepT K hd O H x t/\(RepT K hd O H y (lV ts)\/RepT K hd O H y (sJ ts))/\Okd t/\(∀u∈ts,Okd u)/\Q (.bl (if neg then !ts.any (λu=>u.eqv t) else ts.any (λu=>u.eqv t))) H
theorem zjr:∀{ts:qD},(∀u∈ts,Okd u)->bL ts=true
 | [],_=>by simp[bL]
 | t::ts,h=>by simp only[bL,aF];exact⟨(h t (by simp)).1,zjr λu l=>h u (by simp[l])⟩
theorem zq8(S:Room k X.A):OpR X (compareOp .In) (rInD X.K dy):=by
 intro pins s σ H x y v u Q I R J h;obtain⟨hd,O,t,ts,U,o,C,Y,q⟩:=h;obtain⟨Z,L⟩:=U.reads I R (cn _ C.1);have cl:=zjr Y;have N:X.A.units+1+min (cm ts) t.depth<cLine:=by have:=S.un;have:=C.2;omega
 rcases o with o|o;obtain⟨bs,G⟩:=o.reads I J (cn _ (by simpa[bX] using cl));exact SeqAt.in_tuple_reads G L cl C.1 N ⟨.bl _,H,I,rfl,q⟩;obtain⟨bs,G⟩:=o.reads I J (cn _ (by simpa[bX] using cl));exact SeqAt.in_list_reads G L cl C.1 N ⟨.bl _,H,I,rfl,q⟩
theorem zm2(Y:Room k X.A):OpR X (compareOp .NotIn) (rInD X.K du):=by
 intro pins s σ H x y v u Q I U L h;obtain⟨hd,O,t,ts,Z,C,G,h4,q⟩:=h;obtain⟨as,R⟩:=Z.reads I U (cn _ G.1);have cl:=zjr h4;have S:X.A.units+1+min (cm ts) t.depth<cLine:=by have:=Y.un;have:=G.2;omega
 rcases C with C|C;obtain⟨bs,J⟩:=C.reads I L (cn _ (by simpa[bX] using cl));exact SeqAt.notIn_tuple_reads J R cl G.1 S ⟨.bl _,H,I,rfl,q⟩;obtain⟨bs,J⟩:=C.reads I L (cn _ (by simpa[bX] using cl));exact SeqAt.notIn_list_reads J R cl G.1 S ⟨.bl _,H,I,rfl,q⟩
def oIn:G2
 | t,lV ts,R=>Okd t/\(∀u∈ts,Okd u)/\R (dQ (ts.any λu=>u.eqv t))
 | t,sJ ts,R=>Okd t/\(∀u∈ts,Okd u)/\R (dQ (ts.any λu=>u.eqv t))
 | _,_,_=>False
def ZN:G2
 | t,lV ts,R=>Okd t/\(∀u∈ts,Okd u)/\R (dQ (!ts.any λu=>u.eqv t))
 | t,sJ ts,R=>Okd t/\(∀u∈ts,Okd u)/\R (dQ (!ts.any λu=>u.eqv t))
 | _,_,_=>False
theorem zwq:Gp2 X (rInD X.K dy) oIn:=by intro hd O H x y t u Q R dom o v h C;unfold oIn at h;split at h;exact⟨hd,O,_,_,o,dY v,h.1,h.2.1,C _ _ H h.2.2 (Same.refl H) (.bl _)⟩;exact⟨hd,O,_,_,o,sr v,h.1,h.2.1,C _ _ H h.2.2 (Same.refl H) (.bl _)⟩;exact e9 h
theorem zqb:Gp2 X (rInD X.K du) ZN:=by intro hd O H x y t u Q R dom o v h C;unfold ZN at h;split at h;exact⟨hd,O,_,_,o,dY v,h.1,h.2.1,C _ _ H h.2.2 (Same.refl H) (.bl _)⟩;exact⟨hd,O,_,_,o,sr v,h.1,h.2.1,C _ _ H h.2.2 (Same.refl H) (.bl _)⟩;exact e9 h
def oLtA:G2
 | bu i,bu j,R=>R (dQ (decide (i<j)))
 | cH i,cH j,R=>R (dQ (decide (nK i.cps<nK j.cps)))
 | lV xs,lV ys,R=>∃ns v,xs=ns.map bu/\ys=v.map bu/\R (dQ (HT.lexLt ns v))
 | _,_,_=>False
def rLtA(K:qF):R2:=λx y H Q=>(rI0 λi j=>.bl (decide (i<j))) x y H Q\/(∃i j,x=.str i/\y=.str j/\Q (.bl (decide (nK i.cps<nK j.cps))) H)\/rLtT K x y H Q
theorem Qk(l:Room k X.A):OpR X (compareOp .Lt) (rLtA X.K):=OpR.or zuY (OpR.or zm3 (zuX l.units0))
theorem WQ{K:qF}{hd:Option ai}{O:ai->Prop}{H:Hp}:∀{ns:List Int}{l:List V},Reps K hd O H l (ns.map bu)->l=ns.map V.int
 | [],_,h=>by cases h;rfl
 | n::ns,_,h=>by
  cases h with
  | cons h r=>rw[h.intI,WQ r];rfl
theorem Qi:Gp2 X (rLtA X.K) oLtA:=by
 intro hd O H x y t u Q R dom o v h C;cases t with
 | int i=>cases u with
  | int j=>exact dY ⟨_,_,o.intI,v.intI,C _ _ H h (Same.refl H) (.bl _)⟩
  | _=>exact e9 h
 | str i=>cases u with
  | str j=>exact sr (dY ⟨_,_,o.strI,v.strI,C _ _ H h (Same.refl H) (.bl _)⟩)
  | _=>exact e9 h
 | tuple i=>cases u with
  | tuple j =>obtain⟨ns,L,rfl,rfl,h⟩:=h;obtain⟨p,S,N,s1,I⟩:=o.tupI;obtain⟨q,U,G,s2,J⟩:=v.tupI;rw[WQ I]at s1;rw[WQ J]at s2;exact sr (sr ⟨p,q,ns,L,N,G,s1,s2,C _ _ H h (Same.refl H) (.bl _)⟩)
  | _=>exact e9 h
 | _=>exact e9 h
def oLeA:G2
 | bu i,bu j,R=>R (dQ (decide (i<=j)))
 | cH i,cH j,R=>R (dQ (!decide (nK j.cps<nK i.cps)))
 | _,_,_=>False
def rLeA:R2:=λx y H Q=>(rI0 λi j=>.bl (decide (i<=j))) x y H Q\/(∃i j,x=.str i/\y=.str j/\Q (.bl (!decide (nK j.cps<nK i.cps))) H)
theorem zm4:OpR X (compareOp .LtE) (λx y H Q=>∃i j,x=.str i/\y=.str j/\Q (.bl (!decide (nK j.cps<nK i.cps))) H):=by intro pins s σ H x y v u Q I o C h;obtain⟨i,j,rfl,rfl,q⟩:=h;obtain⟨t,rfl⟩:=o;obtain⟨t',rfl⟩:=C;exact PySem.P.le_str ⟨.bl _,H,I,rfl,q⟩
theorem Qj:OpR X (compareOp .LtE) rLeA:=OpR.or zyw zm4
theorem Qh:Gp2 X rLeA oLeA:=by
 intro hd O H x y t u Q R dom o v h C;cases t with
 | int i=>cases u with
  | int j=>exact dY ⟨_,_,o.intI,v.intI,C _ _ H h (Same.refl H) (.bl _)⟩
  | _=>exact e9 h
 | str i=>cases u with
  | str j=>exact sr ⟨_,_,o.strI,v.strI,C _ _ H h (Same.refl H) (.bl _)⟩
  | _=>exact e9 h
 | _=>exact e9 h
variable{r r':R2}{g g':G2}
theorem Wy(ho:OpR X (compareOp op) r)(hg:Gp2 X r g)(Y:OpR X (compareOp op') r')(hg':Gp2 X r' g')(ha:DL X a da)(hb:DL X b db)(hc:DL X c dc)
  (hm:lastMarks [op,op'] [b,c]=dy:=by with_unfolding_all rfl):DE X (jg a [op,op'] [b,c] pos) (Y2 g g' da db dc):=by
 obtain⟨ta,pa,ha⟩:=ha;obtain⟨tb,pb,hb⟩:=hb;obtain⟨tc,pc,hc⟩:=hc;refine⟨_,zpw ho Y pa pb pc hm,λC L σ H n Q R S h hq=>?_⟩;refine two ha hb S h λx y n2 v w H2 r2 e N q1 q2=>?_;refine hg C.hd (Own C L σ) H2 v w x y _ _ (λp=>N.dom) q1 q2 r2 λz u H' G sm J=>?_;have S3:=N.on sm.ext (N.hnd.same sm);cases z with
 | bool k =>
  cases J;refine⟨k,rfl,?_⟩;cases k with
  | false=>exact iteF (hq _ n2 _ H' G (e.trans sm.ext) S3.hnd (.bl _))
  | true =>refine iteT (hc C L σ H' n2 _ _ S3 G λz2 n3 w2 H4 r4 Z h4 q4=>?_);have S4:=S3.on Z h4;have U:=Z.repT S.hx ((Same.ext sm:ExtE C.hd H2 H').repT S.hx q2);exact hg' C.hd (Own C L σ) H4 w w2 y z2 Q _ (λp=>S4.dom) U q4 r4 λz u H' G I J=>hq z n3 u H' G (((e.trans sm.ext).trans Z).trans I.ext) (S4.hnd.same I) J
 | _=>exact e9 G
end
section
variable{X:Cx}{a b c e:bg}{es rest:List bg}{d da db:DTE}{t u:DTT}{pos p:Pos}{k:Nat}
def truD:af->(Bool->Prop)->Prop
 | fq,R=>R false
 | dQ b,R=>R b
 | bu i,R=>R (decide (i≠0))
 | cH x,R=>nN x<=16777216/\R (decide (nN x≠0))
 | sJ ts,R=>R (!(g5 ts))
 | lV ts,R=>R (!(g5 ts))
 | _,_=>False
def dTru(d:DTE):DTT:=λo n R=>d o n λt l=>truD t λb=>R b l
theorem zqM{K:qF}{hd:Option ai}{O:ai->Prop}{H:Hp}{v:V}{t:af}{Q:Bool->Hp->Prop}{R:Bool->Prop}(r:RepT K hd O H v t)(h:truD t R)(C:∀b,R b->Q b H):∃k,TruV K v H k/\Q k H:=by
 cases t with
 | none=>exact⟨dy,by rw[r.nonI];rfl,C _ h⟩
 | bool b=>exact⟨b,by rw[r.blI];rfl,C _ h⟩
 | int i=>exact⟨decide (i≠0),by rw[r.intI];show _=(i != 0);by_cases z:i=0 <;> simp[z],C _ h⟩
 | str x =>refine⟨decide (nN x≠0),by rw[r.strI];exact⟨h.1,by by_cases z:nN x=0 <;> simp[z]⟩,C _ h.2⟩
 | list ts =>obtain⟨p,G,e,I,J⟩:=r.lstI;subst e;refine⟨!(g5 ts),dY ⟨G,.of I,?_⟩,C _ h⟩;cases J <;> rfl
 | tuple ts =>obtain⟨p,G,e,I,J⟩:=r.tupI;subst e;refine⟨!(g5 ts),sr (dY ⟨G,I,?_⟩),C _ h⟩;cases J <;> rfl
 | dict _=>exact e9 h
theorem JH(ha:DL X a da)(he:∀whole,isTrue a X.env whole=(do let v <- whole;standAt a.pos;holding [v] (truthy v)):=by intro _;rfl):DT X a (dTru da):=by obtain⟨L,pa,ha⟩:=ha;refine⟨_,zpn pa he,λC l σ H n Q R S h I=>?_⟩;refine ha C l σ H n _ _ S h λt o v H' r J G q=>?_;exact zqM q r λb x=>I b o H' x J G
def dAnd(t u:DTT):DTT:=λo n R=>t o n λb l=>if b=du then u o l R else R dy l
def dOr(t u:DTT):DTT:=λo n R=>t o n λb l=>if b=du then R du l else u o l R
def dNot(t:DTT):DTT:=λo n R=>t o n λb l=>R (!b) l
theorem JK(h:DW X a t):DT X a t:=by obtain⟨l,pa,h⟩:=h;exact⟨_,pa.pt,h⟩
theorem Q4(h:DT X a t):DW X (f7 .And [a] pos) t:=by obtain⟨v,pa,h⟩:=h;exact⟨_,zrS pa,h⟩
theorem Qp(h:DT X a t):DW X (f7 .Or [a] pos) t:=by obtain⟨v,pa,h⟩:=h;exact⟨_,zup pa,h⟩
theorem Q3(h:DT X a t)(h':DW X (f7 .And (b::rest) pos) u):DW X (f7 .And (a::b::rest) pos) (dAnd t u):=by
 obtain⟨ta,pa,h⟩:=h;obtain⟨tb,N,h'⟩:=h';refine⟨_,zuq pa N,λC G σ H n Q R S hd L=>?_⟩;refine h C G σ H n _ _ S hd λb x J r v I=>?_;cases b with
 | true=>exact iteT (h' C G σ J x Q R (S.on v I) (by simpa using r) λb Y H2 r U Z=>L b Y H2 r (v.trans U) Z)
 | false=>exact iteF (L _ x J (by simpa using r) v I)
theorem J9(h:DT X a t)(h':DW X (f7 .Or (b::rest) pos) u):DW X (f7 .Or (a::b::rest) pos) (dOr t u):=by
 obtain⟨ta,pa,h⟩:=h;obtain⟨tb,N,h'⟩:=h';refine⟨_,zyq pa N,λC G σ H n Q R S hd L=>?_⟩;refine h C G σ H n _ _ S hd λb x J r v I=>?_;cases b with
 | false=>exact iteF (h' C G σ J x Q R (S.on v I) (by simpa using r) λb Y H2 r U Z=>L b Y H2 r (v.trans U) Z)
 | true=>exact iteT (L _ x J (by simpa using r) v I)
theorem JQ(h:DT X a t):DT X (jz .Not a pos) (dNot t):=by obtain⟨L,pa,h⟩:=h;refine⟨_,zut pa,λC v σ H n Q R S hd I=>?_⟩;exact h C v σ H n _ _ S hd λb l G r J x=>I _ l G r J x
def bolD:af->(Bool->Prop)->Prop
 | dQ b,R=>R b
 | _,_=>False
def zts(da db:DTE):DTE:=λx n R=>da x n λt v=>bolD t λb=>if b=du then db x v R else R (dQ dy) v
def dOrV(da db:DTE):DTE:=λx n R=>da x n λt v=>bolD t λb=>if b=du then R (dQ du) v else db x v R
def ztr(da:DTE):DTE:=λx n R=>da x n λt v=>bolD t λb=>R (dQ (!b)) v
theorem QJ{op}(h:DE X a d):DE X (f7 op [a] pos) d:=by obtain⟨v,pa,h⟩:=h;exact⟨_,zuI pa,h⟩
theorem Ud(h:DE X a da)(h':DE X (f7 .And (b::rest) pos) db):DE X (f7 .And (a::b::rest) pos) (zts da db):=by
 obtain⟨ta,pa,h⟩:=h;obtain⟨tb,U,h'⟩:=h';refine⟨_,zuO pa U,λC I σ H n Q R S hd N=>?_⟩;refine h C I σ H n _ _ S hd λt G v L r x J q1=>?_;cases t with
 | bool b =>
  cases q1;refine⟨b,rfl,?_⟩;cases b with
  | true=>exact iteT (h' C I σ L G Q R (S.on x J) (by simpa[bolD] using r) λt n2 v Z r Y h2 q2=>N t n2 v Z r (x.trans Y) h2 q2)
  | false=>exact iteF (N _ G _ L (by simpa[bolD] using r) x J (.bl _))
 | _=>exact e9 r
theorem zru(h:DE X a da)(h':DE X (f7 .Or (b::rest) pos) db):DE X (f7 .Or (a::b::rest) pos) (dOrV da db):=by
 obtain⟨ta,pa,h⟩:=h;obtain⟨tb,U,h'⟩:=h';refine⟨_,zyt pa U,λC I σ H n Q R S hd N=>?_⟩;refine h C I σ H n _ _ S hd λt G v L r x J q1=>?_;cases t with
 | bool b =>
  cases q1;refine⟨b,rfl,?_⟩;cases b with
  | false=>exact iteF (h' C I σ L G Q R (S.on x J) (by simpa[bolD] using r) λt n2 v Z r Y h2 q2=>N t n2 v Z r (x.trans Y) h2 q2)
  | true=>exact iteT (N _ G _ L (by simpa[bolD] using r) x J (.bl _))
 | _=>exact e9 r
theorem zoa(h:DE X a da):DE X (jz .Not a pos) (ztr da):=by
 obtain⟨ta,pa,h⟩:=h;refine⟨_,zuJ pa,λC G σ H n Q R S hd L=>?_⟩;refine h C G σ H n _ _ S hd λt x v J r Z I Y=>?_;cases t with
 | bool b =>cases Y;exact⟨b,rfl,L _ x _ J r Z I (.bl _)⟩
 | _=>exact e9 r
def dIfE(t:DTT)(da db:DTE):DTE:=λl n R=>t l n λb o=>if b=du then da l o R else db l o R
theorem zqr(hc:DT X c t)(h:DE X a da)(h':DE X b db):DE X (.IfExp c a b pos) (dIfE t da db):=by
 obtain⟨tc,pc,hc⟩:=hc;obtain⟨ta,pa,h⟩:=h;obtain⟨tb,pb,h'⟩:=h';refine⟨_,zpv pc pa pb,λC o σ H n Q R S hd hq=>?_⟩;refine hc C o σ H n _ _ S hd λb Y H1 r l Z=>?_;cases b with
 | true=>exact iteT (h C o σ H1 Y Q R (S.on l Z) (by simpa using r) λt J v U r G L N=>hq t J v U r (l.trans G) L N)
 | false=>exact iteF (h' C o σ H1 Y Q R (S.on l Z) (by simpa using r) λt J v U r G L N=>hq t J v U r (l.trans G) L N)
def dNil:DTA:=λ_ n R=>R [] n
def JZ(d:DTE)(ds:DTA):DTA:=λl n R=>d l n λt o=>ds l o λts v=>R (t::ts) v
theorem Ja:DB X [] dNil:=⟨_,Ua,λC v σ H n Q R S h o=>o [] n [] H h ExtE.refl S.hnd .nil rfl⟩
theorem zob(h:DE X e d)(l:DB X es ds)(hs:starEach (e::es) X.env=(dy,eval e X.env)::starEach es X.env):DB X (e::es) (JZ d ds):=by obtain⟨ta,pa,h⟩:=h;obtain⟨tb,J,l⟩:=l;refine⟨_,QN pa J hs,λC x σ H n Q R S hd hq=>?_⟩;refine h C x σ H n _ _ S hd λt L v H1 r I Z q1=>?_;refine l C x σ H1 L _ _ (S.on I Z) r λts Y vs U N G h2 q2 l2=>?_;exact hq _ Y _ U N (I.trans G) h2 (.cons (G.rep S.hx q1) q2) (by simp[l2])
def ZA(K:qF)(hd:Option ai)(O:ai->Prop)(H:Hp):List V->qD->Prop:=cA (RepT K hd O H)
def DBL(X:Cx)(es:List bg)(d:DTA):Prop:=∃v,PB X es v/\∀(C:Ctx) (l:En) (σ:St) (H:Hp) (n:Nat) (Q:List V->Hp->Prop) (R:qD->Nat->Prop),Stt X.K C l σ H n->d l n R ->
 (∀ts o x H',R ts o->ExtE C.hd H H'->Hn X.K C.hd H' o->ZA X.K C.hd (Own C l σ) H' x ts->fo ts=fo es->Q x H')->v σ H Q
theorem Jn:DBL X [] dNil:=⟨_,Ua,λC v σ H n Q R S h o=>o [] n [] H h ExtE.refl S.hnd ja rfl⟩
theorem Jk(h:DL X e d)(l:DBL X es ds)(hs:starEach (e::es) X.env=(dy,eval e X.env)::starEach es X.env):DBL X (e::es) (JZ d ds):=by obtain⟨ta,pa,h⟩:=h;obtain⟨tb,J,l⟩:=l;refine⟨_,QN pa J hs,λC x σ H n Q R S hd hq=>?_⟩;refine h C x σ H n _ _ S hd λt L v H1 r I Z q1=>?_;refine l C x σ H1 L _ _ (S.on I Z) r λts Y vs U N G h2 q2 l2=>?_;exact hq _ Y _ U N (I.trans G) h2 (hH (G.repT S.hx q1) q2) (by simp[l2])
def dTup(ds:DTA):DTE:=λv n R=>ds v n λts o=>R (lV ts) o
theorem Jp(h:DB X es ds)(J:fo es<=sizeLine:=by decide):DE X (i4 es x1 pos) (dTup ds):=by obtain⟨ta,pa,h⟩:=h;refine⟨_,zr1 pa,λC N σ H n Q R S hd Y=>?_⟩;refine h C N σ H n _ _ S hd λts I Z H1 r G v x L=>⟨by rw[x.length,L];exact J,λp o=>?_⟩;have U:=S.on G v;exact Y _ I _ _ r (G.trans (ExtE.new o)) (v.same (Qf o)) (.newT (U.free o) o x)
theorem JU(h:DB X es ds)(U:fo es<=sizeLine:=by decide):DN X (.List es pos) ds:=by
 obtain⟨ta,pa,h⟩:=h;refine⟨_,zmW pa,λC Z σ H n Q R S hd hq=>?_⟩;refine h C Z σ H n _ _ S hd λts N I H1 r G x J Y=>⟨by rw[J.length,Y];exact U,λp l=>?_⟩;have S1:=S.on G x;have v:H p=bj:=by
  cases z:H p with
  | none=>rfl
  | some o =>by_cases y:C.hd=ao p;obtain⟨I,q⟩:=x.lst y;rw[l]at q;cases q;rw[G p o z y]at l;cases l
 refine hq ts N p I _ r (G.trans (ExtE.new l)) (x.same (Qf l)) v J1 ?_;refine J.mono (λb o hb z=>h7 z id λz=>?_) λb o _ hb=>Qf l b o hb;subst z;rw[l]at hb;cases hb
end
section
variable{X:Cx}{a b e:bg}{es:List bg}{ds:DTA}{pos p:Pos}{k:Nat}{x:Str}
abbrev GC:=List af->(af->Prop)->Prop
def Y1(g:GC)(ds:DTA):DTE:=λo n R=>ds o n λts l=>g ts λz=>R z l
def GpC(X:Cx)(r:List V->Hp->VK->Prop)(g:GC):Prop:=∀(hd:Option ai) (O:ai->Prop) (H:Hp) (xs:List V) (ts:qD) (Q:VK) (R:af->Prop),(∀p,O p->H p≠bj)->ZA X.K hd O H xs ts->g ts R ->
 (∀z v H',R z->Same H H'->Rep X.K hd O H' v z->Q v H')->r xs H Q
theorem Jw{id:String}{r:List V->Hp->VK->Prop}{g:GC}(hc:JX X (dL id) r)(o:GpC X r g)(hm:X.mg x=bj)(hv:bootBuiltins x=ao (dL id))(h:DBL X (e::es) ds)(hg:Gl X x:=by rfl)(hn:x ≠ "__name__":=by decide) (v:Ndb x:=by rfl) :
  DE X (f9 (bv x p) (e::es) [] pos) (Y1 g ds):=by
 obtain⟨ta,pa,h⟩:=h;refine⟨_,V2 hc hm hv pa hg hn v,λC G σ H n Q R S hd hq=>?_⟩;refine h C G σ H n _ _ S hd λts U L H1 Z J I q1 _=>?_;have S1:=S.on J I;exact o C.hd (Own C G σ) H1 L ts Q _ (λp=>S1.dom) q1 Z λz u H' rz sm Y=>hq z U u H' rz (J.trans sm.ext) (I.same sm) Y
theorem QH(hc:JX X (bU T) r)(o:GpC X r g)(hm:X.mg x=bj)(hv:bootBuiltins x=ao (bU T))(h:DBL X (e::es) ds)(hg:Gl X x:=by rfl)(hn:x ≠ "__name__":=by decide) (v:Ndb x:=by rfl) :
  DE X (f9 (bv x p) (e::es) [] pos) (Y1 g ds):=by
 obtain⟨ta,pa,h⟩:=h;refine⟨_,VR hc hm hv pa hg hn v,λC G σ H n Q R S hd hq=>?_⟩;refine h C G σ H n _ _ S hd λts U L H1 Z J I q1 _=>?_;have S1:=S.on J I;exact o C.hd (Own C G σ) H1 L ts Q _ (λp=>S1.dom) q1 Z λz u H' rz sm Y=>hq z U u H' rz (J.trans sm.ext) (I.same sm) Y
theorem QR{K:qF}{hd:Option ai}{O:ai->Prop}{H:Hp}{xs:List V}{t:af}(h:ZA K hd O H xs [t]):∃v,xs=[v]/\RepT K hd O H v t:=by
 cases h with
 | cons h r=>cases r;exact⟨_,rfl,h⟩
theorem zmE{K:qF}{hd:Option ai}{O:ai->Prop}{H:Hp}{xs:List V}{t u:af}(h:ZA K hd O H xs [t,u]):∃v w,xs=[v,w]/\RepT K hd O H v t/\RepT K hd O H w u:=by
 cases h with
 | cons h r=>cases r with|cons l r=>cases r;exact⟨_,_,rfl,h,l⟩
def bLen:GC:=λl R=>(∃ts,l=[sJ ts]/\R (bu (fo ts)))\/(∃ts,l=[lV ts]/\R (bu (fo ts)))\/(∃x:Str,l=[cH x]/\nN x<=16777216/\R (bu (nN x)))\/∃ts,l=[sI [(fq,sJ ts)]]/\R (bu (fo ts))
def rLen(K:qF):List V->Hp->VK->Prop:=λxs H Q=>∃x n,xs=[x]/\LenV K x H n/\Q (.int n) H
theorem Qv:GpC X (rLen X.K) bLen:=by
 intro hd O H xs ts Q R dom rs h C;rcases h with⟨ts,rfl,h⟩|⟨ts,rfl,h⟩|⟨x,rfl,h⟩|⟨ts,rfl,h⟩;obtain⟨v,rfl,r⟩:=QR rs;obtain⟨p,G,rfl,u,J⟩:=r.lstI;exact⟨_,_,rfl,dY ⟨G,.of u,rfl⟩,by rw[J.length];exact C _ _ H h (Same.refl H) (.int _)⟩;obtain⟨v,rfl,r⟩:=QR rs;obtain⟨p,G,rfl,u,J⟩:=r.tupI;exact⟨_,_,rfl,sr ⟨G,u,rfl⟩,by rw[J.length];exact C _ _ H h (Same.refl H) (.int _)⟩;obtain⟨v,rfl,r⟩:=QR rs;rw[r.strI];exact⟨_,_,rfl,⟨h.1,rfl⟩,C _ _ H h.2 (Same.refl H) (.int _)⟩;obtain⟨v,rfl,r⟩:=QR rs;have r:=r.rep (by intro _ z;cases z);generalize e:(sI [(fq,sJ ts)])=t at r;cases r with
 | scr u o =>simp only[SCR,p8,eh,pE,p9,true_and,and_true]at e;subst e;exact⟨_,_,rfl,dY ⟨_,dY u,rfl⟩,by simpa using C _ _ H h (Same.refl H) (.int _)⟩
 | scrS u =>simp only[SCR,p8,eh,pE,p9,true_and,and_true]at e;subst e;exact⟨_,_,rfl,dY ⟨_,u H,rfl⟩,by simpa using C _ _ H h (Same.refl H) (.int _)⟩
 | hand _=>simp[HAND]at e
 | exc _ _=>simp[EXC]at e
 | dct _ _=>cases e
 | dcK _ _ _ I=>cases e;exact(Wz I).elim
 | dcT _ _ _ I=>cases e;exact(dict_noT I).elim
 | _=>cases e
def bMin:GC
 | [bu i,bu j],R=>R (bu (if j<i then j else i))
 | _,_=>False
def bMax:GC
 | [bu i,bu j],R=>R (bu (if j > i then j else i))
 | _,_=>False
theorem ZU:GpC X (λxs H Q=>∃i j,xs=[.int i,.int j]/\Q (.int (if j<i then j else i)) H) bMin:=by
 intro hd O H xs ts Q R dom rs h C;cases ts with
 | nil=>exact e9 h
 | cons t ts=>cases t with
  | int i=>cases ts with
   | nil=>exact e9 h
   | cons u ts=>cases u with
    | int j=>cases ts with
     | nil =>obtain⟨v,w,rfl,l,o⟩:=zmE rs;rw[l.intI,o.intI];exact⟨_,_,rfl,C _ _ H h (Same.refl H) (.int _)⟩
     | cons _ _=>exact e9 h
    | _=>exact e9 h
  | _=>exact e9 h
theorem ZS:GpC X (λxs H Q=>∃i j,xs=[.int i,.int j]/\Q (.int (if j > i then j else i)) H) bMax:=by
 intro hd O H xs ts Q R dom rs h C;cases ts with
 | nil=>exact e9 h
 | cons t ts=>cases t with
  | int i=>cases ts with
   | nil=>exact e9 h
   | cons u ts=>cases u with
    | int j=>cases ts with
     | nil =>obtain⟨v,w,rfl,l,o⟩:=zmE rs;rw[l.intI,o.intI];exact⟨_,_,rfl,C _ _ H h (Same.refl H) (.int _)⟩
     | cons _ _=>exact e9 h
    | _=>exact e9 h
  | _=>exact e9 h
def bInt:GC
 | [bu i],R=>R (bu i)
 | [dQ k],R=>R (bu (if k then 1 else 0))
 | _,_=>False
theorem We:GpC X (λxs H Q=>(∃i,xs=[.int i]/\Q (.int i) H)\/∃k,xs=[.bl k]/\Q (.int (if k then 1 else 0)) H) bInt:=by
 intro hd O H xs ts Q R dom rs h u;cases ts with
 | nil=>exact e9 h
 | cons t ts=>cases t with
  | int i=>cases ts with
   | nil =>obtain⟨v,rfl,o⟩:=QR rs;rw[o.intI];exact dY ⟨_,rfl,u _ _ H h (Same.refl H) (.int _)⟩
   | cons _ _=>exact e9 h
  | bool i=>cases ts with
   | nil =>obtain⟨v,rfl,o⟩:=QR rs;rw[o.blI];exact sr ⟨_,rfl,u _ _ H h (Same.refl H) (.int _)⟩
   | cons _ _=>exact e9 h
  | _=>exact e9 h
def bAll:GC
 | [sJ ts],R=>∃bs:List Bool,ts=bs.map dQ/\R (dQ (bs.all id))
 | _,_=>False
def bAny:GC
 | [sJ ts],R=>∃bs:List Bool,ts=bs.map dQ/\R (dQ (bs.any id))
 | _,_=>False
theorem zee{K:qF}{hd:Option ai}{O:ai->Prop}{H:Hp}:∀{ns:List Bool}{l:List V},Reps K hd O H l (ns.map dQ)->l=ns.map V.bl
 | [],_,h=>by cases h;rfl
 | n::ns,_,h=>by
  cases h with
  | cons h r=>rw[h.blI,zee r];rfl
theorem Uq:GpC X (λxs H Q=>∃(a:ai) (bs:List Bool),xs=[.ref a]/\SqL X.K H a (bs.map V.bl)/\Q (.bl (bs.all id)) H) bAll:=by intro hd O H xs ts Q R dom rs h I;unfold bAll at h;split at h;obtain⟨bs,rfl,h⟩:=h;obtain⟨v,rfl,C⟩:=QR rs;obtain⟨p,J,rfl,u,G⟩:=C.lstI;rw[zee G]at u;exact⟨p,bs,rfl,.of u,I _ _ H h (Same.refl H) (.bl _)⟩;exact e9 h
theorem znN:GpC X (λxs H Q=>∃(a:ai) (bs:List Bool),xs=[.ref a]/\SqL X.K H a (bs.map V.bl)/\Q (.bl (bs.any id)) H) bAny:=by intro hd O H xs ts Q R dom rs h I;unfold bAny at h;split at h;obtain⟨bs,rfl,h⟩:=h;obtain⟨v,rfl,C⟩:=QR rs;obtain⟨p,J,rfl,u,G⟩:=C.lstI;rw[zee G]at u;exact⟨p,bs,rfl,.of u,I _ _ H h (Same.refl H) (.bl _)⟩;exact e9 h
def Wn:GC
 | [sJ ts],R=>R (lV ts)
 | [lV ts],R=>R (lV ts)
 | _,_=>False
theorem Uy:GpC X (λxs H Q=>∃p J,xs=[.ref p]/\((SqL X.K H p J/\∀l,H l=bj->Q (.ref l) (upd H l (.tup J)))\/(SqT X.K H p J/\Q (.ref p) H))) Wn:=by
 intro hd O H xs ts Q R dom rs h U;cases ts with
 | nil=>exact e9 h
 | cons t ts=>cases t with
  | list N=>cases ts with
   | nil =>obtain⟨v,rfl,C⟩:=QR rs;obtain⟨p,G,rfl,L,S⟩:=C.lstI;refine⟨p,G,rfl,dY ⟨.of L,λl I=>?_⟩⟩;exact U _ _ _ h (Qf I) (.newT (λz=>dom l z I) I S)
   | cons _ _=>exact e9 h
  | tuple N=>cases ts with
   | nil =>obtain⟨v,rfl,C⟩:=QR rs;obtain⟨p,G,rfl,L,S⟩:=C.tupI;exact⟨p,G,rfl,sr ⟨L,U _ _ H h (Same.refl H) (C.rep (by intro _ z;cases z))⟩⟩
   | cons _ _=>exact e9 h
  | _=>exact e9 h
def J0:af->(qD->Prop)->Prop
 | sJ ts,R=>R ts
 | lV ts,R=>R ts
 | _,_=>False
def tyN:af->Option String
 | fq=>ao "NoneType"
 | dQ _=>ao "bool"
 | bu _=>ao "int"
 | cH _=>ao "str"
 | sJ _=>ao "list"
 | lV _=>ao "tuple"
 | sI []=>ao "dict"
 | sI _=>bj
def rIsi(K:qF):List V->Hp->VK->Prop:=λxs H Q=>∃x hd O t T y b,xs=[x,.ty T]/\RepT K hd O H x t/\tyN t=ao y/\kitB y T=ao b/\Q (.bl b) H
theorem zow:JX X (dL "isinstance") (rIsi X.K):=by
 intro pins s σ H xs us Q I r h;obtain⟨x,hd,O,t,T,y,b,rfl,L,ty,e,q⟩:=h;cases r with
 | cons C Y =>
  cases Y with
  | cons U Z =>
   cases Z;cases(show _=bU T from U);have fin:∀R,tyN t=ao R->R=y:=λR h=>aX (b4 h.symm ty);have go:Ty H x y->wpAny (model X.prog X.w) X.A (call (dL "isinstance") [_,bU T]) (EP X pins σ Q) X.xe s:=λty=>znB I C ty.of (b4 (Y5 X.K y T) e) λtk=>⟨.bl b,H,I.tok tk,rfl,q⟩;rcases L with L|⟨a,S,ds,rfl,rfl,G,h4,_⟩|⟨a,zs,N,J,rfl,rfl,G,h4,_⟩;cases L with
   | non=>cases ty;exact go .non
   | bl b=>cases ty;exact go (.bl b)
   | int i=>cases ty;exact go (.int i)
   | str i=>cases ty;exact go (.str i)
   | tup h o r=>cases ty;exact go (.tup h)
   | lst h o r=>cases ty;exact go (.lst h)
   | @dct a N h o =>cases ty;cases(show _=bQ a from C);obtain⟨⟨_,_,_,v,es,g1,g2,_⟩,_⟩:=I.hok a _ h;exact cw gq I.kIn ⟨v,g1,g2.1⟩ (b4 (Y5 X.K "dict" T) e) (λz=>nomatch z) λtk=>⟨.bl b,H,I.tok tk,rfl,q⟩
   | @dcK a kvs N J ps h o r e' =>
    cases ps with
    | nil =>cases ty;cases(show _=bQ a from C);obtain⟨⟨_,_,_,v,es,g1,g2,_⟩,_⟩:=I.hok a _ h;exact cw gq I.kIn ⟨v,g1,g2.1⟩ (b4 (Y5 X.K "dict" T) e) (λz=>nomatch z) λtk=>⟨.bl b,H,I.tok tk,rfl,q⟩
    | cons _ _=>simp[tyN]at ty
   | @dcT a zs N J ps h o r e' =>
    cases ps with
    | nil =>cases ty;cases(show _=bQ a from C);obtain⟨⟨_,_,_,v,es,g1,g2,_⟩,_⟩:=I.hok a _ h;exact cw gq I.kIn ⟨v,g1,g2.1⟩ (b4 (Y5 X.K "dict" T) e) (λz=>nomatch z) λtk=>⟨.bl b,H,I.tok tk,rfl,q⟩
    | cons _ _=>simp[tyN]at ty
   | hand h=>simp[HAND,tyN]at ty
   | scr h o=>simp[SCR,tyN]at ty
   | scrS h=>simp[SCR,tyN]at ty
   | exc h o=>simp[EXC,tyN]at ty
   | @tupS a S ds h r =>cases ty;cases(show _=bQ a from C);obtain⟨o,its,n,hk,hc,_⟩:=h;exact cw pG I.kIn ⟨o,I.kIn a o hk,hc⟩ (b4 (Y5 X.K "tuple" T) e) (λz=>nomatch z) λtk=>⟨.bl b,H,I.tok tk,rfl,q⟩
   cases ty;exact go (.lst G);cases J with
   | nil =>cases ty;cases(show _=bQ a from C);obtain⟨⟨_,_,_,v,es,g1,g2,_⟩,_⟩:=I.hok a _ G;exact cw gq I.kIn ⟨v,g1,g2.1⟩ (b4 (Y5 X.K "dict" T) e) (λz=>nomatch z) λtk=>⟨.bl b,H,I.tok tk,rfl,q⟩
   | cons _ _=>simp[tyN,J2]at ty
variable{c:bg}{d da db:DTE}
theorem Reps.atI{K:qF}{hd:Option ai}{O:ai->Prop}{H:Hp}{vs ts}{i:Int}{t}(r:Reps K hd O H vs ts)(h:L2.atI ts i=ao t):∃v,L2.atI vs i=ao v/\Rep K hd O H v t:=by
 unfold L2.atI at h ⊢;rw[r.length];cases e:ixN (fo ts) i with
 | none=>rw[e]at h;cases h
 | some j =>rw[e]at h;have h:ts[j]?=ao t:=h;exact r.get h
def oIx:G2
 | sJ ts,bu i,R=>match atI ts i with|some t=>R t|none=>False
 | lV ts,bu i,R=>match atI ts i with|some t=>R t|none=>False
 | cH x,bu i,R=>nN x<=16777216/\match atI (nK x.cps) i with|some c=>R (cH ⟨#[c]⟩)|none=>False
 | _,_,_=>False
theorem zzg:Gp2 X (rIx X.K) oIx:=by
 intro hd O H x y t u Q R dom C L h U;cases t with
 | list ts=>cases u with
  | int i =>obtain⟨p,G,rfl,N,S⟩:=C.lstI;replace h:(match atI ts i with|some t=>R t|none=>False):=h;split at h;rename_i t I;obtain⟨v,ev,J⟩:=S.atI I;exact dY ⟨p,G,i,v,rfl,L.intI,.of N,ev,U _ _ H h (Same.refl H) J⟩;exact e9 h
  | _=>exact e9 h
 | tuple ts=>cases u with
  | int i =>obtain⟨p,G,rfl,N,S⟩:=C.tupI;replace h:(match atI ts i with|some t=>R t|none=>False):=h;split at h;rename_i t I;obtain⟨v,ev,J⟩:=S.atI I;exact sr (dY ⟨p,G,i,v,rfl,L.intI,N,ev,U _ _ H h (Same.refl H) J⟩);exact e9 h
  | _=>exact e9 h
 | str z=>cases u with
  | int i =>obtain⟨h0,h⟩:=h;split at h;rename_i c Y;exact sr (sr ⟨z,i,c,C.strI,L.intI,h0,Y,U _ _ H h (Same.refl H) (.str _)⟩);exact e9 h
  | _=>exact e9 h
 | _=>exact e9 h
theorem Je(ha:DL X a da)(hb:DL X b db)(U:zoE b:=by intro _ _;rfl):DE X (ed a b pos) (dOp oIx da db):=by obtain⟨ta,pa,ha⟩:=ha;obtain⟨tb,o,hb⟩:=hb;refine⟨_,UL zvU pa o U,λC I σ H n Q R S h Z=>?_⟩;refine two ha hb S h λx y L v w H2 J e l q1 Y=>?_;exact zzg C.hd (Own C I σ) H2 v w x y Q _ (λp=>l.dom) q1 Y J λz u H' N sm G=>Z z L u H' N (e.trans sm.ext) (l.hnd.same sm) G
def dNeg(d:DTE):DTE:=λo n R=>d o n λt l=>match t with|bu i=>R (bu (-i)) l|_=>False
theorem Yc(h:DE X a da):DE X (jz .USub a pos) (dNeg da):=by
 obtain⟨Y,pa,h⟩:=h;refine⟨_,zyr ztR pa,λC o σ H n Q R S hd J=>?_⟩;refine h C o σ H n _ _ S hd λt l v I r N G L=>?_;cases t with
 | int i=>rw[L.intI];exact⟨i,rfl,J _ l _ I r N G (.int _)⟩
 | _=>exact e9 r
def zum(K:qF):R2:=λx y H Q=>∃a b xs l,x=.ref a/\y=.ref b/\SqT K H a xs/\SqT K H b l/\fo xs+fo l<=sizeLine /\
 (xs=[]->Q (.ref b) H)/\(l=[]->Q (.ref a) H)/\∀p,H p=bj->Q (.ref p) (upd H p (.tup (xs++l)))
theorem zsi:OpR X (binaryOp .Add) (zum X.K):=by
 intro pins s σ H x y v u Q I L S h;obtain⟨a,b,xs,ys,rfl,rfl,ha,hb,hz,U,q1,q2⟩:=h;by_cases hx:xs=[];cases L;cases S;obtain⟨its,r1,Y,_⟩:=I.tuple ha;obtain⟨l,r2,Z,_⟩:=I.tuple hb;have hv:its=[]:=r1.nil_iff.mpr hx;obtain⟨⟨cls,dd,data,sl⟩,N,hc,n,hd⟩:=id Y;obtain⟨⟨R,G,data2,J⟩,C,o,n2,hd2⟩:=id Z;simp only at hc hd o hd2;subst hc hd o hd2;exact pW ⟨_,N,rfl⟩ ⟨_,C,rfl⟩ nj pd i6 iV (iC _ _)
  (tuple_addW0 a b (bm its) (bm l) n n2 dd G sl J (by simp[hv])) ⟨N,C,⟨.ref b,H,I,rfl,U hx⟩⟩
 exact zsh pins s σ H _ _ v u Q I L S ⟨a,b,xs,ys,rfl,rfl,ha,hb,hx,hz,q1,λ_=>q2⟩
def oAdd:G2
 | bu i,bu j,R=>R (bu (i+j))
 | cH i,cH j,R=>nN i+nN j<=16777216/\R (cH (i++j))
 | lV xs,lV ys,R=>fo xs+fo ys<=16777216/\R (lV (xs++ys))
 | _,_,_=>False
def zun(K:qF):R2:=λx y H Q=>(rI0 λi j=>.int (i+j)) x y H Q\/(∃i j,x=.str i/\y=.str j/\nN i+nN j<=sizeLine/\Q (.str (i++j)) H)\/zum K x y H Q
theorem zsj:OpR X (binaryOp .Add) (zun X.K):=OpR.or Ul (OpR.or zlj zsi)
theorem zwr:Gp2 X (zun X.K) oAdd:=by intro hd O H x y t u Q R dom v C h o;unfold oAdd at h;split at h;exact dY ⟨_,_,v.intI,C.intI,o _ _ H h (Same.refl H) (.int _)⟩;exact sr (dY ⟨_,_,v.strI,C.strI,h.1,o _ _ H h.2 (Same.refl H) (.str _)⟩);rename_i xs Y;obtain⟨p,L,rfl,S,I⟩:=v.tupI;obtain⟨q,U,rfl,N,J⟩:=C.tupI;refine sr (sr ⟨p,q,L,U,rfl,rfl,S,N,by rw[I.length,J.length];exact h.1,λe=>?_,λe=>?_,λl G=>?_⟩);subst e;cases I;exact o _ _ H h.2 (Same.refl H) (C.rep (by intro _ z;cases z));subst e;cases J;exact o _ _ H h.2 (Same.refl H) (by rw[cE];exact v.rep (by intro _ z;cases z));exact o _ _ _ h.2 (Qf G) (.newT (λz=>dom l z G) G (I.append J));exact e9 h
theorem JR(ha:DL X a da)(hb:DL X b db):DE X (jj a .Add b pos) (dOp oAdd da db):=Q7 zsj zwr ha hb
def dCat(da db:DTE):DTA:=λo n R=>da o n λx u=>db o u λy v=>match x,y with|sJ xs,sJ ys=>fo xs+fo ys<=16777216/\R (xs++ys) v|_,_=>False
theorem Vh{K:qF}{C:Ctx}{H l:Hp}{v:Nat}{p:ai}(G:ExtE C.hd H l)(I:Hn K C.hd l v)(u:l p=bj):H p=bj:=by
 cases z:H p with
 | none=>rfl
 | some o =>by_cases y:C.hd=ao p;obtain⟨J,q⟩:=I.lst y;rw[u]at q;cases q;rw[G p o z y]at u;cases u
theorem zpj{K:qF}{hd:Option ai}{O:ai->Prop}{H:Hp}{p:ai}{o:HO}{vs ts}(l:H p=bj)(r:Reps K hd O H vs ts):Reps K hd (λa=>O a\/a=p) (upd H p o) vs ts:=by refine r.mono (λb o hb z=>h7 z id λz=>?_) λb o _ hb=>Qf l b o hb;subst z;rw[l]at hb;cases hb
theorem zn3(ha:DL X a da)(hb:DL X b db):DN X (jj a .Add b pos) (dCat da db):=by obtain⟨ta,pa,ha⟩:=ha;obtain⟨tb,L,hb⟩:=hb;refine⟨_,JL zu2 pa L,λC ρ σ H n Q R S h hq=>?_⟩;refine two ha hb S h λx y Y v w H2 u e G q1 q2=>?_;split at u;obtain⟨p,N,rfl,Z,I⟩:=q1.lstI;obtain⟨q,ws,rfl,U,J⟩:=q2.lstI;refine⟨p,q,N,ws,rfl,rfl,Z,U,by rw[I.length,J.length];exact u.1,λl o=>?_⟩;exact hq _ Y l _ _ u.2 (e.trans (ExtE.new o)) (G.hnd.same (Qf o)) (Vh e G.hnd o) J1 (zpj o (I.append J));exact e9 u
def oMul:=gI CMul λi j=>i*j
theorem Z1(ha:DL X a da)(hb:DL X b db):DE X (jj a .Mult b pos) (dOp oMul da db):=Q7 Q9 gp_I ha hb
abbrev GD:=List af->Nat->qN->Prop
def spD(K:qF)(m:Nat)(g:GD):Sp:=λo H Q _=>∃(hd:Option ai) (O:ai->Prop) (ts:qD) (n:Nat) (R:qN),Reps K hd O H o ts/\Hn K hd H n/\(∀a,O a->MutO (H a))/\(∀a,hd=ao a->O a)/\fo ts=m/\g ts n R /\
 ∀t l v H',R t l->ExtE hd H H'->Hn K hd H' l->Rep K hd O H' v t->Q v H'
def dFn(g:GD)(ds:DTA):DTE:=λo n R=>ds o n λts l=>g ts l R
theorem zzl{st:e8}{ps:List Str}{f:ai}{fd:dU}{g:GD}{m:Nat}(D:Bd.Def X.K X.mg x st ps f fd)(G:FnOk X.prog X.w X.K X.mg X.base CX0 k f fd ps (spD X.K m g))(Z:Room k X.A)(h:DB X (e::es) ds)(hm:fo (e::es)=m:=by rfl)(hg:Gl X x:=by rfl)
  (o:Ndb x:=by rfl):DE X (f9 (bv x p) (e::es) [] pos) (dFn g ds):=by
 obtain⟨ta,pa,h⟩:=h;refine⟨_,Bd.zr3 D G Z pa hg o,λC u σ H n Q R S hd hq=>?_⟩;refine h C u σ H n _ _ S hd λts L vs H1 r1 J I q1 U=>?_;have S1:=S.on J I;rw[cE];exact⟨C.hd,Own C u σ,ts,L,R,q1,I,λa=>S1.lst,λa z=>dY (S.hx a z),b4 U hm,r1,λt n' v H' rt Y h2 q2=>hq t n' v H' rt (J.trans Y) h2 q2⟩
def dFnL(g:GD)(ds:DTA):DTE:=λu n R=>ds u n λts l=>g ts l λt o=>Qg t=du/\R t o
theorem zwK{st:e8}{ps:List Str}{f:ai}{fd:dU}{g:GD}{m:Nat}(D:Bd.Def X.K X.mg x st ps f fd)(G:FnOk X.prog X.w X.K X.mg X.base CX0 k f fd ps (spD X.K m g))(hr:Room k X.A)(h:DBL X (e::es) ds)(hm:fo (e::es)=m:=by rfl)(hg:Gl X x:=by rfl)
  (J:Ndb x:=by rfl):DE X (f9 (bv x p) (e::es) [] pos) (dFnL g ds):=by
 obtain⟨ta,pa,h⟩:=h;refine⟨_,Bd.zr3 D G hr pa hg J,λC Z σ H n Q R S hd hq=>?_⟩;refine h C Z σ H n _ _ S hd λts n1 u H1 r1 e1 L q1 l1=>?_;have S1:=S.on e1 L;rw[cE];have lend:∀{u ts},ZA X.K C.hd (Own C Z σ) H1 u ts->Reps X.K C.hd (λa=>C.hd=ao a) H1 u ts:=by
  intro u ts q;induction q with
  | nil=>exact .nil
  | cons r _ ih =>refine .cons ?_ ih;rcases r with r|⟨a,ws,us,rfl,rfl,I,Y,U⟩|⟨a,zs,ep,ks,rfl,rfl,I,Y,U⟩;exact r.mono (λa o _ z=>dY (S.hx a z)) λ_ _ _ z=>z;exact .lst I U (Y.mono (λa o _ z=>dY (S.hx a z)) λ_ _ _ z=>z);exact .dcT I U (Y.mono (λa o _ z=>dY (S.hx a z)) λ_ _ _ z=>z) rfl
 refine⟨C.hd,λa=>C.hd=ao a,ts,n1,_,lend q1,L,λa z=>?_,λa z=>z,b4 l1 hm,r1,λt n' v H' rt e2 h2 q2=>?_⟩;obtain⟨u,q⟩:=L.lst z;exact dY ⟨_,q⟩;exact hq t n' v H' rt.2 (e1.trans e2) h2 (q2.up (λa z=>(S1.on e2 h2).lst z) rt.1)
end
section
variable{X:Cx}{H H':Hp}{s s':ax}{C e:ai}
def Fly1(P:aK)(w:aV)(l:List Env)(H H':Hp)(h:bq)(C e:ai)(h':bq):Prop :=
 ∃B a0,Heap.FlyingW B l e (bQ C) a0 h'/\H' e=bj/\bi h e=bj/\∀o,B.StaysIn o->h'.UpToSlots o->Un (frs l) [] H H' h o/\HOk P w H' o
inductive FlyX (X:Cx)(C:ai)(H':Hp)(e:ai)(s':ax):Prop
 | made {LY:qO} {σ':St} {s h1} (I:Inv X LY σ' H' s) (m:Heap.MadeExcOf s.heap h1 e (bQ C) []) (hs:s'={ s with heap:=h1 })
 | on {LY:qO} {σ':St} {H1:Hp} {s} (I:Inv X LY σ' H1 s) (os:s'.os=s.os) (bare:lI s'.gens) (f:Fly1 X.prog X.w X.stack H1 H' s.heap C e s'.heap)
def XW(X:Cx)(C:ai)(H':Hp):Prop:=∀e s',FlyX X C H' e s'->X.xe (bQ e) s'
end
def Keep(C:Ctx)(u:En)(σ:St)(H:Hp)(l:En)(σ':St)(H':Hp):Prop:=∀a o,H a=ao o->C.hd≠ao a->¬OwnS u σ a->H' a=ao o/\¬OwnS l σ' a
structure JY where
 nx:En->Nat->Prop
 rt:qN
 bk:En->Nat->Prop:=λ_ _=>False
 ct:En->Nat->Prop:=λ_ _=>False
 xr:Str->Nat->Prop:=λ_ _=>False
abbrev DTS:=JY->En->Nat->Prop
def XN(X:Cx)(c:Str)(H':Hp):Prop:=∀C,X.mg c=ao (bQ C)->XW X C H'
structure Good(X:Cx)(C:Ctx)(ρ:En)(σ:St)(H:Hp)(D:Ends)(D':JY):Prop where
 nx:∀ρ' σ' H' n',D'.nx ρ' n'->Stt X.K C ρ' σ' H' n'->Keep C ρ σ H ρ' σ' H'->D.nx σ' H'
 rt:∀t n' v H',D'.rt t n'->Hn X.K C.hd H' n'->(∀a o,H a=ao o->C.hd≠ao a->¬OwnS ρ σ a->H' a=ao o)->Rep X.K C.hd C.ext H' v t->D.rt v H'
 bk:∀ρ' σ' H' n',D'.bk ρ' n'->Stt X.K C ρ' σ' H' n'->Keep C ρ σ H ρ' σ' H'->D.bk σ' H'
 ct:∀ρ' σ' H' n',D'.ct ρ' n'->Stt X.K C ρ' σ' H' n'->Keep C ρ σ H ρ' σ' H'->D.ct σ' H'
 xr:∀c n' H',D'.xr c n'->Hn X.K C.hd H' n'->(∀a o,H a=ao o->C.hd≠ao a->¬OwnS ρ σ a->H' a=ao o)->XN X c H'
def DS(X:Cx)(st:e8)(d:DTS):Prop:=∃ts,PS X st ts/\∀(C:Ctx) (l:En) (σ:St) (H:Hp) (n:Nat) (D:Ends) (o:JY),Stt X.K C l σ H n->d o l n->Good X C l σ H D o->ts D σ H
def DSs(X:Cx)(st:List e8)(d:DTS):Prop:=∃ts,PSs X st ts/\∀(C:Ctx) (l:En) (σ:St) (H:Hp) (n:Nat) (D:Ends) (o:JY),Stt X.K C l σ H n->d o l n->Good X C l σ H D o->ts D σ H
section
variable{K:qF}{C:Ctx}{ρ ρ1 ρ2:En}{σ σ1 σ2:St}{H H1 H2:Hp}{n n1:Nat}{D:Ends}{D':JY}
theorem Keep.refl:Keep C ρ σ H ρ σ H:=λ_ _ h _ no=>⟨h,no⟩
theorem Keep.trans(v:Keep C ρ σ H ρ1 σ1 H1)(G:Keep C ρ1 σ1 H1 ρ2 σ2 H2):Keep C ρ σ H ρ2 σ2 H2:=λa o h u no=>by obtain⟨x,l⟩:=v a o h u no;exact G a o x u l
theorem ExtE.keep(e:ExtE C.hd H H1):Keep C ρ σ H ρ σ H1:=λa o h l no=>⟨e a o h l,no⟩
theorem Good.on{X:Cx}(g:Good X C ρ σ H D D')(k:Keep C ρ σ H ρ1 σ1 H1):Good X C ρ1 σ1 H1 D D' where
 nx:=λl σ' H' u h S x=>g.nx l σ' H' u h S (k.trans x)
 rt:=λt u v H' h L x r=>g.rt t u v H' h L (λa o ha I no=>by obtain⟨J,G⟩:=k a o ha I no;exact x a o J I G) r
 bk:=λl σ' H' u h S x=>g.bk l σ' H' u h S (k.trans x)
 ct:=λl σ' H' u h S x=>g.ct l σ' H' u h S (k.trans x)
 xr:=λc u H' h L x=>g.xr c u H' h L λa o ha I no=>by obtain⟨J,G⟩:=k a o ha I no;exact x a o J I G
theorem Keep.rep(k:Keep C ρ σ H ρ1 σ1 H1)(hx:∀a,C.hd=ao a->C.ext a){v t}(r:Rep K C.hd (Own C ρ σ) H v t):Rep K C.hd (Own C ρ1 σ1) H1 v t :=
 Rep.mono (O:=Own C ρ σ) (λa o h z=>by by_cases q:Own C ρ σ a;exact q;rcases z with z|z;exact dY z;exact absurd z (k a o h (λy=>q (dY (hx a y))) λy=>q (sr y)).2) (λa o no h=>(k a o h (λy=>no (dY (hx a y))) λy=>no (sr y)).1) r
theorem Keep.reps(k:Keep C ρ σ H ρ1 σ1 H1)(hx:∀a,C.hd=ao a->C.ext a){v t}(r:Reps K C.hd (Own C ρ σ) H v t):Reps K C.hd (Own C ρ1 σ1) H1 v t :=
 Reps.mono (O:=Own C ρ σ) (λa o h z=>by by_cases q:Own C ρ σ a;exact q;rcases z with z|z;exact dY z;exact absurd z (k a o h (λy=>q (dY (hx a y))) λy=>q (sr y)).2) (λa o no h=>(k a o h (λy=>no (dY (hx a y))) λy=>no (sr y)).1) r
theorem JI{α:Type}{l:List (Option α)}{i j:Nat}{v w:α}(h:(ce l i (ao v))[j]?=ao (ao w)):(i=j/\v=w)\/(i≠j/\l[j]?=ao (ao w)):=by by_cases e:i=j;subst e;rw[gu]at h;simp only[↓reduceIte]at h;split at h;simp at h;exact dY ⟨rfl,h⟩;cases h;rw[cq e]at h;exact sr ⟨e,h⟩
theorem YW{α:Type}{l:List (Option α)}{i j:Nat}{v w:α}(e:i≠j)(h:l[j]?=ao (ao w)):(ce l i (ao v))[j]?=ao (ao w):=by rw[cq e];exact h
theorem zqR{α:Type}{l:List (Option α)}{i j:Nat}{v:α}{w:Option α}(h:(ce l i (ao v))[j]?=ao w)(e:i=j):i<fo l:=by subst e;rw[gu]at h;simp only[↓reduceIte]at h;split at h;assumption;cases h
theorem zmp{α:Type}{l:List (Option α)}{i:Nat}{v:α}(h:i<fo l):(ce l i (ao v))[i]?=ao (ao v):=by rw[gu];simp[h]
theorem WE{i:Nat}{t:af}{v:V}{a:ai}(h:OwnS (ce ρ i (ao (.val t))) (ce σ i (ao v)) a):OwnS ρ σ a:=by obtain⟨j,c,m,u,o⟩:=h;rcases JI u with⟨_,z⟩|⟨e,u⟩;subst z;cases m;rcases JI o with⟨z,_⟩|⟨_,o⟩;exact absurd z e;exact⟨j,c,m,u,o⟩
def QY(K:qF)(hd:Option ai)(O:ai->Prop)(H:Hp)(a:ai):Cell->Prop
 | .val _=>False
 | .rdo _=>False
 | .own ts=>∃G,H a=ao (.lst G)/\Reps K hd O H G ts
 | .dct x=>∃u,H a=ao (.dK u)/\U7 K hd O H u x
 | .dtt x=>∃zs I,H a=ao (ZDO a zs I)/\Jx K hd O H zs x
theorem QY.mono(x:QY K hd O H a c)(I:∀a o,H a=ao o->O' a->O a)(G:∀a o,¬O a->H a=ao o->H' a=ao o)(ha:∀o,H a=ao o->H' a=ao o):QY K hd O' H' a c:=by
 cases c with
 | val _=>exact e9 x
 | rdo _=>exact e9 x
 | own ts=>obtain⟨l,v,u⟩:=x;exact⟨l,ha _ v,u.mono I G⟩
 | dct L=>obtain⟨l,v,u⟩:=x;exact⟨l,ha _ v,u.mono I G⟩
 | dtt L=>obtain⟨l,J,v,u⟩:=x;exact⟨l,J,ha _ v,u.mono I G⟩
theorem QY.some(x:QY K hd O H a c):∃o,H a=ao o:=by
 cases c with
 | val _=>exact e9 x
 | rdo _=>exact e9 x
 | own ts=>obtain⟨u,l,v⟩:=x;exact⟨_,l⟩
 | dct G=>obtain⟨u,l,v⟩:=x;exact⟨_,l⟩
 | dtt G=>obtain⟨u,I,l,v⟩:=x;exact⟨_,l⟩
theorem QY.mine(x:QY K hd O H a c):c.mine=du:=by
 cases c with
 | val _=>exact e9 x
 | rdo _=>exact e9 x
 | own ts=>rfl
 | dct l=>rfl
 | dtt l=>rfl
theorem Stt.cell(S:Stt K C ρ σ H n){i:Nat}{c:Cell}(m:c.mine=du)(h:ρ[i]?=ao (ao c)):∃a:ai,σ[i]?=ao (ao (V.ref a))/\QY K C.hd (Own C ρ σ) H a c/\¬C.ext a:=by
 cases c with
 | val _=>cases m
 | rdo _=>cases m
 | own ts=>obtain⟨a,l,x,u,o,v⟩:=S.own i ts h;exact⟨a,x,⟨l,u,o⟩,v⟩
 | dct G=>obtain⟨a,l,x,u,o,v⟩:=S.dct i G h;exact⟨a,x,⟨l,u,o⟩,v⟩
 | dtt G=>obtain⟨a,l,I,x,u,o,v⟩:=S.dtt i G h;exact⟨a,x,⟨l,I,u,o⟩,v⟩
def ztF(K:qF)(C:Ctx)(ρ:En)(σ:St)(H:Hp):Prop:=∀(i:Nat) (o:List (Key×af)),ρ[i]?=ao (ao (Cell.rdo o))->∃a l,σ[i]?=ao (ao (V.ref a))/\H a=ao (.dK l)/\U7 K C.hd (Own C ρ σ) H l o/\C.ext a/\C.hd≠ao a
theorem Stt.mk'(len:fo ρ=fo σ)(val:∀(i:Nat) (d:af),ρ[i]?=ao (ao (Cell.val d))->∃v,σ[i]?=ao (ao v)/\Rep K C.hd (Own C ρ σ) H v d)
  (cell:∀(i:Nat) (c:Cell),c.mine=du->ρ[i]?=ao (ao c)->∃a:ai,σ[i]?=ao (ao (V.ref a))/\QY K C.hd (Own C ρ σ) H a c/\¬C.ext a)
  (rdo:ztF K C ρ σ H) (dif:∀(i j:Nat) (c e:Cell) (a:ai),c.mine=du->e.mine=du->ρ[i]?=ao (ao c)->ρ[j]?=ao (ao e)->σ[i]?=ao (ao (V.ref a))->σ[j]?=ao (ao (V.ref a))->i=j)
  (hnd:Hn K C.hd H n) (ext:∀a,C.ext a->MutO (H a)) (hx:∀a,C.hd=ao a->C.ext a):Stt K C ρ σ H n where
 len:=len
 val:=val
 own:=λi ts h=>by obtain⟨a,u,⟨l,x,o⟩,G⟩:=cell i _ rfl h;exact⟨a,l,u,x,o,G⟩
 dct:=λi ts h=>by obtain⟨a,u,⟨l,x,o⟩,G⟩:=cell i _ rfl h;exact⟨a,l,u,x,o,G⟩
 rdo:=rdo
 dtt:=λi ts h=>by obtain⟨a,u,⟨l,I,x,o⟩,G⟩:=cell i _ rfl h;exact⟨a,l,I,u,x,o,G⟩
 dif:=dif
 hnd:=hnd
 ext:=ext
 hx:=hx
theorem Stt.put(S:Stt K C ρ σ H n){i:Nat}{t:af}{v:V}(r:Rep K C.hd (Own C ρ σ) H v t):Stt K C (ce ρ i (ao (.val t))) (ce σ i (ao v)) H n:=by
 have sub:∀a o,H a=ao o->Own C (ce ρ i (ao (.val t))) (ce σ i (ao v)) a->Own C ρ σ a:=λa o _ z=>h7 z dY λz=>sr (WE z);have mono:∀{w u},Rep K C.hd (Own C ρ σ) H w u->Rep K C.hd (Own C (ce ρ i (ao (.val t))) (ce σ i (ao v))) H w u:=λq=>q.mono sub λ_ _ _ z=>z;refine .mk' (by simp[S.len]) (λj d h=>?_) (λj c m h=>?_) (λj Z h=>?_) (λj k c e a m1 m2 x G J h4=>?_) S.hnd S.ext S.hx
 rotate_left 2
 rcases JI h with⟨_,z⟩|⟨e,h'⟩;cases z;obtain⟨a,U,q1,q2,q3,q4⟩:=S.rdo j Z h';exact⟨a,U,YW e q1,q2,q3.mono sub λ_ _ _ z=>z,q4⟩
 rotate_left 1
 rcases JI h with⟨e,z⟩|⟨e,h'⟩;cases z;have:=zqR h e;subst e;exact⟨v,zmp (by rw[<- S.len];exact this),mono r⟩;obtain⟨w,x,G⟩:=S.val j d h';exact⟨w,YW e x,mono G⟩;rcases JI h with⟨e,z⟩|⟨e,h'⟩;subst z;cases m;obtain⟨a,x,G,J⟩:=S.cell m h';exact⟨a,YW e x,G.mono sub (λ_ _ _ z=>z) λ_ z=>z,J⟩;rcases JI x with⟨e,z⟩|⟨e,R⟩;subst z;cases m1;rcases JI G with⟨Y,z⟩|⟨Y,I⟩;subst z;cases m2;rcases JI J with⟨z,_⟩|⟨_,N⟩;exact absurd z e;rcases JI h4 with⟨z,_⟩|⟨_,L⟩;exact absurd z Y;exact S.dif j k c _ a m1 m2 R I N L
theorem QT:Keep C ρ σ H (ce ρ i (ao (.val t))) (ce σ i (ao v)) H:=λa o h _ no=>⟨h,λz=>no (WE z)⟩
theorem zkr{i:Nat}{c:Cell}{p a:ai}(h:OwnS (ce ρ i (ao c)) (ce σ i (ao (.ref p))) a):OwnS ρ σ a\/a=p:=by obtain⟨j,ds,m,u,o⟩:=h;rcases JI o with⟨e,z⟩|⟨e,o⟩;cases z;exact sr rfl;rcases JI u with⟨z,_⟩|⟨_,u⟩;exact absurd z e;exact dY ⟨j,ds,m,u,o⟩
theorem Stt.putNew(S:Stt K C ρ σ H n){i:Nat}{c:Cell}{p:ai}{H':Hp}(e:ExtE C.hd H H')(h:Hn K C.hd H' n1)(hp:H p=bj)(r:QY K C.hd (λa=>Own C ρ σ a\/a=p) H' p c) :
  Stt K C (ce ρ i (ao c)) (ce σ i (ao (.ref p))) H' n1:=by
 have S':=S.on e h;have mc:=r.mine;have sub:∀a,Own C (ce ρ i (ao c)) (ce σ i (ao (.ref p))) a->Own C ρ σ a\/a=p:=λa z=>h7 z (λz=>dY (dY z)) λz=>h7 (zkr z) (λz=>dY (sr z)) sr;have npx:¬C.ext p:=λz=>S.dom (dY z) hp;have sb:∀a o,H a=ao o->Own C (ce ρ i (ao c)) (ce σ i (ao (.ref p))) a->Own C ρ σ a:=λa o J z=>h7 (sub a z) id λz=>by subst z;rw[hp]at J;cases J
 have kp:∀a o,¬Own C ρ σ a->H a=ao o->H' a=ao o:=λa o no J=>e a o J λz=>no (dY (S.hx a z));have ME:∀(j:Nat) (d:Cell),d.mine=du->ρ[j]?=ao (ao d)->σ[j]?≠ao (ao (V.ref p)):=λj d m I v=>by obtain⟨a,e1,Z,_⟩:=S.cell m I;rw[v]at e1;cases e1;obtain⟨o,Z⟩:=Z.some;rw[hp]at Z;cases Z
 refine .mk' (by simp[S.len]) (λj d L=>?_) (λj d m L=>?_) (λj ks L=>?_) (λj k c1 c2 a m1 m2 I v h3 Y=>?_) h S'.ext S.hx
 rotate_left 2
 rcases JI L with⟨_,z⟩|⟨u,h'⟩;subst z;cases mc;obtain⟨a,kvs,q1,q2,q3,q4,q5⟩:=S.rdo j ks h';exact⟨a,kvs,YW u q1,e a _ q2 q5,q3.mono sb kp,q4,q5⟩
 rotate_left 1
 rcases JI L with⟨_,z⟩|⟨u,h'⟩;subst z;cases mc;obtain⟨w,I,v⟩:=S.val j d h';exact⟨w,YW u I,v.mono sb kp⟩;rcases JI L with⟨u,z⟩|⟨u,h'⟩;subst z;have:=zqR L u;subst u;exact⟨p,zmp (by rw[<- S.len];exact this),r.mono (λa o _ z=>sub a z) (λ_ _ _ z=>z) λ_ z=>z,npx⟩;obtain⟨a,I,v,Y⟩:=S.cell m h';exact⟨a,YW u I,v.mono sb kp (λo J=>e a o J λz=>Y (S.hx a z)),Y⟩;rcases JI h3 with⟨e3,z3⟩|⟨e3,R⟩;cases z3;rcases JI Y with⟨N,_⟩|⟨N,G⟩;rw[<- e3,<- N];rcases JI v with⟨z,_⟩|⟨_,x⟩;exact absurd z N;exact absurd G (ME k _ m2 x);rcases JI I with⟨z,_⟩|⟨_,U⟩;exact absurd z e3;rcases JI Y with⟨N,z4⟩|⟨N,G⟩;cases z4;exact absurd R (ME j _ m1 U);rcases JI v with⟨z,_⟩|⟨_,x⟩;exact absurd z N;exact S.dif j k _ _ a m1 m2 U x R G
theorem Stt.putOwn(S:Stt K C ρ σ H n)(e:ExtE C.hd H H')(h:Hn K C.hd H' n1)(v:H p=bj)(u:H' p=ao (.lst vs))(r:Reps K C.hd (λa=>Own C ρ σ a\/a=p) H' vs ts) :
  Stt K C (ce ρ i (ao (.own ts))) (ce σ i (ao (.ref p))) H' n1:=S.putNew e h v ⟨vs,u,r⟩
theorem zjK(e:ExtE C.hd H H')(v:H p=bj):Keep C ρ σ H (ce ρ i (ao c)) (ce σ i (ao (.ref p))) H':=λa o h u no =>
 ⟨e a o h u,λz=>h7 (zkr z) no λz=>by subst z;rw[v]at h;cases h⟩
theorem zdu(e:ExtE C.hd H H')(l:H p=bj):Keep C ρ σ H (ce ρ i (ao (.own ts))) (ce σ i (ao (.ref p))) H':=zjK e l
theorem Stt.chgC(S:Stt K C ρ σ H n){i:Nat}{c G:Cell}{p:ai}{N:HO}(m:c.mine=du)(m':G.mine=du)(Y:ρ[i]?=ao (ao c))(U:σ[i]?=ao (ao (.ref p)))
  (r:∀(O':ai->Prop) (H':Hp),(∀a o,H a=ao o->O' a->Own C ρ σ a)->(∀a o,¬Own C ρ σ a->H a=ao o->H' a=ao o)->H' p=ao N->QY K C.hd O' H' p G) :
  Stt K C (ce ρ i (ao G)) σ (upd H p N) n/\Keep C ρ σ H (ce ρ i (ao G)) σ (upd H p N):=by
 have op:OwnS ρ σ p:=⟨i,c,m,Y,U⟩;obtain⟨p',e1,hp,x⟩:=S.cell m Y;rw[U]at e1;cases e1;have Ml:∀a,OwnS (ce ρ i (ao G)) σ a->OwnS ρ σ a:=λa ⟨j,d,I,u,v⟩=>by rcases JI u with⟨e,_⟩|⟨e,u⟩;subst e;rw[U]at v;cases v;exact op;exact⟨j,d,I,u,v⟩
 have sub:∀a o,H a=ao o->Own C (ce ρ i (ao G)) σ a->Own C ρ σ a:=λa o _ z=>h7 z dY λz=>sr (Ml a z);have kp:∀a o,¬Own C ρ σ a->H a=ao o->upd H p N a=ao o:=λa o no Z=>by rw[Ju (show a≠p from λz=>no (by rw[z];exact sr op))];exact Z
 have rd:ztF K C (ce ρ i (ao G)) σ (upd H p N):=λj ks R=>by rcases JI R with⟨_,z⟩|⟨L,h'⟩;subst z;cases m';obtain⟨a,kvs,u,v,q3,J,q5⟩:=S.rdo j ks h';exact⟨a,kvs,u,by rw[Ju (show a≠p from λz=>x (by rw[<- z];exact J))];exact v,q3.mono sub kp,J,q5⟩
 refine⟨.mk' (by simp[S.len]) (λj d R=>?_) (λj d I R=>?_) rd (λj k c1 c2 a m1 m2 u v q3 J=>?_) (λa ha=>?_) (λa ha=>?_) S.hx,λa o h nh no=>⟨by rw[Ju (show a≠p from λz=>no (by rw[z];exact op))];exact h,λz=>no (Ml a z)⟩⟩;rcases JI R with⟨_,z⟩|⟨L,h'⟩;subst z;cases m';obtain⟨w,u,v⟩:=S.val j d h';exact⟨w,u,v.mono sub kp⟩;rcases JI R with⟨L,z⟩|⟨L,h'⟩;subst z;subst L;exact⟨p,U,r _ _ sub kp J1,x⟩;obtain⟨a,u,v,J⟩:=S.cell I h';have:a≠p:=λz=>by subst z;exact L (S.dif i j c d a m I Y h' U u)
 exact⟨a,u,v.mono sub kp (λo Z=>by rw[Ju this];exact Z),J⟩;have get:∀(j:Nat) (d:Cell),d.mine=du->(ce ρ i (ao G))[j]?=ao (ao d)->∃d':Cell,d'.mine=du/\ρ[j]?=ao (ao d'):=λj d I q=>by rcases JI q with⟨e,_⟩|⟨_,q⟩;subst e;exact⟨_,m,Y⟩;exact⟨_,I,q⟩
 obtain⟨d1,md1,g1⟩:=get j c1 m1 u;obtain⟨d2,md2,g2⟩:=get k c2 m2 v;exact S.dif j k d1 d2 a md1 md2 g1 g2 q3 J;have ne:a≠p:=λz=>x (by rw[<- z];exact S.hx a ha);rcases S.hnd a ha with⟨⟨d,m,t,q,rest⟩,l⟩|⟨l,q⟩;exact dY ⟨⟨d,m,t,by rw[Ju ne];exact q,rest⟩,l⟩;exact sr ⟨l,q.upd ne (S.lst (sr op))⟩;by_cases z:a=p;subst z;exact absurd ha x;rw[Ju z];exact S.ext a ha
theorem Stt.chg(S:Stt K C ρ σ H n)(x:ρ[i]?=ao (ao (.own ts)))(u:σ[i]?=ao (ao (.ref p)))(r:Reps K C.hd (Own C ρ σ) H ws us) :
  Stt K C (ce ρ i (ao (.own us))) σ (upd H p (.lst ws)) n/\Keep C ρ σ H (ce ρ i (ao (.own us))) σ (upd H p (.lst ws)):=S.chgC rfl rfl x u λ_ _ a b v=>⟨ws,v,r.mono a b⟩
theorem Stt.freeze(S:Stt K C ρ σ H n){i:Nat}{ts:qD}(Y:ρ[i]?=ao (ao (.own ts))):Stt K C (ce ρ i (ao (.val (sJ ts)))) σ H n/\Keep C ρ σ H (ce ρ i (ao (.val (sJ ts)))) σ H:=by
 obtain⟨p,vs,Z,hp,hr,R⟩:=S.own i ts Y;have N:∀a,OwnS (ce ρ i (ao (.val (sJ ts)))) σ a->OwnS ρ σ a/\a≠p:=λa ⟨j,ds,m,u,x⟩=>by rcases JI u with⟨_,z⟩|⟨e,u⟩;subst z;cases m;exact⟨⟨j,ds,m,u,x⟩,λz=>by subst z;exact e (S.dif i j (.own ts) ds a rfl m Y u Z x)⟩
 have sub:∀a o,H a=ao o->Own C (ce ρ i (ao (.val (sJ ts)))) σ a->Own C ρ σ a:=λa o _ z=>h7 z dY λz=>sr (N a z).1;have rd:ztF K C (ce ρ i (ao (.val (sJ ts)))) σ H:=λj ks I=>by rcases JI I with⟨_,z⟩|⟨L,h'⟩;cases z;obtain⟨a,U,u,x,G,J⟩:=S.rdo j ks h';exact⟨a,U,u,x,G.mono sub λ_ _ _ z=>z,J⟩
 refine⟨.mk' (by simp[S.len]) (λj d I=>?_) (λj d m I=>?_) rd (λj k c1 c2 a m1 m2 u x G J=>?_) S.hnd S.ext S.hx,λa o h _ no=>⟨h,λz=>no (N a z).1⟩⟩;rcases JI I with⟨L,z⟩|⟨L,h'⟩;cases z;subst L;exact⟨.ref p,Z,.lst hp (λz=>h7 z R λz=>(N p z).2 rfl) (hr.mono sub λ_ _ _ z=>z)⟩;obtain⟨w,u,x⟩:=S.val j d h';exact⟨w,u,x.mono sub λ_ _ _ z=>z⟩;rcases JI I with⟨_,z⟩|⟨L,h'⟩;subst z;cases m;obtain⟨a,u,G,J⟩:=S.cell m h';exact⟨a,u,G.mono sub (λ_ _ _ z=>z) λ_ z=>z,J⟩;rcases JI u with⟨_,z⟩|⟨_,g1⟩;subst z;cases m1;rcases JI x with⟨_,z⟩|⟨_,g2⟩;subst z;cases m2;exact S.dif j k _ _ a m1 m2 g1 g2 G J
end
section
variable{X:Cx}{a b c e:bg}{es:List bg}{d:DTE}{ds:DTA}{dt:DTT}{t u:DTS}{st:e8}{sts sa sb:List e8}{pos p:Pos}{k:Nat}{x:Str}
def VV:DTS:=λD l n=>D.nx l n
def sSeq(t u:DTS):DTS:=λD l n=>t { D with nx:=u D } l n
theorem Jq:DSs X [] VV:=⟨_,Wv,λC l σ H n D o S h g=>g.nx l σ H n h S Keep.refl⟩
theorem Jb(o:DS X st t)(v:DSs X sts u):DSs X (st::sts) (sSeq t u):=by obtain⟨Y,pa,o⟩:=o;obtain⟨U,G,v⟩:=v;refine⟨_,QM pa G,λC I σ H n D N S h g=>?_⟩;exact o C I σ H n _ _ S h ⟨λl σ' H' J R L k=>v C l σ' H' J D N L R (g.on k),g.rt,g.bk,g.ct,g.xr⟩
theorem Jc(l:DS X st t):DSs X [st] t:=by obtain⟨o,pa,l⟩:=l;exact⟨_,Zi pa,l⟩
def Ve(i:Nat)(t:DTS):DTS:=λD C n=>match C[i]? with|some (ao (.own ts))=>t D (ce C i (ao (.val (sJ ts)))) n|_=>False
theorem Uh(i:Nat)(l:DSs X sts t):DSs X sts (Ve i t):=by obtain⟨I,pa,l⟩:=l;refine⟨_,pa,λC J σ H n D v S h g=>?_⟩;unfold Ve at h;split at h;rename_i ts o;obtain⟨G,kp⟩:=S.freeze o;exact l C _ σ H n D v G h (g.on kp);exact e9 h
def sRet(d:DTE):DTS:=λD o n=>d o n λt l=>D.rt t l
theorem Jf(h:DE X e d):DS X (.Return (ao e) pos) (sRet d):=by obtain⟨U,pa,h⟩:=h;refine⟨_,ZR pa,λC I σ H n D Y S hd g=>?_⟩;refine h C I σ H n _ _ S hd λt J v H' r N L q=>?_;exact g.rt t J v H' r L (λa o ha G _=>N a o ha G) (q.mono (λ_ _ _ z=>dY z) λ_ _ _ z=>z)
def sIf(c:DTT)(t u:DTS):DTS:=λD l n=>c l n λb o=>if b=du then t D l o else u D l o
theorem Jo(hc:DT X c dt)(v:DSs X sa t)(G:DSs X sb u):DS X (.If c sa sb pos) (sIf dt t u):=by
 obtain⟨Z,pc,hc⟩:=hc;obtain⟨ta,pa,v⟩:=v;obtain⟨Y,U,G⟩:=G;refine⟨_,VS pc pa U,λC o σ H n D L S hd g=>?_⟩;refine hc C o σ H n _ _ S hd λb J N r l R=>?_;cases b with
 | true=>exact iteT (v C o σ N J D L (S.on l R) (by simpa using r) (g.on l.keep))
 | false=>exact iteF (G C o σ N J D L (S.on l R) (by simpa using r) (g.on l.keep))
def sSet(i:Nat)(d:DTE):DTS:=λD o n=>d o n λt C=>D.nx (ce o i (ao (.val t))) C
theorem zwC(I:X.N.Nodup)(hi:X.N[i]?=ao x)(hx:Loc (d0 X.env) x)(h:DE X e d)(L:swapsWith e (ao (bv x pos')) pos.line X.env=pure dy:=by rfl)(hf:Fnl X x:=by walk_at "F") :
  DS X (ii [bv x pos'] e pos) (sSet i d):=by
 obtain⟨R,pa,h⟩:=h;refine⟨_,Q1 I hi hx pa L hf,λC o σ H n D U S hd g=>?_⟩;refine h C o σ H n _ _ S hd λt G v H' r l J q=>?_;exact g.nx _ _ H' G r ((S.on l J).put q) (l.keep.trans QT)
def sOwn(i:Nat)(d:DTA):DTS:=λD l n=>d l n λts v=>D.nx (ce l i (ao (.own ts))) v
theorem Uo(J:X.N.Nodup)(hi:X.N[i]?=ao x)(hx:Loc (d0 X.env) x)(h:DN X e ds)(R:swapsWith e (ao (bv x pos')) pos.line X.env=pure dy:=by rfl)(hf:Fnl X x:=by walk_at "F") :
  DS X (ii [bv x pos'] e pos) (sOwn i ds):=by
 obtain⟨Y,pa,h⟩:=h;refine⟨_,Q1 J hi hx pa R hf,λC G σ H n D Z S hd g=>?_⟩;refine h C G σ H n _ _ S hd λts I p U H' r v L o l q=>?_;exact g.nx _ _ H' I r (S.putOwn v L o l q) (zdu v o)
def sAug(i:Nat)(f:Int->Int->Int)(d:DTE):DTS:=λD o n=>match o[i]? with
 | some (ao (.val (bu j)))=>d o n λt C=>match t with|bu k=>D.nx (ce o i (ao (.val (bu (f j k))))) C|_=>False
 | _=>False
theorem zrq(J:X.N.Nodup)(hi:X.N[i]?=ao x)(hx:Loc (d0 X.env) x)(h:DE X e d)(o:PIp X op (ipI f))(hf:Fnl X x:=by walk_at "F") :
  DS X (jC (bv x pos') op e pos) (sAug i f d):=by
 obtain⟨Z,pa,h⟩:=h;refine⟨_,zq4 J hi hx pa o hf,λC G σ H n D D' S hd g=>?_⟩;unfold sAug at hd;split at hd;rename_i j L;obtain⟨v,R,U⟩:=S.val i _ L;refine⟨v,R,h C G σ H n _ _ S hd λt I w H' r l Y q=>?_⟩;cases t with
 | int k=>exact⟨j,k,U.intI,q.intI,g.nx _ _ H' I r ((S.on l Y).put (.int _)) (l.keep.trans QT)⟩
 | _=>exact e9 r
 exact e9 hd
abbrev DTG:=af->En->(En->Prop)->Prop
abbrev DTGs:=List af->En->(En->Prop)->Prop
def DG(X:Cx)(tg:bg)(is:List Nat)(d:DTG):Prop:=(∀t o R,d t o R->∃l,R l)/\∃g,PG X tg g/\∀(C:Ctx) (o:En) (σ:St) (H:Hp) (n:Nat) (v:V) (t:af) (Q:St->Hp->Prop) (R:En->Prop),Stt X.K C o σ H n->Rep X.K C.hd (Own C o σ) H v t->d t o R ->
 (∀l σ',R l->Stt X.K C l σ' H n->Keep C o σ H l σ' H->(∀j,j∉is->σ'[j]?=σ[j]?)->fo σ'=fo σ->Q σ' H)->g v σ H Q
def DGs(X:Cx)(v:List bg)(is:List Nat)(d:DTGs):Prop:=(∀ts o R,d ts o R->fo ts=fo v)/\(∀t o R,d t o R->∃l,R l)/\∃g,PGs X v g/\∀(C:Ctx) (o:En) (σ:St) (H:Hp) (n:Nat) (G:List V) (ts:qD) (Q:St->Hp->Prop) (R:En->Prop),Stt X.K C o σ H n->Reps X.K C.hd (Own C o σ) H G ts->d ts o R ->
 (∀l σ',R l->Stt X.K C l σ' H n->Keep C o σ H l σ' H->(∀j,j∉is->σ'[j]?=σ[j]?)->fo σ'=fo σ->Q σ' H)->g G σ H Q
def Qe(i:Nat):DTG:=λt o R=>R (ce o i (ao (.val t)))
def UP:DTGs:=λts l R=>match ts with|[]=>R l|_=>False
def QS(d:DTG)(ds:DTGs):DTGs:=λts o R=>match ts with|t::ts=>d t o λl=>ds ts l R|[]=>False
def UQ(ds:DTGs):DTG:=λt o R=>match t with|lV ts=>ds ts o R|_=>False
theorem ztk(o:X.N.Nodup)(hi:X.N[i]?=ao x)(hx:Loc (d0 X.env) x)(hf:Fnl X x:=by walk_at "F"):DG X (bv x pos) [i] (Qe i):=by refine⟨λt l R h=>⟨_,h⟩,_,Wt o hi hx hf,λC l σ H n v t Q R S r hd I=>?_⟩;exact I _ _ hd (S.put r) QT (λj G=>by rw[cq (λz=>G (by simp[z]))]) (by simp)
theorem JD:DGs X [] [] UP:=by
 refine⟨λts l R h=>?_,λts l R h=>?_,_,zmV,λC l σ H n v ts Q R S r hd o=>?_⟩;cases ts with
 | nil=>rfl
 | cons _ _=>exact e9 h
 cases ts with
 | nil=>exact⟨_,h⟩
 | cons _ _=>exact e9 h
 cases r with
 | nil=>exact⟨rfl,o _ _ hd S Keep.refl (λ_ _=>rfl) rfl⟩
 | cons _ _=>exact e9 hd
theorem Jj(U:DG X e is g)(Z:DGs X es js gs)(hs:(assignEach (e::es) X.env).map (·.2)=assign e X.env::(assignEach es X.env).map (·.2):=by rfl):DGs X (e::es) (is++js) (QS g gs):=by
 obtain⟨w1,ga,pa,U⟩:=U;obtain⟨l2,w2,gb,pb,Z⟩:=Z;refine⟨λts o R h=>?_,λts o R h=>?_,_,WF pa pb hs,λC o σ H n vs ts Q R S r hd hq=>?_⟩;cases ts with
 | nil=>exact e9 h
 | cons t ts =>obtain⟨l,h'⟩:=w1 t o _ h;simp[l2 ts l R h']
 cases ts with
 | nil=>exact e9 h
 | cons t ts =>obtain⟨l,h'⟩:=w1 t o _ h;exact w2 ts l R h'
 cases r with
 | nil=>exact e9 hd
 | cons r rs =>refine⟨_,_,rfl,U C o σ H n _ _ _ _ S r hd λl σ' hr S' kp hj hl=>?_⟩;refine Z C l σ' H n _ _ _ _ S' (kp.reps S.hx rs) hr λN G J S2 L Y I=>?_;exact hq N G J S2 (kp.trans L) (λj v=>by rw[Y j (λz=>v (by simp[z])),hj j (λz=>v (by simp[z]))]) (b4 I hl)
theorem JF(hc:X.calm=du)(h:DGs X es is gs)(U:fo (assignEach es X.env)=fo es:=by rfl)(G:(assignEach es X.env).findIdx? (·.1)=bj:=by rfl):DG X (i4 es k pos) is (UQ gs):=by
 obtain⟨l,w,g,pg,h⟩:=h;refine⟨λt o R h=>?_,_,zuE hc pg U G,λC o σ H n v t Q R S r hd Y=>?_⟩;cases t with
 | tuple ts=>exact w ts o R h
 | _=>exact e9 h
 cases t with
 | tuple ts =>obtain⟨p,J,rfl,N,L⟩:=r.tupI;exact⟨p,J,rfl,N,by rw[L.length];exact l ts o R hd,h C o σ H n J ts Q R S L hd Y⟩
 | _=>exact e9 hd
def sAsg(d:DTE)(g:DTG):DTS:=λD o n=>d o n λt v=>g t o λl=>D.nx l v
theorem QK(h:DE X e d)(o:DG X tg is g)(U:swapsWithSole [tg] e pos.line X.env=pure dy:=by rfl)(hw:swappedStores [tg] e X.env=pure bj:=by rfl)
  (R:(assignEach [tg] X.env).map (·.2)=[assign tg X.env]:=by rfl):DS X (ii [tg] e pos) (sAsg d g):=by
 obtain⟨ta,pa,h⟩:=h;obtain⟨w,gb,L,o⟩:=o;refine⟨_,ZQ pa L U hw R,λC G σ H n D D' S hd gd=>?_⟩;refine h C G σ H n _ _ S hd λt I v H' r J Z q=>?_;exact o C G σ H' I v t _ _ (S.on J Z) q r λl σ' N Y kp _ _=>gd.nx l σ' H' I N Y (J.keep.trans kp)
def Zj(i:Nat)(d:DTE):DTS:=λD l n=>match l[i]? with
 | some (ao (.own ts))=>d l n λt v=>fo ts<16777216/\D.nx (ce l i (ao (.own (ts++[t])))) v
 | _=>False
theorem QD(i:Nat){I Z R:Pos}(h:DE X e d)(hN:X.N[i]?=ao x:=by rfl)(hv:Vis (d0 X.env) x:=by walk_at "V")(hd:Ndb x:=by rfl)
  (hcd:Ncd x:=by rfl) (hs:swapsWith (f9 (jq (bv x I) "append" Z) [e] [] R) bj pos.line X.env=pure dy:=by rfl)
  (LP:attributeBase (bv x I) "append" X.env (eval (bv x I) X.env)=eval (bv x I) X.env:=by rfl)
  (Mn:((backTo R (starEach [e] X.env)).all (λx=>!x.1)&&(backToKw R (keywordEach [] X.env)).all (λx=>f6 x.1)
   && decide ([e].length+fo ([]:List p7)+(if g5 ([]:List p7) then 0 else 1)<30))=du:=by rfl)
  (LQ:(Z.endLine == jh R)=du:=by rfl) (G:starEach [e] X.env=[(dy,eval e X.env)]:=by rfl):DS X (.Expr (f9 (jq (bv x I) "append" Z) [e] [] R) pos) (Zj i d):=by
 obtain⟨ta,pa,h⟩:=h;refine⟨_,zmN (zuN nu mY mZ zfu (Ub hN hv hd hcd) (Ue pa UW G) LP Mn LQ G rfl) hs,λC ρ σ H n D D' S hd g=>?_⟩;unfold Zj at hd;split at hd;rename_i ts Y;obtain⟨p,vs,h1,h2,h3,h4⟩:=S.own i ts Y;refine⟨.ref p,h1,dY ⟨rfl,_,SqL.of h2⟩,?_⟩;refine h C ρ σ H n _ _ S hd λt n' v H' r e1 hn q=>?_;have S1:=S.on e1 hn;obtain⟨p',vs',L,U,J,h4'⟩:=S1.own i ts Y;rw[h1]at L;cases L;refine⟨p,vs',v,rfl,rfl,U,by rw[J.length];exact r.1,?_⟩;obtain⟨S2,k2⟩:=S1.chg Y h1 (J.append (.cons q .nil));exact g.nx _ _ _ n' r.2 S2 (e1.keep.trans k2);exact e9 hd
def sPut(i:Nat)(G d:DTE):DTS:=λD l n=>d l n λt v=>match l[i]? with
 | some (ao (.own ts))=>G l v λj C=>match j with|bu j=>(match ixN (fo ts) j with|some k=>D.nx (ce l i (ao (.own (ce ts k t)))) C|none=>False)|_=>False
 | _=>False
theorem zwD(i:Nat){dj:DTE}{l G:Pos}(hj:DE X b dj)(h:DE X e d)(hN:X.N[i]?=ao x:=by rfl)(hv:Vis (d0 X.env) x:=by walk_at "V")(hd:Ndb x:=by rfl)
  (hcd:Ncd x:=by rfl) (hs:swapsWithSole [ed (bv x l) b G] e pos.line X.env=pure dy:=by rfl) (hw:swappedStores [ed (bv x l) b G] e X.env=pure bj:=by rfl)
  (J:(assignEach [ed (bv x l) b G] X.env).map (·.2)=[assign (ed (bv x l) b G) X.env]:=by rfl)
  (Ms:PG X (ed (bv x l) b G)=PG X (ed (bv x l) b G):=rfl) (pg:∀{to ti:TE} {t:TSet},PE X (bv x l) to->PE X b ti->PSet X t->PG X (ed (bv x l) b G) (L2.gSub to ti t):=by intro _ _ _ J h2 h3;exact pg_sub J h2 h3) :
  DS X (ii [ed (bv x l) b G] e pos) (sPut i dj d):=by
 obtain⟨ta,pa,h⟩:=h;obtain⟨tj,pj,hj⟩:=hj;refine⟨_,ZQ pa (pg (Ub hN hv hd hcd) pj set_list) hs hw J,λC Y σ H n D D' S hd g=>?_⟩;refine h C Y σ H n _ _ S hd λt n1 v H1 r e1 hn q=>?_;have S1:=S.on e1 hn;split at r;rename_i ts et;obtain⟨p,vs,J,h2,h3,h4⟩:=S1.own i ts et;refine⟨.ref p,J,hj C Y σ H1 n1 _ _ S1 r λj n2 w H2 I Z hn2 q2=>?_⟩;have S2:=S1.on Z hn2;cases j with
 | int j =>
  have I:(match ixN (fo ts) j with|some k=>D'.nx (ce Y i (ao (.own (ce ts k t)))) n2|none=>False):=I;cases ek:ixN (fo ts) j with
  | none=>rw[ek]at I;exact e9 I
  | some m =>rw[ek]at I;obtain⟨p',vs',R,U,L,h4'⟩:=S2.own i ts et;rw[J]at R;cases R;refine⟨p,vs',j,m,rfl,q2.intI,U,by rw[L.length];exact ek,?_⟩;obtain⟨S3,k3⟩:=S2.chg et J (L.set (Z.rep S.hx q) m);exact g.nx _ _ _ n2 I S3 ((e1.trans Z).keep.trans k3)
 | _=>exact e9 I
 exact e9 r
def zmx(c:DTT)(I:DTS):DTS:=λD o n=>∃W:Nat->En->Nat->Prop,(∃m,W m o n)/\∀m o n,W m o n ->
 c o n λb G=>if b=du then I { D with nx:=λl C=>∃v,v<m/\W v l C,ct:=λl C=>∃v,v<m/\W v l C,bk:=D.nx } o G else D.nx o G
theorem zhx(hp:rN (model X.prog X.w) X.A X.env X.xe)(hc:DT X c dt)(hb:DSs X sa t):DS X (.While c sa [] pos) (zmx dt t):=by
 obtain⟨tc,pc,hc⟩:=hc;obtain⟨tb,pb,hb⟩:=hb;refine⟨_,zpp hp pc pb,λC ρ σ H n D D' S hd g=>?_⟩;obtain⟨W,⟨m0,w0⟩,turn⟩:=hd;refine⟨λm N H1=>∃I Z,W m I Z/\Stt X.K C I N H1 Z/\Keep C ρ σ H I N H1,⟨m0,ρ,n,w0,S,Keep.refl⟩,?_⟩;rintro m N H1 ⟨I,Z,w1,S1,k1⟩;refine hc C I N H1 Z _ _ S1 (turn m I Z w1) λb n2 H2 r e2 hn2=>?_;have S2:=S1.on e2 hn2;have U:=k1.trans e2.keep;cases b with
 | true =>refine iteT ⟨λσ' H'=>∃L,L<m/\∃G J,W L G J/\Stt X.K C G σ' H' J/\Keep C ρ σ H G σ' H',λσ' H' ⟨L,hm,z⟩=>⟨L,hm,z⟩,?_⟩;refine hb C I N H2 n2 _ { D' with nx:=λG J=>∃L,L<m/\W L G J,ct:=λG J=>∃L,L<m/\W L G J,bk:=D'.nx } S2 (by simpa using r) ⟨?_,λt J v H' h hn R r=>g.rt t J v H' h hn (λa o ha Y no=>?_) r,?_,?_,λc J H' h hn R=>g.xr c J H' h hn λa o ha Y no=>R a o (U a o ha Y no).1 Y (U a o ha Y no).2⟩;rintro G σ' H' J ⟨L,hm,w'⟩ S' R;exact⟨L,hm,G,J,w',S',U.trans R⟩;obtain⟨q1,q2⟩:=U a o ha Y no;exact R a o q1 Y q2;intro G σ' H' J h' S' R;exact g.nx G σ' H' J h' S' (U.trans R);rintro G σ' H' J ⟨L,hm,w'⟩ S' R;exact⟨L,hm,G,J,w',S',U.trans R⟩
 | false=>exact iteF (g.nx I N H2 n2 (by simpa using r) S2 U)
end
def ItOk(K:qF)(hd:Option ai)(P O:ai->Prop)(H:Hp)(J:It)(ts:qD):Prop:=∀(v:ai->Prop) (l:Hp),(∀a o,H a=ao o->P a->l a=ao o)->(∀a o,H a=ao o->¬O a->¬v a)->(∀a,v a->l a≠bj) ->
 (∀i t,ts[i]?=ao t->J.go i l/\∀x u,J.yld i l x u->Same l u/\Rep K hd v u x t)/\J.stop (fo ts) l
def DI(X:Cx)(tg iter:bg)(d:DTA):Prop:=∃u,PI X tg iter u/\∀(C:Ctx) (l:En) (σ:St) (H:Hp) (n:Nat) (Q:It->Hp->Prop) (R:qD->Nat->Prop),Stt X.K C l σ H n->d l n R ->
 (∀ts o J H',R ts o->ExtE C.hd H H'->Hn X.K C.hd H' o->ItOk X.K C.hd (λa=>¬Own C l σ a) (Own C l σ) H' J ts->Q J H')->u σ H Q
def DIL(X:Cx)(tg iter:bg)(d:DTA):Prop:=∃u,PI X tg iter u/\∀(C:Ctx) (l:En) (σ:St) (H:Hp) (n:Nat) (Q:It->Hp->Prop) (R:qD->Nat->Prop),Stt X.K C l σ H n->d l n R ->
 (∀ts o J H',R ts o->ExtE C.hd H H'->Hn X.K C.hd H' o->ItOk X.K C.hd (λa=>C.hd≠ao a) (Own C l σ) H' J ts->Q J H')->u σ H Q
section
variable{X:Cx}{a c e tg iter:bg}{es:List bg}{d:DTE}{ds di:DTA}{t:DTS}{sa:List e8}{pos p:Pos}{x:Str}
theorem dil(h:DI X tg iter di):DIL X tg iter di:=by obtain⟨Z,pi,h⟩:=h;refine⟨Z,pi,λC G σ H n Q R S hd hq=>h C G σ H n Q R S hd λts L J H' r e1 hn it=>hq ts L J H' r e1 hn ?_⟩;exact λI N U Y v=>it I N (λa o ha no=>U a o ha λz=>no (dY (S.hx a z))) Y v
theorem Reps.getP{K:qF}{hd:Option ai}{O:ai->Prop}{H:Hp}{vs ts}{i:Nat}{t}{x:V}(r:Reps K hd O H vs ts)(h:ts[i]?=ao t)(hx:vs[i]?=ao x):Rep K hd O H x t:=by obtain⟨v,l,o⟩:=r.get h;rw[hx]at l;cases l;exact o
theorem Wp{K:qF}{hd:Option ai}{P O:ai->Prop}{H:Hp}{q:ai}{vs ts}(Y:H q=ao (.lst vs))(R:P q)(U:∀a,¬O a->P a)(r:Reps K hd O H vs ts):ItOk K hd P O H (Itl K q) ts:=by intro N Z L S _;have C:=L q _ Y R;have J:Reps K hd N Z vs ts:=r.mono (λa o ha z=>eZ λno=>S a o ha no z) λa o no ha=>L a o ha (U a no);refine⟨λi t I=>?_,⟨vs,.of C,by rw[r.length];exact aC _⟩⟩;obtain⟨v,ev,rv⟩:=J.get I;refine⟨⟨vs,v,.of C,ev⟩,λx H3 G=>?_⟩;obtain⟨rfl,G⟩:=G;exact⟨Same.refl _,J.getP I (G vs (.of C))⟩
theorem zrd{K:qF}{hd:Option ai}{P O:ai->Prop}{H:Hp}{v:V}{ts}(Y:∀a,¬O a->P a)(r:Rep K hd O H v (lV ts)):∃q C,v=.ref q/\SqT K H q C/\ItOk K hd P O H (Itt K q) ts:=by
 have key:∀q C,Reps K hd O H C ts->(∀(J:ai->Prop) (I:Hp),(∀a o,H a=ao o->P a->I a=ao o)->(∀a o,H a=ao o->¬O a->¬J a)->SqT K I q C)->ItOk K hd P O H (Itt K q) ts:=by intro q C r Z J I L U _;have G:=Z J I L U;have S:Reps K hd J I C ts:=r.mono (λa o ha z=>eZ λno=>U a o ha no z) λa o no ha=>L a o ha (Y a no);refine⟨λi t R=>?_,⟨C,G,by rw[r.length];exact aC _⟩⟩;obtain⟨v,ev,rv⟩:=S.get R;refine⟨⟨C,v,G,ev⟩,λx H3 N=>?_⟩;obtain⟨rfl,N⟩:=N;exact⟨Same.refl _,S.getP R (N C G)⟩
 cases r with
 | @tup q C ds h o r=>exact⟨q,C,rfl,dY (dY h),key q C r λJ I L _=>dY (dY (L q _ h (Y q o)))⟩
 | @tupS q C ds h r=>exact⟨q,C,rfl,h.sq,key q C r λJ I _ _=>h.sq⟩
def dItL(d:DTE):DTA:=λv n R=>d v n λt o=>match t with|sJ ts=>R ts o|_=>False
def dItT(d:DTE):DTA:=λv n R=>d v n λt o=>match t with|lV ts=>R ts o|_=>False
theorem Ut(h:DE X iter d):DI X tg iter (dItL d):=by
 obtain⟨Z,pa,h⟩:=h;refine⟨_,zmU pa,λC I σ H n Q R S hd U=>?_⟩;refine h C I σ H n _ _ S hd λt J v H' r Y N q=>?_;cases t with
 | list ts =>obtain⟨p,G,rfl,l,no,L⟩:=q.lstI;exact⟨p,rfl,⟨G,.of l⟩,U ts J _ H' r Y N (Wp l no (λ_ z=>z) L)⟩
 | _=>exact e9 r
theorem zqp(h:DL X iter d):DIL X tg iter (dItL d):=by
 obtain⟨ta,pa,h⟩:=h;refine⟨_,zmU pa,λC ρ σ H n Q R S hd Z=>?_⟩;refine h C ρ σ H n _ _ S hd λt U v H' r e1 Y q=>?_;cases t with
 | list ts =>
  rcases q with q|⟨p,J,ds,rfl,L,G,I,N⟩|⟨p,zs,ep,ks,rfl,L,G,I,N⟩
  rotate_left 2
  cases L;obtain⟨p,J,rfl,G,no,I⟩:=q.lstI;exact⟨p,rfl,⟨J,.of G⟩,Z ts U _ H' r e1 Y (Wp G (λz=>no (dY (S.hx p z))) (λa no z=>no (dY (S.hx a z))) I)⟩;cases L;exact⟨p,rfl,⟨J,.of G⟩,Z ts U _ H' r e1 Y (Wp G N (λa no z=>no (dY (S.hx a z))) I)⟩
 | _=>exact e9 r
theorem JP(h:DE X iter d):DI X tg iter (dItT d):=by
 obtain⟨U,pa,h⟩:=h;refine⟨_,zuA pa,λC l σ H n Q R S hd L=>?_⟩;refine h C l σ H n _ _ S hd λt G v H' r N J q=>?_;cases t with
 | tuple ts =>obtain⟨p,o,rfl,I,it⟩:=zrd (P:=λa=>¬Own C l σ a) (λ_ z=>z) q;exact⟨p,rfl,⟨o,I⟩,L ts G _ H' r N J it⟩
 | _=>exact e9 r
def QL(lo:Int)(n:Nat):List af:=(dw n).map λ(i:Nat)=>bu (lo+(i:Int))
theorem zp3{K:qF}{hd:Option ai}{P O:ai->Prop}{H:Hp}{lo:Int}{m:Nat}:ItOk K hd P O H (Itr lo m) (QL lo m):=by intro I C _ _ _;refine⟨λi t o=>?_,by show m<=fo (QL lo m);simp[QL]⟩;unfold QL at o;rw[bK]at o;by_cases hi:i<m;rw[lD hi]at o;cases o;refine⟨hi,λx G v=>?_⟩;obtain⟨rfl,rfl⟩:=v;exact⟨Same.refl _,.int _⟩;rw[dz (by simp;omega)]at o;cases o
def Zx(d:DTE):DTA:=λo n R=>d o n λt l=>match t with|bu j=>(-(2 ^ 62)<=j/\j<2 ^ 62)/\R (QL 0 (ap j)) l|_=>False
theorem WV(J:X.mg "range" = bj) (h:DE X a d) (Z:Gl X "range":=by rfl) (o:starEach [a] X.env=[(dy,eval a X.env)]:=by rfl):DI X tg (f9 (bv "range" p) [a] [] pos) (Zx d):=by
 obtain⟨ta,pa,h⟩:=h;refine⟨_,zmT Z J (Ue pa UW o) o,λC G σ H n Q R S hd U=>?_⟩;refine h C G σ H n _ _ S hd λt I v H' r Y L q=>?_;cases t with
 | int j =>rw[q.intI];exact⟨j,rfl,r.1.1,r.1.2,U _ I _ H' r.2 Y L zp3⟩
 | _=>exact e9 r
def forP(g:DTG)(l:DTS)(D:JY):qD->En->Nat->Prop
 | [],ρ,n=>D.nx ρ n
 | t::ts,ρ,n=>g t ρ λo=>l { D with nx:=forP g l D ts,ct:=forP g l D ts,bk:=D.nx } o n
def sFor(di:DTA)(g:DTG)(o:DTS):DTS:=λD l n=>di l n λts v=>forP g o D ts l v
theorem QQ(hp:rN (model X.prog X.w) X.A X.env X.xe)(hc:X.calm=du)(hi:DI X tg iter di)(hg:DG X tg is g)(hb:DSs X sa t)
  (hs:Fsi X iter:=by intro _;rfl):DS X (.For tg iter sa [] pos) (sFor di g t):=by
 obtain⟨wi,pi,hi⟩:=hi;obtain⟨_,gg,pg,hg⟩:=hg;obtain⟨tb,pb,hb⟩:=hb;refine⟨_,zuw hp hc pi pg pb hs,λC ρ σ H n D D' S hd gd=>?_⟩;refine hi C ρ σ H n _ _ S hd λts n1 J H1 r Y hn it=>?_;have S1:=S.on Y hn;refine⟨λi m L H2=>m=fo ts - i/\i<=fo ts/\∃I n2,forP g t D' (ts.drop i) I n2/\Stt X.K C I L H2 n2/\Keep C ρ σ H1 I L H2,⟨fo ts,by simp,cR _,ρ,n1,by simpa using r,S1,Keep.refl⟩,?_⟩;rintro i m L H2 ⟨rfl,hi',I,n2,f2,S2,k2⟩;have itq:=it (Own C I L) H2 (λa o ha no=>(k2 a o ha (λz=>no (dY (S.hx a z))) λz=>no (sr z)).1) (λa o ha no z=>h7 z (λz=>no (dY z)) λz=>(k2 a o ha (λy=>no (dY (S.hx a y))) λy=>no (sr y)).2 z) (λa=>S2.dom);by_cases hlt:i<fo ts;have et:ts[i]?=ao ts[i]:=aw hlt;obtain⟨go,yl⟩:=itq.1 i _ et;rw[bO hlt]at f2;refine sr ⟨go,λσ' H'=>∃G N,forP g t D' (ts.drop (i+1)) G N/\Stt X.K C G σ' H' N/\Keep C ρ σ H1 G σ' H',λσ' H' z=>⟨fo ts - (i+1),by omega,rfl,hlt,z⟩,λx H3 hy=>?_⟩;obtain⟨sm,rx⟩:=yl x H3 hy;have S3:=S2.on sm.ext (S2.hnd.same sm);have k3:Keep C ρ σ H1 I L H3:=k2.trans (Same.ext sm:ExtE C.hd H2 H3).keep;refine hg C I L H3 n2 x _ _ _ S3 rx f2 λρ4 σ4 r4 S4 k4 _ _=>?_;have k5:=k3.trans k4;refine hb C ρ4 σ4 H3 n2 _ { D' with nx:=forP g t D' (ts.drop (i+1)),ct:=forP g t D' (ts.drop (i+1)),bk:=D'.nx } S4 r4 ⟨λG σ' H' N h' S' R=>⟨G,N,h',S',k5.trans R⟩,λt N v H' h U R rp=>gd.rt t N v H' h U (λa o ha Z no=>?_) rp,λG σ' H' N h' S' R=>gd.nx G σ' H' N h' S' (Y.keep.trans (k5.trans R)),λG σ' H' N h' S' R=>⟨G,N,h',S',k5.trans R⟩,λc N H' h U R=>gd.xr c N H' h U λa o ha Z no=>R a o ((Y.keep.trans k5) a o ha Z no).1 Z ((Y.keep.trans k5) a o ha Z no).2⟩;obtain⟨q1,q2⟩:=(Y.keep.trans k5) a o ha Z no;exact R a o q1 Z q2;have e:i=fo ts:=by omega
 subst e;rw[rS]at f2;exact dY ⟨itq.2,gd.nx I L H2 n2 f2 S2 (Y.keep.trans k2)⟩
def Qm(N:List Str)(ts:qD):En:=ts.map (λt=>ao (.val t))++cG (fo N - fo ts) bj
theorem zmk{K:qF}{hd:Option ai}{O:ai->Prop}{H:Hp}{n:Nat}{N:List Str}{C:List V}{ts:qD}(r:Reps K hd O H C ts)(L:Hn K hd H n)(dom:∀a,O a->MutO (H a))(hx:∀a,hd=ao a->O a) :
  Stt K ⟨hd,O⟩ (Qm N ts) (start N C) H n/\∀a,¬OwnS (Qm N ts) (start N C) a:=by
 have get:∀(i:Nat) c,(Qm N ts)[i]?=ao (ao c)->∃t,c=.val t/\ts[i]?=ao t:=λi c h=>by
  unfold Qm at h;by_cases hi:i<fo ts;rw[cy (by simpa using hi),bK]at h;cases e:ts[i]? with
  | none=>rw[e]at h;cases h
  | some t=>rw[e]at h;cases h;exact⟨t,rfl,rfl⟩
  rw[bp (by simpa using hi),fv]at h;split at h <;> cases h
 have no:∀a,¬OwnS (Qm N ts) (start N C) a:=λa ⟨i,ds,m,J,_⟩=>by obtain⟨t,e,_⟩:=get i _ J;subst e;cases m
 refine⟨.mk' (by unfold Qm start;simp[r.length]) (λi d h=>?_) (λi ds m h=>?_) (λi R h=>by obtain⟨t,e,_⟩:=get i _ h;cases e) (λi j ds es a m _ h=>?_) L dom hx,no⟩;obtain⟨t,e,G⟩:=get i _ h;cases e;obtain⟨v,ev,I⟩:=r.get G;refine⟨v,?_,I.mono (λa o _ z=>h7 z id λz=>absurd z (no a)) λ_ _ _ z=>z⟩;unfold start;have hi:i<fo C:=by rcases gP i (fo C) with z|z;exact z;rw[dz z]at ev;cases ev
 rw[cy (by simpa using hi),bK,ev];rfl;obtain⟨t,e,_⟩:=get i _ h;subst e;cases m;obtain⟨t,e,_⟩:=get i _ h;subst e;cases m
end
end L2
namespace Bd
open PySem L2 PyProof.Rows
theorem Def.okD{P:aK}{w:aV}{K:qF}{mg:qM}{base:bq}{x:Str}{st:e8}{ps N:List Str}{f:ai}{fd:dU}{k m:Nat}{g:GD}(D:Def K mg x st ps f fd)(S:UY N ps (JT st))(hm:m=fo ps)
  (hb:∀(l:ah) (A:bw) (outer:List Env) (s:ax) (H:Hp) (E:XK),Room k (A.deeper (envOfC x (JT st) s.heap.objs.size f l))->∃d,DSs (cxOf CX0 P w K mg base N x (JT st) f l A outer s H E).nox (Qu st) d /\
   ∀ts n R,fo ts=m->g ts n R->d { nx:=λ_ u=>R fq u,rt:=R } (Qm N ts) n):FnOk P w K mg base CX0 (k+1) f fd ps (spD K m g):=by
 refine D.F.ok S (λU H Q E h=>?_) (λl A outer s H U Q E Z h=>?_);obtain⟨hd,O,ts,n,R,r,_,_,_,G,_⟩:=h;rw[r.length,G,hm];obtain⟨hd,O,ts,n,R,r,hn,dom,hx,G,hg,L⟩:=h;obtain⟨d,⟨t,pt,ht⟩,hd'⟩:=hb l A outer s H E Z;obtain⟨S0,no⟩:=zmk (N:=N) r hn dom hx;refine⟨t,pt,ht ⟨hd,O⟩ _ _ H n _ _ S0 (hd' ts n R G hg) ⟨λρ' σ' H' u h S' J=>?_,λt u v H' h I J Y=>?_,λ_ _ _ _ h=>e9 h,λ_ _ _ _ h=>e9 h,λ_ _ _ h=>e9 h⟩⟩;exact L fq u .non H' h (λa o ha C=>(J a o ha C (no a)).1) S'.hnd .non;exact L t u v H' h (λa o ha C=>J a o ha C (no a)) I Y
end Bd
namespace L2
open PySem PySem.Spec PyProof.Rows
def DTs(Y:Cx)(ifs:List bg)(d:DTT):Prop:=∃u,PTs Y ifs u/\∀(C:Ctx) (o:En) (σ:St) (H:Hp) (n:Nat) (Q:Bool->Hp->Prop) (R:Bool->Nat->Prop),Stt Y.K C o σ H n->d o n R ->
 (∀b l H',R b l->ExtE C.hd H H'->Hn Y.K C.hd H' l->Q b H')->u σ H Q
def dYes:DTT:=λ_ n R=>R du n
section
variable{Y:Cx}{c:bg}{d:DTT}
theorem U3:DTs Y [] dYes:=⟨_,zrU,λC o σ H n Q R S h l=>l du n H h ExtE.refl S.hnd⟩
theorem Uu(h:DT Y c d):DTs Y [c] d:=by obtain⟨l,p,h⟩:=h;exact⟨_,zrT p,h⟩
end
def SpE(K:qF)(u:TE)(d:DTE):Prop:=∀(C:Ctx) (l:En) (σ:St) (H:Hp) (n:Nat) (Q:VK) (R:qN),Stt K C l σ H n->d l n R ->
 (∀t o v H',R t o->ExtE C.hd H H'->Hn K C.hd H' o->Rep K C.hd (Own C l σ) H' v t->Q v H')->u σ H Q
def SpT(K:qF)(u:TT)(d:DTT):Prop:=∀(C:Ctx) (o:En) (σ:St) (H:Hp) (n:Nat) (Q:Bool->Hp->Prop) (R:Bool->Nat->Prop),Stt K C o σ H n->d o n R ->
 (∀b l H',R b l->ExtE C.hd H H'->Hn K C.hd H' l->Q b H')->u σ H Q
def SpG(K:qF)(is:List Nat)(u:TG)(d:DTG):Prop:=∀(C:Ctx) (o:En) (σ:St) (H:Hp) (n:Nat) (v:V) (t:af) (Q:St->Hp->Prop) (R:En->Prop),Stt K C o σ H n->Rep K C.hd (Own C o σ) H v t->d t o R ->
 (∀l σ',R l->Stt K C l σ' H n->Keep C o σ H l σ' H->(∀j,j∉is->σ'[j]?=σ[j]?)->fo σ'=fo σ->Q σ' H)->u v σ H Q
def SpI(K:qF)(u:TI)(d:DTA):Prop:=∀(C:Ctx) (l:En) (σ:St) (H:Hp) (n:Nat) (Q:It->Hp->Prop) (R:qD->Nat->Prop),Stt K C l σ H n->d l n R ->
 (∀ts o J H',R ts o->ExtE C.hd H H'->Hn K C.hd H' o->ItOk K C.hd (λa=>¬Own C l σ a) (Own C l σ) H' J ts->Q J H')->u σ H Q
section
variable{X:Cx}{scope:fS}{own:List Str}{capt:List Nat}{e tg:bg}{es:List bg}{is:List Nat}{d:DTE}{dt:DTT}{dg:DTG}{di:DTA}
theorem DE.fam(h:Fam X scope own capt λY=>DE Y e d):∃o:TE,(Fam X scope own capt λY=>PE Y e o)/\SpE X.K o d :=
 ⟨λσ H Q=>∀C s₀ H₀ l,kK (h C s₀ H₀ l) σ H Q,λC s₀ H₀ l pins s σ H Q I hw=>(dA (h C s₀ H₀ l)).1 pins s σ H Q I (hw C s₀ H₀ l),λC u σ H n Q R S hd x v s₀ H₀ l=>(dA (h v s₀ H₀ l)).2 C u σ H n Q R S hd x⟩
theorem DTs.fam(h:Fam X scope own capt λY=>DTs Y es dt):∃o:TT,(Fam X scope own capt λY=>PTs Y es o)/\SpT X.K o dt :=
 ⟨λσ H Q=>∀C s₀ H₀ l,kK (h C s₀ H₀ l) σ H Q,λC s₀ H₀ l pins s σ H Q I hw=>(dA (h C s₀ H₀ l)).1 pins s σ H Q I (hw C s₀ H₀ l),λC u σ H n Q R S hd x v s₀ H₀ l=>(dA (h v s₀ H₀ l)).2 C u σ H n Q R S hd x⟩
theorem DG.fam(h:Fam X scope own capt λY=>DG Y tg is dg):∃o:TG,(Fam X scope own capt λY=>PG Y tg o)/\SpG X.K is o dg :=
 ⟨λv σ H Q=>∀C s₀ H₀ l,kK (h C s₀ H₀ l).2 v σ H Q,λC s₀ H₀ l pins s σ H v u Q I r hw=>(dA (h C s₀ H₀ l).2).1 pins s σ H v u Q I r (hw C s₀ H₀ l),λC x σ H n v t Q R S r hd J G s₀ H₀ l=>(dA (h G s₀ H₀ l).2).2 C x σ H n v t Q R S r hd J⟩
theorem DI.fam(h:Fam X scope own capt λY=>DI Y tg e di):∃o:TI,(Fam X scope own capt λY=>PI Y tg e o)/\SpI X.K o di :=
 ⟨λσ H Q=>∀C s₀ H₀ l,kK (h C s₀ H₀ l) σ H Q,λC s₀ H₀ l pins s σ H R I hw=>(dA (h C s₀ H₀ l)).1 pins s σ H R I (hw C s₀ H₀ l),λC u σ H n Q R S hd x v s₀ H₀ l=>(dA (h v s₀ H₀ l)).2 C u σ H n Q R S hd x⟩
end
theorem Wk.of:∀{σ σ':St},fo σ=fo σ'->(∀(i:Nat) v,σ[i]?=ao (ao v)->σ'[i]?=ao (ao v))->Wk σ σ'
 | [],[],_,_=>trivial
 | [],_::_,h,_=>by simp at h
 | _::_,[],h,_=>by simp at h
 | none::r,o::r',h,k=>Wk.of (σ:=r) (σ':=r') (by simpa using h) λi v e=>by simpa using k (i+1) v (by simpa using e)
 | some w::r,o::r',h,k=>⟨by simpa using k 0 w rfl,Wk.of (by simpa using h) λi v e=>by simpa using k (i+1) v (by simpa using e)⟩
def capV:Option Cell->Option Cell
 | some (.val d)=>ao (.val d)
 | some (.dct ks)=>ao (.rdo ks)
 | some (.rdo ks)=>ao (.rdo ks)
 | _=>bj
def JV(m:Nat)(capt:List Nat)(l:En):En:=cG m bj++capt.map λi=>capV (l.getD i bj)
def cGo{α:Type}(g:DTG)(tt:DTT)(u:En->Nat->α->(α->Nat->Prop)->Prop)(ρ0:En):qD->α->Nat->(α->Nat->Prop)->Prop
 | [],acc,n,R=>R acc n
 | x::xs,acc,n,R=>g x ρ0 λl=>tt l n λb v=>if b=du then u l v acc λo C=>cGo g tt u ρ0 xs o C R else cGo g tt u ρ0 xs acc v R
abbrev tdL(te:DTE)(ρ:En)(n:Nat)(acc:qD)(R:qD->Nat->Prop):Prop:=te ρ n λt n3=>fo acc<16777216/\R (acc++[t]) n3
abbrev tdN{α:Type}(di:DTA)(g:DTG)(tt:DTT)(te:En->Nat->α->(α->Nat->Prop)->Prop)(ρ:En)(n:Nat)(acc:α)(R:α->Nat->Prop):Prop:=di ρ n λts n3=>cGo g tt te ρ ts acc n3 R
def Qb(g:DTG)(tt:DTT)(l:DTE)(ρ0:En)(xs acc:qD)(n:Nat)(R:qD->Nat->Prop):Prop:=cGo g tt (tdL l) ρ0 xs acc n R
def dComp(m:Nat)(capt:List Nat)(o:DTA)(g:DTG)(tt:DTT)(v:DTE):DTA:=λl n R=>o l n λts u=>Qb g tt v (JV m capt l) ts [] u R
theorem Hn.updR{K:qF}{hd:Option ai}{u:Hp}{D:ai}{o:HO}{n:Nat}(v:hd≠ao D)(x:MutO (u D))(h:Hn K hd u n):Hn K hd (upd u D o) n:=λa ha=>by have ne:a≠D:=λz=>v (by rw[<- z];exact ha);rcases h a ha with⟨⟨d,m,t,q,rest⟩,l⟩|⟨l,p⟩;exact dY ⟨⟨d,m,t,by rw[Ju ne];exact q,rest⟩,l⟩;exact sr ⟨l,p.upd ne x⟩
section
variable{X:Cx}{scope:fS}{own:List Str}{capt:List Nat}{elt tg iter:bg}{ifs:List bg}{pos:Pos}{di:DTA}{is:List Nat}{g:DTG}{tt:DTT}{te:DTE}
theorem zht{x:En}{i:Nat}{c:Cell}(h:capV (x.getD i bj)=ao c):(∃d,c=.val d/\x[i]?=ao (ao (.val d)))\/∃u,c=.rdo u/\(x[i]?=ao (ao (.dct u))\/x[i]?=ao (ao (.rdo u))):=by
 rw[bE]at h;cases e:x[i]? with
 | none=>rw[e]at h;cases h
 | some o =>
  rw[e]at h;cases o with
  | none=>cases h
  | some C =>
   cases C with
   | val d'=>simp[capV]at h;exact dY ⟨d',dv h,rfl⟩
   | own _=>simp[capV]at h
   | dct u=>simp[capV]at h;exact sr ⟨u,dv h,dY rfl⟩
   | dtt u=>simp[capV]at h
   | rdo u=>simp[capV]at h;exact sr ⟨u,dv h,sr rfl⟩
theorem zoi{K:qF}{C:Ctx}{u:En}{σ:St}{H U:Hp}{n n2:Nat}{D:ai}(S:Stt K C u σ H n)(e:ExtE C.hd H U)(hn:Hn K C.hd U n2)(hD:H D=bj)(hy:MutO (U D)) :
  Stt K ⟨C.hd,λa=>Own C u σ a\/a=D⟩ (JV (fo own) capt u) (QE own++capS capt σ) U n2/\∀a,¬OwnS (JV (fo own) capt u) (QE own++capS capt σ) a:=by
 have get:∀(i:Nat) c,(JV (fo own) capt u)[i]?=ao (ao c)->∃j,capV (u.getD j bj)=ao c/\fo own<=i/\capt[i - fo own]?=ao j:=λi c h=>by
  unfold JV at h;by_cases hi:i<fo own;rw[cy (by simpa using hi),fv]at h;split at h <;> cases h;rw[bp (by simpa using hi),kD,bK]at h;cases ej:capt[i - fo own]? with
  | none=>rw[ej]at h;cases h
  | some j =>rw[ej]at h;exact⟨j,by simpa using h,by omega,rfl⟩
 have slot:∀(i j:Nat) (v:V),fo own<=i->capt[i - fo own]?=ao j->σ[j]?=ao (ao v)->(QE own++capS capt σ)[i]?=ao (ao v):=λi j v hi J x=>by rw[bp (by simpa using hi)];simp only[aG,bK,J,gX];rw[bE,x];rfl
 have nm:∀(i:Nat) (c:Cell),c.mine=du->(JV (fo own) capt u)[i]?=ao (ao c)->False:=λi c m h=>by obtain⟨j,Y,_⟩:=get i c h;rcases zht Y with⟨d,rfl,_⟩|⟨N,rfl,_⟩ <;> cases m
 have no:∀a,¬OwnS (JV (fo own) capt u) (QE own++capS capt σ) a:=λa ⟨i,c,m,x,_⟩=>nm i c m x;have S2:=S.on e hn;have sub:∀a o,H a=ao o->Own ⟨C.hd,λa=>Own C u σ a\/a=D⟩ (JV (fo own) capt u) (QE own++capS capt σ) a->Own C u σ a:=λa o ha z=>by rcases z with z|z;rcases z with z|z;exact z;subst z;rw[hD]at ha;cases ha;exact absurd z (no a)
 have kp:∀a o,¬Own C u σ a->H a=ao o->U a=ao o:=λa o nO ha=>e a o ha λz=>nO (dY (S.hx a z));refine⟨.mk' (by unfold JV;simp) (λi d h=>?_) (λi ds m h=>e9 (nm i _ m h)) (λi N h=>?_) (λi j ds es a m _ h=>e9 (nm i _ m h)) hn (λa ha=>?_) (λa ha=>dY (dY (S.hx a ha))),no⟩;obtain⟨j,Y,hi,J⟩:=get i _ h;rcases zht Y with⟨d',z,G⟩|⟨N,z,_⟩;cases z;obtain⟨v,x,R⟩:=S.val j d G;exact⟨v,slot i j v hi J x,R.mono sub kp⟩;cases z;obtain⟨j,Y,hi,J⟩:=get i _ h;rcases zht Y with⟨d',z,G⟩|⟨ks',z,G⟩;cases z;cases z;rcases G with G|G;obtain⟨a,I,x,R,Z,h4⟩:=S.dct j N G;have L:C.hd≠ao a:=λz=>h4 (S.hx a z);exact⟨a,I,slot i j _ hi J x,e a _ R L,Z.mono sub kp,dY (sr ⟨j,.dct N,rfl,G,x⟩),L⟩;obtain⟨a,I,x,R,Z,h4,L⟩:=S.rdo j N G;exact⟨a,I,slot i j _ hi J x,e a _ R L,Z.mono sub kp,dY (dY h4),L⟩;rcases ha with ha|rfl;exact S2.lst ha;exact hy
def ExtD(hd:Option ai)(D:ai)(H H':Hp):Prop:=∀a o,H a=ao o->hd≠ao a->a≠D->H' a=ao o
theorem ExtE.transD{hd:Option ai}{D:ai}{H l u:Hp}(a:ExtE hd H l)(b:ExtD hd D l u):ExtD hd D H u:=λc o h n m=>b c o (a c o h n) n m
def SpM{α:Type}(K:qF)(C:Ctx)(D:ai)(A:Hp->α->Prop)(G:List Nat)(te:TM)(x:En->Nat->α->(α->Nat->Prop)->Prop):Prop:=∀(o:En) (σ:St) (H:Hp) (n:Nat) (acc:α) (N:Hp->Prop) (R:α->Nat->Prop),Stt K C o σ H n->(∀j∈G,∀v,σ[j]?≠ao (ao v))->A H acc->x o n acc R ->
 (∀l u H',R l u->ExtD C.hd D H H'->Hn K C.hd H' u->A H' l->N H')->te σ H N
def AOk{α:Type}(A:Ctx->ai->Hp->α->Prop):Prop:=∀(C:Ctx) (D:ai) (H:Hp) (acc:α),(∀a,C.hd=ao a->C.ext a)->C.hd≠ao D->A C D H acc->MutO (H D)/\(∀l,H D≠ao (.dK l))/\∀H',ExtE C.hd H H'->A C D H' acc
section
variable{α:Type}{K:qF}{C:Ctx}{D:ai}{A:Ctx->ai->Hp->α->Prop}{is js:List Nat}{gg:TG}{gt:TT}{tm:TM}{td:En->Nat->α->(α->Nat->Prop)->Prop}{ρ:En}{σ:St}{H1:Hp}{n1:Nat}{acc:α}{R:α->Nat->Prop}
theorem zkA(hD:C.ext D)(Y:C.hd≠ao D)(am:AOk A)(sg:SpG K is gg g)(st:SpT K gt tt)(sm:SpM K C D (A C D) js tm td)(S:Stt K C ρ σ H1 n1)(his:∀j∈is,∀v,σ[j]?≠ao (ao v))(hjs:∀j∈js,j∉is/\∀v,σ[j]?≠ao (ao v))(a1:A C D H1 acc){J:It}{ts:qD}{Q:Hp->Prop}
  (it:∀u,ExtD C.hd D H1 u->(∀a,Own C ρ σ a->u a≠bj)->(∀(i:Nat) t,ts[i]?=ao t->J.go i u/\∀x L,J.yld i u x L->Same u L/\Rep K C.hd (Own C ρ σ) L x t)/\J.stop (fo ts) u)
  (r:cGo g tt td ρ ts acc n1 R) (hq:∀l n' H',R l n'->ExtD C.hd D H1 H'->Hn K C.hd H' n'->A C D H' l->Q H'):Zz gg gt tm σ J H1 Q:=by
 refine⟨fo ts,λi u=>∃acc Z,cGo g tt td ρ (ts.drop i) acc Z R/\A C D u acc/\ExtD C.hd D H1 u/\Hn K C.hd u Z,⟨acc,n1,r,a1,λ_ _ h _ _=>h,S.hnd⟩,?_⟩;rintro i u ⟨G,Z,c2,a2,N,h2⟩;have S2:=S.onX (λa o ha no=>N a o ha (λz=>no (S.hx a z)) λz=>no (z▸hD)) (λa ha=>by by_cases z:a=D;rw[z];exact(am _ _ _ _ S.hx Y a2).1;exact S.mut ha h2 λo ho Y=>N a o ho Y z) (λa ks ha _ nh2=>N a _ ha nh2 λz=>(am _ _ _ _ S.hx Y a1).2.1 ks (z▸ha)) h2;have itq:=it u N λa=>S2.dom;refine⟨λhi=>?_,λhi=>?_⟩;subst hi;rw[rS]at c2;exact⟨itq.2,hq _ _ _ c2 N h2 a2⟩;rw[bO hi]at c2;obtain⟨go,yl⟩:=itq.1 i _ (aw hi);refine⟨go,λx L hyd=>?_⟩;obtain⟨I,rx⟩:=yl x L hyd;refine sg C ρ σ L Z x ts[i] _ _ (S2.on (Same.ext I) (h2.same I)) rx c2 λU σ4 r4 S4 k4 hj hl=>⟨Wk.of hl.symm λj v ej=>?_,?_⟩;by_cases z:j∈is;exact absurd ej (his j z v);rw[hj j z];exact ej;refine st C U σ4 L Z _ _ S4 r4 λb n5 H5 r5 e5 hn5=>?_;have e25:ExtE C.hd u H5:=(Same.ext I).trans e5;have a5:=(am _ _ _ _ S.hx Y a2).2.2 _ e25;have e15:ExtD C.hd D H1 H5:=λa o h n m=>e25 a o (N a o h n m) n;cases b with
 | false=>exact iteF ⟨G,n5,by simpa using r5,a5,e15,hn5⟩
 | true=>exact iteT (sm U σ4 H5 n5 G _ _ (S4.on e5 hn5) (λj hj' v=>by rw[hj j (hjs j hj').1];exact(hjs j hj').2 v) a5 (by simpa using r5) λl n' H' r' e' h' a'=>⟨l,n',r',a',λa o h n m=>e' a o (e15 a o h n m) n m,h'⟩)
end
def HM{α:Type}(X:Cx)(scope:fS)(own:List Str)(capt:List Nat)(nx:ah->Env->Sem Fin->Sem Fin)(A:Ctx->ai->Hp->α->Prop)(l:List Nat)(o:En->Nat->α->(α->Nat->Prop)->Prop):Prop :=
 ∃te:ai->TM,(∀D,Fam X scope own capt λY=>PM Y (nx (bQ D) Y.env) (te D))/\∀(C:Ctx) D,C.ext D->C.hd≠ao D->SpM X.K C D (A C D) l (te D) o
section
variable{α:Type}{A:Ctx->ai->Hp->α->Prop}{a0:α}{js is2:List Nat}{e tg2 it2:bg}{Mc:List bg}{Lc:Sem ah}{nx:ah->Env->Sem Fin->Sem Fin}{z:ai->HO->Prop}{td:En->Nat->α->(α->Nat->Prop)->Prop}{di2:DTA}{g2:DTG}{tt2:DTT}
theorem zs1(am:AOk A)(hC:IsC e)(hc:X.calm=du)(hcl:(clausesOf e)[1]?=ao ⟨tg2,it2,Mc,0⟩)(hT:∀acc env,Wl e 1 tg2 it2 Mc acc env (nx acc env))(Z:Fam X scope own capt λY=>DI Y tg2 it2 di2)(L:Fam X scope own capt λY=>DG Y tg2 is2 g2)(ht2:Fam X scope own capt λY=>DTs Y Mc tt2)
  (hs2:∀(C:ai) (x:ah),foldedSetIterable it2 (compEnvC scope (ownCl X scope C) C X.env) x=pure x) (hm:HM X scope own capt nx A [] td):HM X scope own capt (nxN e 1 it2) A is2 (tdN di2 g2 tt2 td):=by
 obtain⟨wi,pi,hi⟩:=DI.fam Z;obtain⟨gg,pg,hg⟩:=DG.fam L;obtain⟨gt,pt,ht⟩:=DTs.fam ht2;obtain⟨te,pm,hm⟩:=hm;refine⟨_,λD C s₀ H₀ v=>zrZ hC rfl hc hcl (hT _ _) (hs2 C) (pi C s₀ H₀ v) (pg C s₀ H₀ v) (pt C s₀ H₀ v) (pm D C s₀ H₀ v),λC D hD G ρ σ H n acc N R S hjs a r hq=>?_⟩;refine hi C ρ σ H n _ _ S r λts n3 J H6 r6 U I it6=>?_;have S6:=S.on U I;exact zkA hD G am hg ht (hm C D hD G) S6 hjs (λj hj=>absurd hj (by simp)) ((am _ _ _ _ S.hx G a).2.2 _ U) (λH2 e dm=>it6 (Own C ρ σ) H2 (λa o ha no=>e a o ha (λz=>no (dY (S.hx a z))) λz=>no (dY (z▸hD))) (λ_ _ _ z=>z) dm) r6 λu n' H' r' e' h' a'=>hq u n' H' r' (U.transD e') h' a'
theorem zhA(am:AOk A)(az:∀C D H ho,z D ho->A C D (upd H D ho) a0)(hc:X.calm=du)(S:JB scope own capt X)(k:VN e tg iter ifs scope Lc nx)(na:NA X.prog X.w Lc z)(hi:DIL X tg iter di)(hg:Fam X scope own capt λY=>DG Y tg is g)(hin:∀i∈is,i<fo own)(ht:Fam X scope own capt λY=>DTs Y ifs tt)
  (hm:HM X scope own capt nx A js td) (hjs:∀j∈js,j<fo own/\j∉is) (hs:Fsi X iter) :
  ∃te,PE X e te/\(∀{i:Nat} {x:Str} {I Ln:Pos},X.N.Nodup->X.N[i]?=ao x->Loc (d0 X.env) x->swapsWith e (ao (bv x I)) Ln.line X.env=pure du->(Fnl X x)->PS X (ii [bv x I] e Ln) (tAsg te (UO i))) /\
   ∀(C:Ctx) (u:En) (σ:St) (H:Hp) (n:Nat) (Q:VK) (R:α->Nat->Prop),Stt X.K C u σ H n->(di u n λts n1=>cGo g tt td (JV (fo own) capt u) ts a0 n1 R) ->
    (∀acc n' H' D,R acc n'->ExtE C.hd H H'->Hn X.K C.hd H' n'->H D=bj->¬Own C u σ D->A ⟨C.hd,λa=>Own C u σ a\/a=D⟩ D H' acc->Q (.ref D) H')->te σ H Q:=by
 obtain⟨wi,pi,hi⟩:=hi;obtain⟨gg,pg,hgg⟩:=DG.fam hg;obtain⟨gt,pt,hgt⟩:=DTs.fam ht;obtain⟨te,pm,hte⟩:=hm;refine⟨_,zr5 hc S k na pi pg pt pm hs,λhN hxi hx hsw hf=>zrV hc S k na pi pg pt pm hs hN hxi hx hsw hf,λC u σ H n Q R St hd hq=>?_⟩;refine hi C u σ H n _ _ St hd λts n1 J H1 r e1 hn it=>λD ho G hz=>?_;have hD:H D=bj:=Vh e1 hn G;have nO:¬Own C u σ D:=λz=>St.dom z hD;have L:C.hd≠ao D:=λz=>nO (dY (St.hx D z));have a1:=az ⟨C.hd,λa=>Own C u σ a\/a=D⟩ D H1 ho hz;have hx':∀a,C.hd=ao a->Own C u σ a\/a=D:=λa z=>dY (dY (St.hx a z));have up:∀{a o},H1 a=ao o->a≠D/\upd H1 D ho a=ao o:=λha=>⟨QV ha G,by rw[Ju (QV ha G)];exact ha⟩;obtain⟨I3,no3⟩:=zoi (own:=own) (capt:=capt) (D:=D) St (e1.trans (ExtE.new G)) (hn.same (Qf G)) hD (am ⟨C.hd,λa=>Own C u σ a\/a=D⟩ D _ _ hx' L a1).1;have sn:∀j,j<fo own->∀v,(QE own++capS capt σ)[j]?≠ao (ao v):=λj U v ej=>by
  rw[cy (by simpa using U),bK]at ej;cases z:own[j]? with
  | none=>rw[z]at ej;cases ej
  | some q=>rw[z]at ej;cases ej
 refine zkA (C:=⟨C.hd,λa=>Own C u σ a\/a=D⟩) (sr rfl) L am hgg hgt (hte _ D (sr rfl) L) I3 (λj U=>sn j (hin j U)) (λj U=>⟨(hjs j U).2,sn j (hjs j U).1⟩) a1 (λH2 e dm=>?_) r λacc' n' H' r' e' h' a'=>hq acc' n' H' D r' (λa o ha Z=>e' a o (up (e1 a o ha Z)).2 Z (up (e1 a o ha Z)).1) h' hD nO a';have itq:=it (λa=>Own C u σ a\/a=D) H2 (λa o ha Z=>e a o (up ha).2 Z (up ha).1) (λa o ha no z=>h7 z no (up ha).1) λa z=>dm a (dY z);refine⟨λi t ht=>?_,itq.2⟩;obtain⟨go,yl⟩:=itq.1 i t ht;refine⟨go,λx H3 y=>?_⟩;obtain⟨sm,rx⟩:=yl x H3 y;exact⟨sm,rx.mono (λa o _ z=>h7 z id λz=>absurd z (no3 a)) λ_ _ _ z=>z⟩
end
def AL(K:qF)(C:Ctx)(D:ai)(H:Hp)(acc:qD):Prop:=∃o,H D=ao (.lst o)/\Reps K C.hd C.ext H o acc
theorem VO{K:qF}:AOk (AL K):=λ_ _ _ _ hx x ⟨v,u,r⟩ =>
 ⟨dY ⟨_,u⟩,λC z=>(by rw[u]at z;cases z),λH' e=>⟨v,e _ _ u x,r.mono (λ_ _ _ z=>z) λa o no ha=>e a o ha λz=>no (hx a z)⟩⟩
def nxL(elt:bg)(acc:ah)(env:Env)(k:Sem Fin):Sem Fin:=do
 (do let _ <- call (dL "list.append") [acc,<- eval elt env])
 k
theorem zjS{gs:List Comprehension}:IsC (i3 elt gs scope pos):=λ_ _ _ _ _ _ _=>⟨⟨rfl,rfl⟩,⟨rfl,rfl⟩,rfl⟩
theorem zq9{P:aK}{w:aV}:NA P w (newList []) λ_ o=>o=.lst []:=λA E s Q _ h=>cL (h _ rfl λh' e=>⟨_,rfl,λH'=>⟨cR _,[],0,ja,e⟩⟩)
theorem zrz{K:qF}(C:Ctx)(D:ai)(H:Hp)(o:HO)(h:o=.lst []):AL K C D (upd H D o) []:=⟨[],by rw[h];exact J1,.nil⟩
theorem zrj(he:Fam X scope own capt λY=>DE Y elt te):HM X scope own capt (nxL elt) (AL X.K) [] (tdL te):=by obtain⟨ge,pe,U⟩:=DE.fam he;refine⟨λD σ H N=>ge σ H λv J=>∃u,J D=ao (.lst u)/\fo u<sizeLine/\N (upd J D (.lst (u++[v]))),λD C s₀ H₀ fp pins s σ H N k Q E I h hk=>?_,λC D hD nh ρ σ H n acc N R S _ a r hq=>?_⟩;refine ae (ae (c8 (pe C s₀ H₀ fp pins s σ H _ I h) (λy s9 h9=>ae ?_) λ_ _ z=>e9 z));obtain⟨v,H9,I9,r9,u,x,hl,q9⟩:=h9;refine c8 (zfu (X:=Q8 X scope own capt C s₀ H₀ fp) _ s9 σ H9 (.ref D) [v] _ [y] (λ_ H'=>H'=upd H9 D (.lst (u++[v]))) I9 rfl (hH r9 ja) ⟨_,u,v,rfl,rfl,x,hl,rfl⟩) (λ_ s10 G=>?_) λ_ _ z=>e9 z;obtain⟨_,H10,Z,_,rfl⟩:=G;exact ak (hk _ _ Z q9);refine U C ρ σ H n _ _ S r λt n6 v J r6 e6 L q6=>?_;obtain⟨u,x,rs⟩:=(VO _ _ _ _ S.hx nh a).2.2 _ e6;refine⟨u,x,by rw[rs.length];exact r6.1,hq _ n6 _ r6.2 (λb o hb nb ne=>by rw[Ju ne];exact e6 b o hb nb) (Hn.updR nh (dY ⟨_,x⟩) L) ⟨_,J1,?_⟩⟩;exact(rs.append (.cons (q6.mono (λ_ _ _ z=>dY z) λ_ _ _ z=>z) .nil)).mono (λ_ _ _ z=>z) λa o no ha=>by rw[Ju (show a≠D from λz=>no (z▸hD))];exact ha
def zwV(K:qF)(te:TE)(d:DTA):Prop:=∀(C:Ctx) (o:En) (σ:St) (H:Hp) (n:Nat) (Q:VK) (R:qD->Nat->Prop),Stt K C o σ H n->d o n R ->
 (∀ts u p v H',R ts u->ExtE C.hd H H'->Hn K C.hd H' u->H p=bj->H' p=ao (.lst v)->Reps K C.hd (λa=>Own C o σ a\/a=p) H' v ts->Q (.ref p) H')->te σ H Q
theorem zk1(hc:X.calm=du)(S:JB scope own capt X)(hi:DIL X tg iter di)
  (hg:Fam X scope own capt λY=>DG Y tg is g) (u:∀i∈is,i<fo own) (ht:Fam X scope own capt λY=>DTs Y ifs tt) (he:Fam X scope own capt λY=>DE Y elt te) (hs:Fsi X iter) :
  ∃ge,PE X (i3 elt [⟨tg,iter,ifs,0⟩] scope pos) ge/\(∀{i:Nat} {x:Str} {l v:Pos},X.N.Nodup->X.N[i]?=ao x->Loc (d0 X.env) x->swapsWith (i3 elt [⟨tg,iter,ifs,0⟩] scope pos) (ao (bv x l)) v.line X.env=pure du->(Fnl X x)->PS X (ii [bv x l] (i3 elt [⟨tg,iter,ifs,0⟩] scope pos) v) (tAsg ge (UO i)))/\zwV X.K ge (dComp (fo own) capt di g tt te):=by
 obtain⟨ge,p,q,sp⟩:=zhA (e:=i3 elt [⟨tg,iter,ifs,0⟩] scope pos) VO zrz hc S ⟨zjS,⟨_,rfl⟩,λ_ _ _=>rfl,λ_=>⟨_,rfl⟩,λ_ _=>⟨_,rfl⟩⟩ zq9 hi hg u ht (zrj he) (λj Z=>absurd Z (by simp)) hs;exact⟨ge,p,q,λC G σ H n Q R St hd hq=>sp C G σ H n Q R St hd λacc J H' D r e h hD _ ⟨U,I,rs⟩=>hq acc J D U H' r e h hD I rs⟩
theorem zn2(hc:X.calm=du)(S:JB scope own capt X)(hi:DIL X tg iter di)
  (G:Fam X scope own capt λY=>DG Y tg is g) (l:∀i∈is,i<fo own) (u:Fam X scope own capt λY=>DTs Y ifs tt) (he:Fam X scope own capt λY=>DE Y elt te)
  (v:Fsi X iter:=by intro _;rfl):DN X (i3 elt [⟨tg,iter,ifs,0⟩] scope pos) (dComp (fo own) capt di g tt te):=by
 obtain⟨_,p,_,x⟩:=zk1 hc S hi G l u he v;exact⟨_,p,x⟩
def DNA(X:Cx)(x:Str)(l:Pos)(e:bg)(pos:Pos)(i:Nat)(d:DTA):Prop:=∃te,PS X (ii [bv x l] e pos) (tAsg te (UO i))/\zwV X.K te d
theorem Yi{x:Str}{l I:Pos}{i:Nat}(J:X.N.Nodup)(G:X.N[i]?=ao x)(hx:Loc (d0 X.env) x)(hc:X.calm=du)(S:JB scope own capt X)(hi:DIL X tg iter di)
  (hg:Fam X scope own capt λY=>DG Y tg is g) (v:∀i∈is,i<fo own) (R:Fam X scope own capt λY=>DTs Y ifs tt) (he:Fam X scope own capt λY=>DE Y elt te)
  (U:Fsi X iter:=by intro _;rfl) (u:swapsWith (i3 elt [⟨tg,iter,ifs,0⟩] scope pos) (ao (bv x l)) I.line X.env=pure du:=by rfl)
  (hf:Fnl X x:=by walk_at "F") :
  DNA X x l (i3 elt [⟨tg,iter,ifs,0⟩] scope pos) I i (dComp (fo own) capt di g tt te):=by
 obtain⟨_,_,q,Z⟩:=zk1 hc S hi hg v R he U;exact⟨_,q J G hx u hf,Z⟩
theorem zth{x:Str}{l v:Pos}{e:bg}{i:Nat}{d:DTA}(h:DNA X x l e v i d):DS X (ii [bv x l] e v) (sOwn i d):=by obtain⟨U,pa,h⟩:=h;refine⟨_,pa,λC I σ H n D Y S hd g=>?_⟩;refine h C I σ H n _ _ S hd λts J p R H' r G L u o q=>?_;exact g.nx _ _ H' J r (S.putOwn G L u o q) (zdu G u)
theorem Zf{x:Str}{o v:Pos}{e:bg}{i:Nat}{d:DTA}(h:DNA X x o e v i d):DS X (ii [bv x o] e v) (sSet i (dNew d)):=by obtain⟨ta,pa,h⟩:=h;refine⟨_,pa,λC J σ H n D D' S hd g=>?_⟩;refine h C J σ H n _ _ S hd λts L p Z H' r G R U I Y=>?_;exact g.nx _ _ H' L r ((S.on G R).put (.lst I (S.free U|> λz=>z) (Y.mono (λ_ _ _ z=>dY z) λ_ _ _ z=>z))) (G.keep.trans QT)
end
def V7(K:qF):Sp:=λl H Q _=>∃(a:ai) (ns:List Int) (k:Int),l=[.ref a,.int k]/\SqL K H a (ns.map V.int)/\fo ns<=63/\0<=k/\k<=100 /\
 ∀hd H',H hd=bj->ZM H' hd 0->Same H H'->Q (.ref hd) H'
def zwU(hd:ai)(H H':Hp):Prop:=∀b o,H b=ao o->b≠hd->H' b=ao o
def zqP:Sp:=λl H Q _=>∃(hd:ai) (many n:Int),l=[.ref hd,.int many]/\ZM H hd n/\n<=1000000000000/\0<many/\many<2 ^ 128 /\
 ∀(r:Int) H',0<=r->r<many->ZM H' hd (n+1)->zwU hd H H'->Q (.int r) H'
def Y4:GD:=λts n R=>match ts with
 | [h,bu many]=>h=HAND/\0<many/\many<2 ^ 128/\n<=1000000000000/\∀r:Int,0<=r->r<many->R (bu r) (n+1)
 | _=>False
theorem zo2{K:qF}(v:List V)(H:Hp)(Q:VK)(E:XK)(h:spD K 2 Y4 v H Q E):zqP v H Q E:=by
 obtain⟨hd,O,ts,n,R,r,N,dom,hx,hl,g,S⟩:=h;cases ts with
 | nil=>exact e9 g
 | cons x ts=>cases ts with
  | nil=>exact e9 g
  | cons t ts=>cases t with
   | int many=>cases ts with
    | nil =>
     obtain⟨rfl,m0,m1,U,g⟩:=g;cases r with
     | cons I r =>
      cases r with
      | cons J r =>
       cases r;obtain⟨a,rfl,u⟩:=I.handI;rw[J.intI];have Y:ZM H a n:=h7 (N a u) (·.1) λz=>by have:=z.1;omega
       refine⟨a,many,n,rfl,Y,by omega,m0,m1,λq H' G Z x L=>?_⟩;refine S _ (n+1) _ H' (g q G Z) (λb o hb nb=>L b o hb λz=>nb (by rw[u,z])) (λb C=>?_) (.int _);rw[u]at C;cases C;exact dY ⟨x,by omega⟩
    | cons _ _=>exact e9 g
   | _=>exact e9 g
def scrD:Option (Option Cell)->Option qD
 | some (ao (.val (sI [(fq,sJ ts)])))=>ao ts
 | _=>bj
theorem zjl{z:Option (Option Cell)}{ts:qD}(h:scrD z=ao ts):z=ao (ao (.val (sI [(fq,sJ ts)]))):=by unfold scrD at h;split at h;cases h;rfl;cases h
def zt4(z:Option (Option Cell))(R:qD->Prop):Prop:=match scrD z with
 | some ts=>R ts
 | none=>False
def JW(u:En):En:=match scrD (u[(0:Nat)]?:Option (Option Cell)) with
 | some ts=>ao (.val (sI [(fq,sJ ts)]))::cG (fo u - 1) bj
 | none=>cG (fo u) bj
def intOf:Option (Option Cell)->(Int->Prop)->Prop
 | some (ao (.val (bu k))),R=>R k
 | _,_=>False
def Yr(i j:Nat)(u:DTS):DTS:=λD C n=>zt4 C[0]? λts=>intOf C[j]? λk=>(∃ns:List Int,ts=ns.map bu/\fo ns<=63)/\0<=k/\k<=100 /\
 u { nx:=λx _=>D.nx (JW x) n,rt:=λt _=>∃b,t=dQ b/\D.rt t n,bk:=λx _=>D.bk (JW x) n,ct:=λx _=>D.ct (JW x) n } (ce (ce (JW C) j (ao (.val (bu k)))) i (ao (.val HAND))) 0
theorem Yj(h:(JW ρ)[i]?=ao (ao c)):i=0/\ρ[0]?=ao (ao c)/\∃ts,c=.val (sI [(fq,sJ ts)]):=by
 unfold JW at h;split at h;rename_i ts e;replace e:=zjl e;cases i with
 | zero=>simp at h;subst h;exact⟨rfl,e,ts,rfl⟩
 | succ i =>rw[eK,fv]at h;split at h <;> cases h
 rw[fv]at h;split at h <;> cases h
theorem zqm:fo (JW ρ)=fo ρ:=by
 unfold JW;split;rename_i ts e;replace e:=zjl e;cases ρ with
 | nil=>simp at e
 | cons a r=>simp
 simp
theorem zhy:¬OwnS (JW ρ) σ a:=λ⟨i,ds,m,h,_⟩=>by obtain⟨_,_,ts,e⟩:=Yj h;subst e;cases m
theorem Rep.scrHd{K:qF}{hd hd':Option ai}{O I:ai->Prop}{H H':Hp}{v:V}{ts:qD}(h:Rep K hd O H v (sI [(fq,sJ ts)]))(G:∀a o,H a=ao o->¬O a->H' a=ao o/\¬I a):Rep K hd' I H' v (sI [(fq,sJ ts)])/\∃ns:List Int,ts=ns.map bu:=by
 generalize e:(sI [(fq,sJ ts)])=t at h;cases h with
 | @scr a ns x o =>
  have C:ts=ns.map bu:=by simpa[SCR] using e
  subst C;refine⟨?_,ns,rfl⟩;rcases x with x|⟨u,x⟩;exact .scr (dY (G a _ x o).1) (G a _ x o).2;exact .scr (sr ⟨u,(G a _ x o).1⟩) (G a _ x o).2
 | @scrS a ns x =>
  have C:ts=ns.map bu:=by simpa[SCR] using e
  subst C;exact⟨.scrS x,ns,rfl⟩
 | hand _=>simp[HAND]at e
 | dct _ _=>cases e
 | dcK _ _ _ C=>cases e;exact(Wz C).elim
 | dcT _ _ _ C=>cases e;exact(dict_noT C).elim
 | _=>cases e
theorem Stt.drop{K:qF}{C G:Ctx}{l:En}{σ:St}{H H':Hp}{n x:Nat}(S:Stt K G l σ H n)(R:Hn K C.hd H' x)(I:∀a,C.ext a->MutO (H' a))(hx:∀a,C.hd=ao a->C.ext a)
  (u:∀a o,H a=ao o->¬Own G l σ a->H' a=ao o/\¬C.ext a):Stt K C (JW l) σ H' x where
 len:=by rw[zqm];exact S.len
 val:=λi d h=>by obtain⟨rfl,U,ts,J⟩:=Yj h;cases J;obtain⟨v,L,N⟩:=S.val 0 _ U;exact⟨v,L,(N.scrHd λa o ha no=>⟨(u a o ha no).1,λz=>h7 z (u a o ha no).2 zhy⟩).1⟩
 own:=λi ds h=>by obtain⟨_,_,ts,e⟩:=Yj h;cases e
 dct:=λi ds h=>by obtain⟨_,_,ts,e⟩:=Yj h;cases e
 rdo:=λi ds h=>by obtain⟨_,_,ts,e⟩:=Yj h;cases e
 dtt:=λi ds h=>by obtain⟨_,_,ts,e⟩:=Yj h;cases e
 dif:=λi j ds Y a m _ h=>by obtain⟨_,_,ts,e⟩:=Yj h;subst e;cases m
 hnd:=R
 ext:=I
 hx:=hx
section
variable{X:Cx}{st:e8}{sts:List e8}{ps:List Str}{f:ai}{fd:dU}{u:DTS}{x s kx hx:Str}{pos pos' p p1 p2 p3:Pos}{k:Nat}
theorem zqk{i j:Nat}(D:Bd.Def X.K X.mg hx st ps f fd)(G:FnOk X.prog X.w X.K X.mg X.base CX0 k f fd ps (V7 X.K))(hr:Room k X.A)(hN:X.N.Nodup)(hi:X.N[i]?=ao x)(hlx:Loc (d0 X.env) x)(hu:DSs X sts u)(hij:i≠0:=by decide)(hj0:j≠0:=by decide)(hji:j≠i:=by decide)
  (h0:X.N[0]?=ao s:=by rfl) (hj:X.N[j]?=ao kx:=by rfl) (hv0:Vis (d0 X.env) s:=by walk_at "V") (hvj:Vis (d0 X.env) kx:=by walk_at "V")
  (hd0:Ndb s:=by rfl) (Mv:Ncd s:=by rfl) (hdj:Ndb kx:=by rfl) (Mw:Ncd kx:=by rfl) (hg:Gl X hx:=by rfl) (hdb:Ndb hx:=by rfl)
  (hs:swapsWith (f9 (bv hx p) [bv s p1,bv kx p2] [] p3) (ao (bv x pos')) pos.line X.env=pure dy:=by rfl) (hf:Fnl X x:=by walk_at "F") :
  DSs X (ii [bv x pos'] (f9 (bv hx p) [bv s p1,bv kx p2] [] p3) pos::sts) (Yr i j u):=by
 obtain⟨tu,pu,hu⟩:=hu;refine⟨_,QM (Q1 hN hi hlx (Bd.zr3 D G hr (QN (Ub h0 hv0 hd0 Mv) (QN (Ub hj hvj hdj Mw) Ua rfl) rfl) hg hdb) hs hf) pu,λC ρ σ H n Dn D' S hd g=>?_⟩;unfold Yr zt4 at hd;split at hd;rename_i ts e0;replace e0:=zjl e0;unfold intOf at hd;split at hd;rename_i U ej;obtain⟨⟨ns,rfl,hl⟩,k0,k1,hd⟩:=hd;obtain⟨v0,s0,r0⟩:=S.val 0 _ e0;obtain⟨vj,sj,rj⟩:=S.val j _ ej;obtain⟨a0,rfl,sq0⟩:=r0.scrI;rw[rj.intI]at sj;refine⟨_,s0,_,sj,?_⟩;refine⟨a0,ns,U,rfl,sq0,hl,k0,k1,λh H1 R hok sm=>?_⟩;have S1:=S.on (Same.ext sm:ExtE C.hd H H1) (S.hnd.same sm);have nx:¬Own C ρ σ h:=λz=>S.dom z R;have Sd:Stt X.K ⟨ao h,λa=>C.ext a\/a=h⟩ (JW ρ) σ H1 0:=S.drop (λa Z=>by cases Z;exact dY ⟨hok,by decide⟩) (λa z=>h7 z (λz=>S1.ext a z) λz=>by subst z;obtain⟨_,_,_,q,_⟩:=hok;exact dY ⟨_,q⟩) (λa Z=>sr (by cases Z;rfl))
  (λa o ha no=>⟨sm a o ha,λz=>h7 z (λz=>no (dY z)) λz=>by subst z;rw[R]at ha;cases ha⟩)
 have Sd2:=(Sd.put (i:=j) (t:=bu U) (v:=.int U) (.int U)).put (i:=i) (t:=HAND) (v:=.ref h) (.hand rfl);have Mx:∀a,¬OwnS (ce (ce (JW ρ) j (ao (.val (bu U)))) i (ao (.val HAND))) (ce (ce σ j (ao (.int U))) i (ao (.ref h))) a:=λa z=>zhy (WE (WE z));have es:(ce σ j (ao (V.int U)))=σ:=by
  apply mP;intro q;by_cases z:j=q;subst z;have:j<fo σ:=by rcases gP j (fo σ) with w|w;exact w;rw[dz w]at sj;cases sj
  rw[zmp this,sj];rw[cq z]
 rw[es]at Sd2 Mx;refine hu _ _ _ H1 0 _ _ Sd2 hd ?_;have back:∀{I σ' H' n'},Stt X.K ⟨ao h,λa=>C.ext a\/a=h⟩ I σ' H' n'->(∀a o,H1 a=ao o->ao h≠ao a->H' a=ao o)->Stt X.K C (JW I) σ' H' n:=λ{I σ' H' n'} Y kp =>
  Y.drop (λa Z=>by
    rcases S.hnd a Z with⟨⟨d,m,t,q,rest⟩,l⟩|⟨l,q⟩;exact dY ⟨⟨d,m,t,kp a _ (sm _ _ q) (λz=>by cases z;rw[R]at q;cases q),rest⟩,l⟩;exact sr ⟨l,q.same λb o e=>kp b _ (sm _ _ e) (λz=>by cases z;rw[R]at e;cases e)⟩)
   (λa z=>by rcases S.ext a z with⟨xs,q⟩|⟨xs,q⟩|⟨b,q⟩;exact dY ⟨xs,kp a _ (sm _ _ q) (λz=>by cases z;rw[R]at q;cases q)⟩;exact sr (dY ⟨xs,kp a _ (sm _ _ q) (λz=>by cases z;rw[R]at q;cases q)⟩);exact sr (sr ⟨b,kp a _ (sm _ _ q) (λz=>by cases z;rw[R]at q;cases q)⟩)) S.hx (λa o ha no=>⟨ha,λz=>no (dY (dY z))⟩)
 have L:∀{I σ' H'},Keep ⟨ao h,λa=>C.ext a\/a=h⟩ (ce (ce (JW ρ) j (ao (.val (bu U)))) i (ao (.val HAND))) (ce σ i (ao (.ref h))) H1 I σ' H'->∀a o,H1 a=ao o->ao h≠ao a->H' a=ao o:=λk a o ha na=>(k a o ha na (Mx a)).1;have kp2:∀{I σ' H'},Keep ⟨ao h,λa=>C.ext a\/a=h⟩ (ce (ce (JW ρ) j (ao (.val (bu U)))) i (ao (.val HAND))) (ce σ i (ao (.ref h))) H1 I σ' H'->Keep C ρ σ H (JW I) σ' H':=λk a o ha _ _=>⟨L k a o (sm a o ha) (λz=>by cases z;rw[R]at ha;cases ha),zhy⟩;refine⟨λI σ' H' n' h' Y J=>g.nx _ _ H' n h' (back Y (L J)) (kp2 J),λt n' v H' h' hn' J rp=>?_,λI σ' H' n' h' Y J=>g.bk _ _ H' n h' (back Y (L J)) (kp2 J),λI σ' H' n' h' Y J=>g.ct _ _ H' n h' (back Y (L J)) (kp2 J),λ_ _ _ h=>e9 h⟩;obtain⟨b,rfl,h'⟩:=h';rw[rp.blI];have kq:∀a o,H a=ao o->H' a=ao o:=λa o ha=>J a o (sm a o ha) (λz=>by cases z;rw[R]at ha;cases ha) (Mx a);refine g.rt _ n _ H' h' (λa Z=>?_) (λa o ha _ _=>kq a o ha) (.bl b);rcases S.hnd a Z with⟨⟨d,m,t,q,rest⟩,l⟩|⟨l,q⟩;exact dY ⟨⟨d,m,t,kq a _ q,rest⟩,l⟩;exact sr ⟨l,q.same kq⟩;exact e9 hd;exact e9 hd
end
def zrH(K:qF):Sp:=λo H Q _=>∃(a:ai) (ns:List Int),o=[.ref a]/\SqL K H a (ns.map V.int)/\fo ns<=63/\∀H',Q (.bl du) H'
def zws:GD:=λts n R=>∃ns:List Int,ts=[SCR ns]/\fo ns<=63/\∀u,R (dQ du) u
theorem zsE{K:qF}(u:List V)(H:Hp)(Q:VK)(E:XK)(h:zrH K u H Q E):spD K 1 zws u H Q E:=by obtain⟨a,ns,rfl,sq,x,q⟩:=h;refine⟨bj,λ_=>False,[SCR ns],0,λt _=>t=dQ du,.cons ?_ .nil,(λa e=>by cases e),(λa z=>e9 z),(λa e=>by cases e),rfl,⟨ns,rfl,x,λ_=>rfl⟩,λt I v H' G _ _ C=>?_⟩;rcases sq with sq|sq;exact .scr sq (λz=>z);exact .scrS λ_=>sr sq;subst G;rw[C.blI];exact q H'
section
variable{env:Env}{es:List bg}{a b:bg}{l1:List bg}{p:Pos}{x:Str}
theorem Jv:starEach (bv x p::es) env=(dy,eval (bv x p) env)::starEach es env:=rfl
theorem zml{j}:starEach (jf (.int i) j p::es) env=(dy,eval (jf (.int i) j p) env)::starEach es env:=rfl
theorem U1{c d}:starEach (f9 a l1 c d::es) env=(dy,eval (f9 a l1 c d) env)::starEach es env:=rfl
theorem Z3{o}:starEach (jj a o b p::es) env=(dy,eval (jj a o b p) env)::starEach es env:=rfl
theorem Uc:starEach (ed a b p::es) env=(dy,eval (ed a b p) env)::starEach es env:=rfl
theorem V9{o}:starEach (jg a o l1 p::es) env=(dy,eval (jg a o l1 p) env)::starEach es env:=rfl
theorem Qr{g s}:starEach (i3 a g s p::es) env=(dy,eval (i3 a g s p) env)::starEach es env:=rfl
end
section
variable{X:Cx}{a b c e:bg}{da db dc:DTE}{pos p:Pos}{r r':R2}{g g':G2}
theorem zqj(ho:OpR X (compareOp op) r)(hg:Gp2 X r g)(U:OpR X (compareOp op') r')(Z:Gp2 X r' g')(ha:DL X a da)(hb:DL X b db)(hc:DL X c dc)
  (hm:lastMarks [op,op'] [b,c]=dy:=by with_unfolding_all rfl):DT X (jg a [op,op'] [b,c] pos) (Ui (Y2 g g' da db dc)):=by
 obtain⟨ta,pa,ha⟩:=ha;obtain⟨tb,pb,hb⟩:=hb;obtain⟨tc,pc,hc⟩:=hc;refine⟨_,zpo ho U pa pb pc hm,λC J σ H n Q R S h hq=>?_⟩;refine two ha hb S h λx y n2 v w H2 r2 e L q1 q2=>?_;refine hg C.hd (Own C J σ) H2 v w x y _ _ (λp=>L.dom) q1 q2 r2 λz u H' l sm I=>?_;have S3:=L.on sm.ext (L.hnd.same sm);cases z with
 | bool k =>
  cases I;refine⟨k,rfl,?_⟩;cases k with
  | false=>exact iteF ⟨dy,rfl,hq _ n2 H' l (e.trans sm.ext) S3.hnd⟩
  | true =>
   refine iteT (hc C J σ H' n2 _ _ S3 l λz2 n3 w2 H4 r4 Y h4 q4=>?_);have S4:=S3.on Y h4;have N:=Y.repT S.hx ((Same.ext sm:ExtE C.hd H2 H').repT S.hx q2);refine Z C.hd (Own C J σ) H4 w w2 y z2 _ _ (λp=>S4.dom) N q4 r4 λz u H' l G I=>?_;cases z with
   | bool k=>cases I;exact⟨k,rfl,hq _ n3 H' l (((e.trans sm.ext).trans Y).trans G.ext) (S4.hnd.same G)⟩
   | _=>exact e9 l
 | _=>exact e9 l
end
section
variable{C:Int->Int->Prop}{f:Int->Int->Int}{i j:Int}{R:af->Prop}{Rb:Bool->Prop}{xs ys:qD}{s t:Str}{a b:Bool}{u v:af}
theorem l_gI:gI C f (bu i) (bu j) R=(C i j/\R (bu (f i j))):=propext aY
theorem ZC:gI0 f (bu i) (bu j) R=R (bu (f i j)):=propext aY
theorem Y6:oAdd (bu i) (bu j) R=R (bu (i+j)):=propext aY
theorem Y7:oAdd (cH s) (cH t) R=(nN s+nN t<=16777216/\R (cH (s++t))):=propext aY
theorem Y8:oAdd (lV xs) (lV ys) R=(fo xs+fo ys<=16777216/\R (lV (xs++ys))):=propext aY
theorem Yw:oEq (bu i) (bu j) R=R (dQ (decide (i=j))):=propext aY
theorem Yy:oEq (cH s) (cH t) R=R (dQ (decide (s=t))):=propext aY
theorem Yz:oEq (lV xs) (lV ys) R=(Okd (lV xs)/\Okd (lV ys)/\R (dQ (dP (lV xs) (lV ys)))):=propext aY
theorem Yx:oEq (sJ xs) (sJ ys) R=(Okd (sJ xs)/\Okd (sJ ys)/\R (dQ (dP (sJ xs) (sJ ys)))):=propext aY
theorem YK:oNe (bu i) (bu j) R=R (dQ (!decide (i=j))):=propext aY
theorem YM:oNe (cH s) (cH t) R=R (dQ (!decide (s=t))):=propext aY
theorem YN:oNe (lV xs) (lV ys) R=(Okd (lV xs)/\Okd (lV ys)/\R (dQ (!PyData.eqv (lV xs) (lV ys)))):=propext aY
theorem YL:oNe (sJ xs) (sJ ys) R=(Okd (sJ xs)/\Okd (sJ ys)/\R (dQ (!PyData.eqv (sJ xs) (sJ ys)))):=propext aY
theorem YB:oIs (dQ a) (dQ b) R=R (dQ (a == b)):=propext aY
theorem YC:oIs u fq R=R (dQ (isNone u)):=by cases u <;> exact propext aY
theorem Zg:oIsN u fq R=R (dQ (!isNone u)):=by cases u <;> exact propext aY
theorem YA:oIn u (lV xs) R=(Okd u/\(∀t∈xs,Okd t)/\R (dQ (xs.any λt=>t.eqv u))):=by cases u <;> exact propext aY
theorem Zq:ZN u (lV xs) R=(Okd u/\(∀t∈xs,Okd t)/\R (dQ (!xs.any λt=>t.eqv u))):=by cases u <;> exact propext aY
theorem YH:oLtA (bu i) (bu j) R=R (dQ (decide (i<j))):=propext aY
theorem YF:oLeA (bu i) (bu j) R=R (dQ (decide (i<=j))):=propext aY
theorem YG:oLeA (cH s) (cH t) R=R (dQ (!decide (nK t.cps<nK s.cps))):=propext aY
theorem YE(h:atI xs i=ao x):oIx (sJ xs) (bu i) R=R x:=by show(match atI xs i with|some t=>R t|none=>False)=_;rw[h]
theorem ZD(h:atI xs i=ao x):oIx (lV xs) (bu i) R=R x:=by show(match atI xs i with|some t=>R t|none=>False)=_;rw[h]
theorem Zc:oIx (lV (u::xs)) (bu 0) R=R u:=ZD (by unfold atI ixN;simp)
theorem Zd:oIx (lV (u::v::xs)) (bu 1) R=R v:=ZD (by unfold atI ixN;simp;rw[if_pos (by omega)];rfl)
theorem YR:oIx (lV (u::v::w::xs)) (bu 2) R=R w:=ZD (by unfold atI ixN;simp;rw[if_pos (by omega)];rfl)
theorem Za:oIx (sJ (u::xs)) (bu 0) R=R u:=YE (by unfold atI ixN;simp)
theorem Zb:oIx (sJ (u::v::xs)) (bu 1) R=R v:=YE (by unfold atI ixN;simp;rw[if_pos (by omega)];rfl)
theorem YS:truD (dQ a) Rb=Rb a:=propext aY
theorem YT:truD (sJ xs) Rb=Rb (!(g5 xs)):=propext aY
theorem Yv:bolD (dQ a) Rb=Rb a:=propext aY
theorem YJ:bMin [bu i,bu j] R=R (bu (if j<i then j else i)):=propext aY
theorem YI:bMax [bu i,bu j] R=R (bu (if j > i then j else i)):=propext aY
theorem Y9:bInt [dQ a] R=R (bu (if a then 1 else 0)):=propext aY
theorem Zr:Wn [sJ xs] R=R (lV xs):=propext aY
theorem Zh:J0 (sJ xs) Rl=Rl xs:=propext aY
theorem Zp:J0 (lV xs) Rl=Rl xs:=propext aY
theorem zvz(y:String)(h:y∈["NoneType","bool","int","str","list","tuple","dict"]):kitB y "int" = ao (decide (y = "int")||decide (y = "bool")):=by simp only[ay,aS,or_false]at h;rcases h with rfl|rfl|rfl|rfl|rfl|rfl|rfl <;> decide +kernel
theorem zsG(y:String)(h:y∈["NoneType","bool","int","str","list","tuple","dict"]):kitB y "bool" = ao (decide (y = "bool")):=by simp only[ay,aS,or_false]at h;rcases h with rfl|rfl|rfl|rfl|rfl|rfl|rfl <;> decide +kernel
theorem zpX(y:String)(h:y∈["NoneType","bool","int","str","list","tuple","dict"]):kitB y "tuple" = ao (decide (y = "tuple")):=by simp only[ay,aS,or_false]at h;rcases h with rfl|rfl|rfl|rfl|rfl|rfl|rfl <;> decide +kernel
theorem zvy(y:String)(h:y∈["NoneType","bool","int","str","list","tuple","dict"]):kitB y "str" = ao (decide (y = "str")):=by simp only[ay,aS,or_false]at h;rcases h with rfl|rfl|rfl|rfl|rfl|rfl|rfl <;> decide +kernel
def Pln(t:af):Prop:=tyN t≠bj
def isInt:af->Bool|bu _=>du|dQ _=>du|_=>false
def isBool:af->Bool|dQ _=>du|_=>false
def isTup:af->Bool|lV _=>du|_=>false
def isStr:af->Bool|cH _=>du|_=>false
variable{d:DTE}{ρ:En}{n:Nat}
theorem Ws(h:tyN u=ao y):y∈["NoneType","bool","int","str","list","tuple","dict"]:=by unfold tyN at h;split at h <;> cases h <;> simp
def isiD(f:af->Bool)(d:DTE):DTE:=λρ n R=>d ρ n λt x=>Pln t/\R (dQ (f t)) x
end
section
variable{X:Cx}{e:bg}{d:DTE}{p p2 pos:Pos}
theorem Qo(hk:∀t y,tyN t=ao y->kitB y T=ao (f t))(Y:X.mg "isinstance" = bj) (o:X.mg y=bj) (J:bootBuiltins y=ao (bU T)) (h:DL X e d) (U:starEach (e::[bv y p2]) X.env=(dy,eval e X.env)::starEach [bv y p2] X.env) (hg:Gl X "isinstance":=by rfl) (u:Gl X y:=by rfl) (Z:y ≠ "__name__":=by decide) (hd:Ndb y:=by rfl) :
  DE X (f9 (bv "isinstance" p) [e,bv y p2] [] pos) (isiD f d):=by
 obtain⟨ta,pa,h⟩:=h;refine⟨_,V2 zow Y zqB (QN pa (zsa (Bd.zys o J u Z hd) Ua) U) hg,λC x σ H n Q R S hd hq=>?_⟩;refine h C x σ H n _ _ S hd λt I v H1 G e1 L q1=>?_;cases et:tyN t with
 | none=>exact absurd et G.1
 | some z=>exact⟨v,C.hd,Own C x σ,t,T,z,f t,rfl,q1,et,hk t z et,hq _ I _ H1 G.2 e1 L (.bl _)⟩
theorem zrl:∀t y,tyN t=ao y->kitB y "int" = ao (isInt t):=λt y e=>by rw[zvz y (Ws e)];unfold tyN at e;split at e <;> cases e <;> rfl
theorem znH:∀t y,tyN t=ao y->kitB y "bool" = ao (isBool t):=λt y e=>by rw[zsG y (Ws e)];unfold tyN at e;split at e <;> cases e <;> rfl
theorem Uz:∀t y,tyN t=ao y->kitB y "tuple" = ao (isTup t):=λt y e=>by rw[zpX y (Ws e)];unfold tyN at e;split at e <;> cases e <;> rfl
theorem Wf:∀t y,tyN t=ao y->kitB y "str" = ao (isStr t):=λt y e=>by rw[zvy y (Ws e)];unfold tyN at e;split at e <;> cases e <;> rfl
theorem Uf:Pln (bu i):=by simp[Pln,tyN]
theorem Ug:Pln (dQ i):=by simp[Pln,tyN]
theorem Ur:Pln (cH i):=by simp[Pln,tyN]
theorem Uw:Pln (lV i):=by simp[Pln,tyN]
theorem UC:Pln (sJ i):=by simp[Pln,tyN]
theorem UD:Pln fq:=by simp[Pln,tyN]
theorem UB:Pln (sI []):=by simp[Pln,tyN]
end
abbrev blk(i h:Int):af:=lV [bu i,bu h]
theorem UA:Okd (lV [bu i,bu h]):=⟨by simp[bX,bL],by simp[eC,cm]⟩
theorem zqf:dP (lV [bu i,bu h]) (lV [bu j,bu g])=(decide (i=j)&&decide (h=g)):=by simp only[dP,iE,iF];rw[oj,oj]
def IsBk(bits i h:Int):Prop:=0<=h/\h<=bits/\∃k:Int,0<=k/\i=k*2 ^ ap h/\k<2 ^ ap (bits - h)
theorem Wx(k:Nat):(0:Int)<2 ^ k:=Bd.JE k
theorem zkj:(2:Int) ^ (a+b)=2 ^ a*2 ^ b:=fP 2 a b
theorem IsBk.bounds(x:0<=bits)(H:IsBk bits i h):0<=i/\i+2 ^ ap h<=2 ^ ap bits:=by
 obtain⟨h0,v,k,l,rfl,u⟩:=H;have p:=Wx (ap h);refine⟨t5 l (bG p),?_⟩;have e:ap bits=ap (bits - h)+ap h:=by lia
 rw[e,zkj];have:(k+1)*2 ^ ap h<=2 ^ ap (bits - h)*2 ^ ap h:=aZ (by lia) (bG p);rw[cX,bR]at this;exact this
theorem cpow(h0:0<=j)(l:j<=1000000):CPow 1 j:=⟨h0,l,by decide⟩
section
variable{t u:DTS}{D:JY}{ρ:En}{n i j:Nat}{d da db dc:DTE}{ds:DTA}{c:DTT}{g:G2}{g':G2}{gc:GC}{gd:GD}{tg:DTG}{tgs:DTGs}{R:qN}{Rb:Bool->Nat->Prop}{Rl:qD->Nat->Prop}{Re:En->Prop}{x y:af}{xs ys:qD}{f:Int->Int->Int}{k:Bool}
theorem Va:(sSeq t u D ρ n)=(t { D with nx:=u D } ρ n):=propext aY
theorem Z9:(sRet d D ρ n)=(d ρ n λt l=>D.rt t l):=propext aY
theorem Vb:(sSet i d D ρ n)=(d ρ n λt o=>D.nx (ce ρ i (ao (.val t))) o):=propext aY
theorem Z8:(sAsg d tg D ρ n)=(d ρ n λt o=>tg t ρ λl=>D.nx l o):=propext aY
theorem u_dC:(dC x ρ n R)=(R x n):=propext aY
theorem ZK:(dOp g da db ρ n R)=(da ρ n λx l=>db ρ l λy o=>g x y λz=>R z o):=propext aY
theorem Z4:(dNew ds ρ n R)=(ds ρ n λts o=>R (sJ ts) o):=propext aY
theorem Z6:(dTup ds ρ n R)=(ds ρ n λts o=>R (lV ts) o):=propext aY
theorem Z5:(dNil ρ n Rl)=(Rl [] n):=propext aY
theorem Vk:(JZ d ds ρ n Rl)=(d ρ n λt l=>ds ρ l λts o=>Rl (t::ts) o):=propext aY
theorem ZJ:(dFn gd ds ρ n R)=(ds ρ n λts l=>gd ts l R):=propext aY
theorem Vs:(Y1 gc ds ρ n R)=(ds ρ n λts l=>gc ts λz=>R z l):=propext aY
theorem Vu:(Qe i x ρ Re)=(Re (ce ρ i (ao (.val x)))):=propext aY
theorem Vm:(UQ tgs (lV xs) ρ Re)=(tgs xs ρ Re):=propext aY
theorem Vl:(UP [] ρ Re)=(Re ρ):=propext aY
theorem Vt:(QS tg tgs (x::xs) ρ Re)=(tg x ρ λl=>tgs xs l Re):=propext aY
def cVal:Option Cell->(af->Prop)->Prop
 | some (.val d),R=>R d
 | _,_=>False
def cOwn:Option Cell->(qD->Prop)->Prop
 | some (.own d),R=>R d
 | _,_=>False
theorem ZV:cVal (ao (.val x)) Q=Q x:=propext aY
theorem Z7:dVar i ρ n R=cVal (ρ.getD i bj) λd=>R d n:=by
 unfold dVar;rw[bE];cases e:ρ[i]? with
 | none=>exact propext aY
 | some o=>cases o with
  | none=>exact propext aY
  | some c=>cases c <;> exact propext aY
theorem Zl:Ui d ρ n Rb=(d ρ n λt l=>bolD t λb=>Rb b l):=by unfold Ui;congr 1;funext t l;cases t <;> exact propext aY
def lCat:af->af->(qD->Prop)->Prop
 | sJ xs,sJ ys,R=>fo xs+fo ys<=16777216/\R (xs++ys)
 | _,_,_=>False
theorem YX:dCat da db ρ n Rl=(da ρ n λx l=>db ρ l λy o=>lCat x y λzs=>Rl zs o):=by unfold dCat;congr 1;funext x l;congr 1;funext y o;cases x <;> cases y <;> exact propext aY
def lLst:af->(qD->Prop)->Prop
 | sJ xs,R=>R xs
 | _,_=>False
def lTup:af->(qD->Prop)->Prop
 | lV xs,R=>R xs
 | _,_=>False
theorem YY:dItL d ρ n Rl=(d ρ n λt l=>lLst t λts=>Rl ts l):=by unfold dItL;congr 1;funext t l;cases t <;> exact propext aY
theorem YZ:dItT d ρ n Rl=(d ρ n λt l=>lTup t λts=>Rl ts l):=by unfold dItT;congr 1;funext t l;cases t <;> exact propext aY
def lInt:af->(Int->Prop)->Prop
 | bu i,R=>R i
 | _,_=>False
theorem Zk:Zx d ρ n Rl=(d ρ n λt l=>lInt t λj=>(-(2 ^ 62)<=j/\j<2 ^ 62)/\Rl (QL 0 (ap j)) l):=by unfold Zx;congr 1;funext t l;cases t <;> exact propext aY
theorem Y0:dNeg d ρ n R=(d ρ n λt l=>lInt t λi=>R (bu (-i)) l):=by unfold dNeg;congr 1;funext t l;cases t <;> exact propext aY
theorem YO:sAug i f d D ρ n=cVal (ρ.getD i bj) λv=>lInt v λq=>d ρ n λt C=>lInt t λk=>D.nx (ce ρ i (ao (.val (bu (f q k))))) C:=by
 unfold sAug;rw[bE];cases e:ρ[i]? with
 | none=>exact propext aY
 | some o=>cases o with
  | none=>exact propext aY
  | some c=>cases c with
   | own _=>exact propext aY
   | dct _=>exact propext aY
   | dtt _=>exact propext aY
   | rdo _=>exact propext aY
   | val v=>cases v with
    | int q =>show(d ρ n λt C=>_)=(d ρ n λt C=>_);congr 1;funext t C;cases t <;> exact propext aY
    | _=>exact propext aY
theorem Zs:Y2 g g' da db dc ρ n R=(da ρ n λx C=>db ρ C λy v=>g x y λz=>bolD z λb=>if b=du then dc ρ v λw G=>g' y w λz=>R z G else R (dQ dy) v):=by
 unfold Y2;congr 1;funext x C;congr 1;funext y v;congr 1;funext z;cases z with
 | bool b=>cases b <;> simp[bolD]
 | _=>exact propext aY
def U6(ρ:En)(i:Nat)(D:JY)(C:DTE)(t:af)(l:Nat)(ts:qD):Prop:=C ρ l λj v=>lInt j λj=>(match ixN (fo ts) j with|some k=>D.nx (ce ρ i (ao (.own (ce ts k t)))) v|none=>False)
theorem YQ:sPut i dj d D ρ n=(d ρ n λt l=>cOwn (ρ.getD i bj) λxs=>U6 ρ i D dj t l xs):=by
 unfold sPut;congr 1;funext t l;rw[bE];cases e:ρ[i]? with
 | none=>exact propext aY
 | some o=>cases o with
  | none=>exact propext aY
  | some c=>cases c with
   | val _=>exact propext aY
   | dct _=>exact propext aY
   | dtt _=>exact propext aY
   | rdo _=>exact propext aY
   | own xs =>show(dj ρ l λj v=>_)=U6 ρ i D dj t l xs;unfold U6;congr 1;funext j v;cases j <;> exact propext aY
variable{tb:DTS}{m:Nat}{di:DTA}{c' tt:DTT}{fb:af->Bool}{capt:List Nat}
theorem zvY(h:t { D with nx:=u D } ρ n):sSeq t u D ρ n:=h
theorem zsR(h:D.nx ρ n):VV D ρ n:=h
theorem zvZ(h:d ρ n λt l=>D.rt t l):sRet d D ρ n:=h
theorem zy6(h:c ρ n λb l=>if b=du then t D ρ l else u D ρ l):sIf c t u D ρ n:=h
theorem zv1(h:d ρ n λt o=>tg t ρ λl=>D.nx l o):sAsg d tg D ρ n:=h
theorem zv0(h:di ρ n λts l=>forP tg tb D ts ρ l):sFor di tg tb D ρ n:=h
theorem i_dC(h:R x n):dC x ρ n R:=h
theorem zy_(h:da ρ n λx l=>db ρ l λy o=>g x y λz=>R z o):dOp g da db ρ n R:=h
theorem zwe(h:ds ρ n λts o=>R (sJ ts) o):dNew ds ρ n R:=h
theorem zv9(h:ds ρ n λts o=>R (lV ts) o):dTup ds ρ n R:=h
theorem zwd(h:Rl [] n):dNil ρ n Rl:=h
theorem zsY(h:d ρ n λt l=>ds ρ l λts o=>Rl (t::ts) o):JZ d ds ρ n Rl:=h
theorem zza(h:ds ρ n λts l=>gd ts l R):dFn gd ds ρ n R:=h
theorem zwj(h:ds ρ n λts l=>gd ts l λt o=>Qg t=du/\R t o):dFnL gd ds ρ n R:=h
theorem zp9(h:ds ρ n λts l=>gc ts λz=>R z l):Y1 gc ds ρ n R:=h
theorem zwl(h:c ρ n λb l=>if b=du then c' ρ l Rb else Rb dy l):dAnd c c' ρ n Rb:=h
theorem zy9(h:c ρ n λb l=>if b=du then Rb du l else c' ρ l Rb):dOr c c' ρ n Rb:=h
theorem zwc(h:c ρ n λb l=>Rb (!b) l):dNot c ρ n Rb:=h
theorem zs0(h:da ρ n λt v=>bolD t λb=>if b=du then db ρ v R else R (dQ dy) v):zts da db ρ n R:=h
theorem zwb(h:da ρ n λt v=>bolD t λb=>if b=du then R (dQ du) v else db ρ v R):dOrV da db ρ n R:=h
theorem zsX(h:da ρ n λt v=>bolD t λb=>R (dQ (!b)) v):ztr da ρ n R:=h
theorem zwi(h:c ρ n λb l=>if b=du then da ρ l R else db ρ l R):dIfE c da db ρ n R:=h
theorem zv_(h:d ρ n λt l=>truD t λb=>Rb b l):dTru d ρ n Rb:=h
theorem zsZ(h:di ρ n λts l=>Qb tg tt d (JV m capt ρ) ts [] l Rl):dComp m capt di tg tt d ρ n Rl:=h
theorem zv8(h:Rb du n):dYes ρ n Rb:=h
theorem zsP(h:tgs xs ρ Re):UQ tgs (lV xs) ρ Re:=h
theorem zsQ(h:Re ρ):UP [] ρ Re:=h
theorem zp6(h:tg x ρ λl=>tgs xs l Re):QS tg tgs (x::xs) ρ Re:=h
theorem zsT(h:d ρ n λt l=>bolD t λb=>Rb b l):Ui d ρ n Rb:=dv Zl▸h
theorem zwk(h:da ρ n λx l=>db ρ l λy o=>lCat x y λzs=>Rl zs o):dCat da db ρ n Rl:=dv YX▸h
theorem zwh(h:d ρ n λt l=>lLst t λts=>Rl ts l):dItL d ρ n Rl:=dv YY▸h
theorem zwg(h:d ρ n λt l=>lTup t λts=>Rl ts l):dItT d ρ n Rl:=dv YZ▸h
theorem zsV(h:d ρ n λt l=>lInt t λj=>(-(2 ^ 62)<=j/\j<2 ^ 62)/\Rl (QL 0 (ap j)) l):Zx d ρ n Rl:=dv Zk▸h
theorem zwf(h:d ρ n λt l=>lInt t λi=>R (bu (-i)) l):dNeg d ρ n R:=dv Y0▸h
theorem zp8(h:da ρ n λx C=>db ρ C λy v=>g x y λz=>bolD z λb=>if b=du then dc ρ v λw G=>g' y w λz=>R z G else R (dQ dy) v):Y2 g g' da db dc ρ n R:=dv Zs▸h
def lIsi(fb:af->Bool)(t:af)(R:af->Prop):Prop:=Pln t/\R (dQ (fb t))
theorem zv5(h:d ρ n λt l=>lIsi fb t λz=>R z l):isiD fb d ρ n R:=h
theorem zrh(e:ρ[i]?=ao (ao (.val x)))(h:R x n):dVar i ρ n R:=by unfold dVar;rw[e];exact h
theorem zri(e:ρ[i]?=ao (ao (.own xs)))(h:R (sJ xs) n):dOwn i ρ n R:=by unfold dOwn;rw[e];exact h
theorem zkJ(e:ρ[i]?=ao (ao (.own xs)))(h:d ρ n λt l=>fo xs<16777216/\D.nx (ce ρ i (ao (.own (xs++[t])))) l):Zj i d D ρ n:=by unfold Zj;rw[e];exact h
theorem zkI(e:ρ[i]?=ao (ao (.own xs)))(h:t D (ce ρ i (ao (.val (sJ xs)))) n):Ve i t D ρ n:=by unfold Ve;rw[e];exact h
theorem zzb(e:ρ[i]?=ao (ao (.val (bu q))))(h:d ρ n λt o=>lInt t λk=>D.nx (ce ρ i (ao (.val (bu (f q k))))) o):sAug i f d D ρ n:=by rw[YO,bE,e];exact h
theorem zy7(e:ρ[i]?=ao (ao (.own xs)))(h:d ρ n λt l=>U6 ρ i D dj t l xs):sPut i dj d D ρ n:=by rw[YQ,bE,e];exact h
theorem zv2(h:dj ρ n λj l=>lInt j λj=>(match ixN (fo xs) j with|some k=>D.nx (ce ρ i (ao (.own (ce xs k x)))) l|none=>False)):U6 ρ i D dj x n xs:=h
theorem zy8{A B:Prop}(l:b=du->A)(o:b=dy->B):if b=du then A else B:=by cases b with|true=>exact iteT (l rfl)|false=>exact iteF (o rfl)
theorem zv4{p:Prop}[Decidable p]{A B:Prop}(o:p->A)(l:¬p->B):if decide p=du then A else B:=by by_cases h:p;rw[decide_eq_true h];exact iteT (o h);rw[decide_eq_false h];exact iteF (l h)
theorem zv3{A B:Prop}(h:if b=du then B else A):if (!b)=du then A else B:=by cases b with|true=>exact iteF h|false=>exact iteT h
end
section
variable{fb:Int->Int->Bool}{i j:Int}{R:af->Prop}{Rb:Bool->Prop}{xs ys:qD}{s t:Str}{a b:Bool}{u v:af}
theorem zvR(h:R (bu (i+j))):oAdd (bu i) (bu j) R:=dv Y6▸h
theorem zvQ(h:(nN s+nN t<=16777216/\R (cH (s++t)))):oAdd (cH s) (cH t) R:=dv Y7▸h
theorem zvP(h:(fo xs+fo ys<=16777216/\R (lV (xs++ys)))):oAdd (lV xs) (lV ys) R:=dv Y8▸h
theorem zy1(h:R (dQ (decide (i=j)))):oEq (bu i) (bu j) R:=dv Yw▸h
theorem zyZ(h:R (dQ (decide (s=t)))):oEq (cH s) (cH t) R:=dv Yy▸h
theorem zyY(h:(Okd (lV xs)/\Okd (lV ys)/\R (dQ (dP (lV xs) (lV ys))))):oEq (lV xs) (lV ys) R:=dv Yz▸h
theorem zy0(h:(Okd (sJ xs)/\Okd (sJ ys)/\R (dQ (dP (sJ xs) (sJ ys))))):oEq (sJ xs) (sJ ys) R:=dv Yx▸h
theorem zyK(h:R (dQ (!decide (i=j)))):oNe (bu i) (bu j) R:=dv YK▸h
theorem zyI(h:R (dQ (!decide (s=t)))):oNe (cH s) (cH t) R:=dv YM▸h
theorem zyH(h:(Okd (lV xs)/\Okd (lV ys)/\R (dQ (!PyData.eqv (lV xs) (lV ys))))):oNe (lV xs) (lV ys) R:=dv YN▸h
theorem zyJ(h:(Okd (sJ xs)/\Okd (sJ ys)/\R (dQ (!PyData.eqv (sJ xs) (sJ ys))))):oNe (sJ xs) (sJ ys) R:=dv YL▸h
theorem zyV(h:R (dQ (a == b))):oIs (dQ a) (dQ b) R:=dv YB▸h
theorem zyU(h:R (dQ (isNone u))):oIs u fq R:=dv YC▸h
theorem zsJ(h:R (dQ (!isNone u))):oIsN u fq R:=dv Zg▸h
theorem zyX(h:(Okd u/\(∀t∈xs,Okd t)/\R (dQ (xs.any λt=>t.eqv u)))):oIn u (lV xs) R:=dv YA▸h
theorem zpZ(h:(Okd u/\(∀t∈xs,Okd t)/\R (dQ (!xs.any λt=>t.eqv u)))):ZN u (lV xs) R:=dv Zq▸h
theorem zyP(h:R (dQ (decide (i<j)))):oLtA (bu i) (bu j) R:=dv YH▸h
theorem zyS(h:R (dQ (decide (i<=j)))):oLeA (bu i) (bu j) R:=dv YF▸h
theorem zyR(h:R (dQ (!decide (nK t.cps<nK s.cps)))):oLeA (cH s) (cH t) R:=dv YG▸h
theorem zvK(h:R u):oIx (lV (u::xs)) (bu 0) R:=dv Zc▸h
theorem zvJ(h:R v):oIx (lV (u::v::xs)) (bu 1) R:=dv Zd▸h
theorem zvI(h:R w):oIx (lV (u::v::w::xs)) (bu 2) R:=dv YR▸h
theorem Wh(h:R u):oIx (sJ (u::xs)) (bu 0) R:=dv Za▸h
theorem zrc(h:R v):oIx (sJ (u::v::xs)) (bu 1) R:=dv Zb▸h
theorem zvB(h:Rb a):truD (dQ a) Rb:=dv YS▸h
theorem zvA(h:Rb (!(g5 xs))):truD (sJ xs) Rb:=dv YT▸h
theorem zy3(h:Rb a):bolD (dQ a) Rb:=dv Yv▸h
theorem zvH(h:R (bu (fo xs))):bLen [sJ xs] R:=dY ⟨xs,rfl,h⟩
theorem zvF(h:R (bu (fo xs))):bLen [lV xs] R:=sr (dY ⟨xs,rfl,h⟩)
theorem zvG(h:(nN s<=16777216/\R (bu (nN s)))):bLen [cH s] R:=sr (sr (dY ⟨s,rfl,h⟩))
theorem zp0(h:R (bu (fo ns))):bLen [SCR ns] R:=sr (sr (sr ⟨_,rfl,by rw[aG];exact h⟩))
theorem zyN(h:R (bu (if j<i then j else i))):bMin [bu i,bu j] R:=dv YJ▸h
theorem zyO(h:R (bu (if j > i then j else i))):bMax [bu i,bu j] R:=dv YI▸h
theorem zvN(h:R (bu (if a then 1 else 0))):bInt [dQ a] R:=dv Y9▸h
theorem zpY(h:R (lV xs)):Wn [sJ xs] R:=dv Zr▸h
theorem zsI(h:Rl xs):J0 (sJ xs) Rl:=dv Zh▸h
theorem zp2(h:Rl xs):J0 (lV xs) Rl:=dv Zp▸h
theorem zy2(h:(fo xs+fo ys<=16777216/\Q (xs++ys))):lCat (sJ xs) (sJ ys) Q:=h
theorem zyQ(h:Q xs):lLst (sJ xs) Q:=h
theorem zyD(h:Q xs):lTup (lV xs) Q:=h
theorem zyW(h:Q i):lInt (bu i) Q:=h
theorem zyL(c:CMul i j)(h:R (bu (i*j))):oMul (bu i) (bu j) R:=⟨c,h⟩
theorem zyM(c:0<j)(h:R (bu (i % j))):oMod (bu i) (bu j) R:=⟨c,h⟩
theorem zvO(c:Zy i j)(h:R (bu (i / j))):UN (bu i) (bu j) R:=⟨c,h⟩
theorem zyG(c:CPow i j)(h:R (bu (i*2 ^ ap j))):oShl (bu i) (bu j) R:=⟨c,h⟩
theorem zyE(h:R (bu (i - j))):oSub (bu i) (bu j) R:=h
theorem zyC(h:R (bu (bW i j))):oXor (bu i) (bu j) R:=h
theorem zy4(h:R (bu (hZ i j))):oAnd (bu i) (bu j) R:=h
theorem j_gB(h:R (dQ (fb i j))):gB fb (bu i) (bu j) R:=h
theorem zjQ(h:R (dQ du)):lIsi isInt (bu i) R:=⟨Uf,h⟩
theorem ziU(h:R (dQ du)):lIsi isInt (dQ a) R:=⟨Ug,h⟩
theorem zjP(h:R (dQ dy)):lIsi isInt (cH s) R:=⟨Ur,h⟩
theorem zho(h:R (dQ dy)):lIsi isInt (lV xs) R:=⟨Uw,h⟩
theorem ziS(h:R (dQ dy)):lIsi isInt (sJ xs) R:=⟨UC,h⟩
theorem ziR(h:R (dQ dy)):lIsi isInt (fq) R:=⟨UD,h⟩
theorem ziT(h:R (dQ dy)):lIsi isInt (sI []) R:=⟨UB,h⟩
theorem ziV(h:R (dQ dy)):lIsi isBool (bu i) R:=⟨Uf,h⟩
theorem zhp(h:R (dQ du)):lIsi isBool (dQ a) R:=⟨Ug,h⟩
theorem zjM(h:R (dQ dy)):lIsi isTup (bu i) R:=⟨Uf,h⟩
theorem ziM(h:R (dQ dy)):lIsi isTup (dQ a) R:=⟨Ug,h⟩
theorem zjL(h:R (dQ dy)):lIsi isTup (cH s) R:=⟨Ur,h⟩
theorem zhm(h:R (dQ du)):lIsi isTup (lV xs) R:=⟨Uw,h⟩
theorem ziK(h:R (dQ dy)):lIsi isTup (sJ xs) R:=⟨UC,h⟩
theorem ziJ(h:R (dQ dy)):lIsi isTup (fq) R:=⟨UD,h⟩
theorem ziL(h:R (dQ dy)):lIsi isTup (sI []) R:=⟨UB,h⟩
theorem zjO(h:R (dQ dy)):lIsi isStr (bu i) R:=⟨Uf,h⟩
theorem ziQ(h:R (dQ dy)):lIsi isStr (dQ a) R:=⟨Ug,h⟩
theorem zjN(h:R (dQ du)):lIsi isStr (cH s) R:=⟨Ur,h⟩
theorem zhn(h:R (dQ dy)):lIsi isStr (lV xs) R:=⟨Uw,h⟩
theorem ziO(h:R (dQ dy)):lIsi isStr (sJ xs) R:=⟨UC,h⟩
theorem ziN(h:R (dQ dy)):lIsi isStr (fq) R:=⟨UD,h⟩
theorem ziP(h:R (dQ dy)):lIsi isStr (sI []) R:=⟨UB,h⟩
end
theorem zrW{h:Int}(h0:0<h):(2:Int) ^ ap h=2*2 ^ ap (h - 1):=by
 have e:ap h=ap (h - 1)+1:=by lia
 rw[e,cB,c9]
theorem zux{h:Int}(h0:0<=h):(2:Int) ^ ap (h+1)=2*2 ^ ap h:=by have:=zrW (h:=h+1) (by lia);rw[this];simp
theorem IsBk.low{bits i h:Int}(B:IsBk bits i h)(l:0<h):IsBk bits i (h - 1):=by
 obtain⟨h0,x,k,u,rfl,v⟩:=B;refine⟨by lia,by lia,2*k,by lia,?_,?_⟩;rw[zrW l,<- eP,c9 k 2];have e:ap (bits - (h - 1))=ap (bits - h)+1:=by lia
 rw[e,cB];lia
theorem IsBk.up{bits i h:Int}(B:IsBk bits i h)(l:0<h):IsBk bits (i+2 ^ ap h / 2) (h - 1):=by
 obtain⟨h0,x,k,u,rfl,v⟩:=B;refine⟨by lia,by lia,2*k+1,by lia,?_,?_⟩;rw[zrW l];have:2*(2:Int) ^ ap (h - 1) / 2=2 ^ ap (h - 1):=by lia
 rw[this,cX,bR,<- eP,c9 k 2];have e:ap (bits - (h - 1))=ap (bits - h)+1:=by lia
 rw[e,cB];lia
theorem zpJ(P:Int)(l:0<P):k*P % (2*P)=(k % 2)*P:=by rw[c9 2 P,c9 k P,Int.mul_emod_mul_of_pos _ _ l,c9]
theorem IsBk.abt{bits i h:Int}(B:IsBk bits i h)(v:h<bits):IsBk bits (i - i % (2*2 ^ ap h)) (h+1):=by
 obtain⟨h0,x,k,u,rfl,l⟩:=B;refine⟨by lia,by lia,k / 2,by lia,?_,?_⟩;rw[zpJ _ (Wx _),zux h0,<- oH];have:k - k % 2=k / 2*2:=by lia
 rw[this,eP];have e:ap (bits - h)=ap (bits - (h+1))+1:=by lia
 rw[e,cB]at l;lia
theorem IsBk.oth(B:IsBk bits i h)(x:h<bits):IsBk bits (bW i (2 ^ ap h)) h:=by
 obtain⟨h0,l,k,u,rfl,v⟩:=B;rw[zj9 _ u];have e:ap (bits - h)=ap (bits - (h+1))+1:=by lia
 split;refine⟨h0,l,k+1,by lia,by rw[cX,bR],?_⟩;rw[e,cB]at v ⊢;lia;refine⟨h0,l,k - 1,by lia,by rw[oH,bR],by lia⟩
theorem IsBk.nxt(B:IsBk bits i h)(l:i+2*2 ^ ap h<=2 ^ ap bits):IsBk bits (i+2 ^ ap h) h:=by
 obtain⟨h0,u,k,v,rfl,x⟩:=B;refine⟨h0,u,k+1,by lia,by rw[cX,bR],?_⟩;have e:ap bits=ap (bits - h)+ap h:=by lia
 rw[e,zkj]at l;have p:=Wx (ap h);have:(k+2)*2 ^ ap h<=2 ^ ap (bits - h)*2 ^ ap h:=by rw[cX];exact l
 have:=mC this p;lia
theorem zzn:CMul 2 j:=dY ⟨by decide,by decide⟩
theorem zwP:Zy j 2:=⟨by decide,by decide⟩
theorem Qy(h:Nat):(1:Int)*2 ^ h=2 ^ h:=bR _
def BlkN(bits i:Int)(h:Nat):Prop:=(h:Int)<=bits/\∃k:Int,0<=k/\i=k*2 ^ h/\k<2 ^ (ap bits - h)
theorem IsBk.n(B:IsBk bits i h):BlkN bits i (ap h):=by
 obtain⟨h0,v,k,l,e,u⟩:=B;refine⟨by lia,k,l,e,?_⟩;have:ap (bits - h)=ap bits - ap h:=by lia
 rw[<- this];exact u
theorem zoA(b:BlkN bits j g)(l:g<=h):j / 2 ^ h*2 ^ h<=j/\j+2 ^ g<=(j / 2 ^ h+1)*2 ^ h:=by
 obtain⟨_,m,m0,rfl,_⟩:=b;have C:=Bd.JE h;have v:=Bd.JE g;have u:=Bd.JE (h - g);have o:(2:Int) ^ h=2 ^ (h - g)*2 ^ g:=by rw[<- fP];congr 1;lia
 refine⟨Int.ediv_mul_le _ (by lia),?_⟩;have eq:(m*2 ^ g) / 2 ^ h=m / 2 ^ (h - g):=by rw[o];exact Int.mul_ediv_mul_of_pos_left m _ v
 rw[eq,o,<- eP];have x:m*2 ^ g+2 ^ g=(m+1)*2 ^ g:=by rw[cX,bR]
 rw[x];refine aZ ?_ (by lia);have:=Int.lt_ediv_add_one_mul_self m u;lia
theorem zkw{a b A:Int}(p:0<A)(l:a<b):(a+1)*A<=b*A:=aZ (by lia) (by lia)
theorem zjT(v:BlkN bits i h)(C:BlkN bits j g):(g<=h/\j / 2 ^ h*2 ^ h=i)↔(i<=j/\j+2 ^ g<=i+2 ^ h):=by
 have o:=Bd.JE h;have J:=Bd.JE g;constructor;rintro⟨l,e⟩;have t:=zoA C l;rw[e,cX,bR,e]at t;exact t;rintro⟨x,I⟩;have l:g<=h:=by
  by_cases z:g<=h;exact z;exfalso;have:(2:Int) ^ h<2 ^ g:=by
   have e:(2:Int) ^ g=2 ^ (g - h)*2 ^ h:=by rw[<- fP];congr 1;lia
   have u:(2:Int)<=2 ^ (g - h):=by obtain⟨d,hd⟩:∃d,g - h=d+1:=⟨g - h - 1,by lia⟩;rw[hd,cB];have:=Bd.JE d;lia
   rw[e];have:=aZ u (show(0:Int)<=2 ^ h by lia);lia
  lia
 refine⟨l,?_⟩;obtain⟨_,k,G,rfl,_⟩:=v;have e:j / 2 ^ h=k:=by have a1:k<=j / 2 ^ h:=(gQ o).mpr x;have a2:j / 2 ^ h<k+1:=(kb o).mpr (by rw[cX,bR];lia);lia
 rw[e]
theorem zja{bits i j:Int}{h g:Nat}(u:BlkN bits i h)(v:BlkN bits j g)(l:g<=h):(g<=h/\j / 2 ^ h*2 ^ h=i)\/j+2 ^ g<=i\/i+2 ^ h<=j:=by have o:=Bd.JE h;have t:=zoA v l;obtain⟨_,k,x,rfl,_⟩:=u;rcases fA (j / 2 ^ h) k with z|z|z;have:=zkw o z;exact sr (dY (by lia));exact dY ⟨l,by rw[z]⟩;have:=zkw o z;rw[cX,bR]at this;exact sr (sr (by lia))
def hldD(i h j g:Int):Bool:=decide (g<=h)&&decide (j / 2 ^ ap h*2 ^ ap h=i)
theorem zrk(A:IsBk bits i h)(B:IsBk bits j g):hldD i h j g=decide (i<=j/\j+2 ^ ap g<=i+2 ^ ap h):=by have:=zjT A.n B.n;unfold hldD;rw[<- Bool.decide_and];refine decide_eq_decide.mpr ⟨λz=>this.mp ⟨by have:=A.1;have:=B.1;omega,z.2⟩,λz=>?_⟩;obtain⟨l,e⟩:=this.mpr z;exact⟨by have:=A.1;have:=B.1;omega,e⟩
theorem znS(Inv:Nat->En->Nat->Prop):∀(ts:qD) (i:Nat) {o:En}{n:Nat},Inv i o n ->
  (∀(k:Nat) (t:af) (o:En) (n:Nat) (K:En->Nat->Prop),ts[k]?=ao t->Inv (i+k) o n->(∀v x,Inv (i+k+1) v x->K v x)->g t o λv=>tb { D with nx:=K,ct:=K,bk:=D.nx } v n) ->
  (∀o n,Inv (i+fo ts) o n->D.nx o n)->forP g tb D ts o n
 | [],i,o,n,h0,_,fin=>fin o n (by simpa using h0)
 | t::ts,i,o,n,h0,turn,fin=>by
  refine turn 0 t o n _ rfl (by simpa using h0) λv x h'=>?_;refine znS Inv ts (i+1) (by simpa using h') (λk u o n K e C G=>?_) (λo n h=>fin o n ?_);refine turn (k+1) u o n K (by simpa using e) ?_ λv x h'=>G v x ?_;have:i+(k+1)=i+1+k:=by lia
  rw[this];exact C;have:i+1+k+1=i+(k+1)+1:=by lia
  rw[this];exact h';have:i+fo (t::ts)=i+1+fo ts:=by simp;lia
  rw[this]at *;exact h
theorem UZ(Inv:Nat->En->Nat->Prop)(h0:Inv 0 o n)
  (turn:∀(k:Nat) (t:af) (o:En) (n:Nat) (K:En->Nat->Prop),ts[k]?=ao t->Inv k o n->(∀l u,Inv (k+1) l u->K l u)->g t o λl=>tb { D with nx:=K,ct:=K,bk:=D.nx } l n)
  (fin:∀o n,Inv (fo ts) o n->D.nx o n):forP g tb D ts o n:=by
 refine znS Inv ts 0 h0 (λk t o n K e v x=>turn k t o n K e (by simpa using v) λl u h'=>x l u (by simpa using h')) λo n h=>fin o n (by simpa using h)
theorem zgp{lo:Int}{m i:Nat}{t:af}(h:(QL lo m)[i]?=ao t):i<m/\t=bu (lo+(i:Int)):=by unfold QL at h;rw[bK]at h;by_cases hi:i<m;rw[lD hi]at h;cases h;exact⟨hi,rfl⟩;rw[dz (by simp;lia)]at h;cases h
theorem zgo{lo:Int}{m:Nat}:fo (QL lo m)=m:=by simp[QL]
theorem zhE(Inv:Nat->En->Nat->Prop)(h0:Inv m o n)
  (turn:∀m o n,Inv m o n->c o n λb x=>if b=du then tb { D with nx:=λl v=>∃u,u<m/\Inv u l v,ct:=λl v=>∃u,u<m/\Inv u l v,bk:=D.nx } o x else D.nx o x):zmx c tb D o n :=
 ⟨Inv,⟨m,h0⟩,turn⟩
theorem IsBk.x4(B:IsBk bits i h):bW i (2 ^ ap h)=if i / 2 ^ ap h % 2=0 then i+2 ^ ap h else i - 2 ^ ap h:=by obtain⟨h0,u,k,l,rfl,o⟩:=B;rw[zj9 _ l,lE _ (by have:=Wx (ap h);lia)]
theorem zsS(N:ρ[0]?=ao (ao (.val (SCR ns))))(J:ρ[j]?=ao (ao (.val (bu k))))(I:fo ns<=63)(C:0<=k)(L:k<=100)(G:JW ρ=ρd)
  (h:u { nx:=λx _=>D.nx (JW x) n,rt:=λt _=>∃b,t=dQ b/\D.rt t n,bk:=λx _=>D.bk (JW x) n,ct:=λx _=>D.ct (JW x) n } (ce (ce ρd j (ao (.val (bu k)))) i (ao (.val HAND))) 0):Yr i j u D ρ n:=by
 subst G;unfold Yr;rw[N,J];exact⟨⟨ns,rfl,I⟩,C,L,h⟩
def rkAt(rk:ah->Int)(xs:Array cj)(i:Nat):Int:=((xs[i]?).map λp=>rk p.1).getD 0
theorem Yg(h:xs[i]?=ys[j]?):rkAt rk xs i=rkAt rk ys j:=by unfold rkAt;rw[h]
theorem zuk(l:u<be xs)(hd:d<=u)(k:Nat) :
  (k=u - d->rkAt rk (bubble xs u d) k=rkAt rk xs u)/\(u - d<k->k<=u->rkAt rk (bubble xs u d) k=rkAt rk xs (k - 1))/\(k<u - d\/u<k->rkAt rk (bubble xs u d) k=rkAt rk xs k):=by
 have e:=getElem?_bubble l d hd k;refine⟨λh=>?_,λv o=>?_,λh=>?_⟩;rw[if_pos h]at e;exact Yg e;rw[if_neg (by lia),if_pos ⟨v,o⟩]at e;exact Yg e;rw[if_neg (by lia),if_neg (by lia)]at e;exact Yg e
theorem V6(l:j<=be xs)(k:Nat) :
  (i<=k->k<j->rkAt rk (mirror xs i j ((j - i) / 2)) k=rkAt rk xs (i+j - 1 - k))/\(k<i\/j<=k->rkAt rk (mirror xs i j ((j - i) / 2)) k=rkAt rk xs k):=by
 have e:=getElem?_mirror_all (i:=i) l k;refine⟨λu o=>?_,λh=>?_⟩;rw[if_pos ⟨u,o⟩]at e;exact Yg e;rw[if_neg (by lia)]at e;exact Yg e
structure Sb(kd:fG)(a0:Array cj)(z:br):Prop where
 pm:(arrOf z).Perm a0
 kn:kindOf z=kd
 fl:failedOf z=bj
 pe:pendingOf z=#[]
def Up(rk:ah->Int)(xs:Array cj)(m:Nat):Prop:=∀i j,i<j->j<m->rkAt rk xs i<=rkAt rk xs j
section
variable{prog:aK}{w:aV}{A:bw}{E:qV}{s:ax}{kd:fG}{rk:ah->Int}{a0:Array cj}
def Cmp(prog:aK)(w:aV)(A:bw)(s:ax)(kd:fG)(rk:ah->Int)(a0:Array cj):Prop :=
 ∀(p q:cj) (E:qV) (Q:Bool->ax->Prop),p∈nK a0->q∈nK a0->Q (decide (rk p.1<rk q.1)) s->wpAny (model prog w) A (keyLt' kd p.1 q.1) Q E s
theorem Sb.sz(b:Sb kd a0 z):be (arrOf z)=be a0:=b.pm.size_eq
theorem zpK(l:j<=be xs)(al:∀k,i<=k->k<j->rkAt rk xs k=rkAt rk xs (j - 1))(k:Nat):rkAt rk (mirror xs i j ((j - i) / 2)) k=rkAt rk xs k:=by obtain⟨p,q⟩:=V6 (rk:=rk) (i:=i) l k;by_cases g:i<=k/\k<j;rw[p g.1 g.2,al _ (by omega) (by omega),al k g.1 g.2];exact q (by omega)
end
def zjU:Bool->cj->Array cj->Nat->Nat->Nat->StateT br Sem (Option Nat):=sortPriv% PySem.Builtin.gallop
section
variable{M:tJ}{A:bw}{E:qV}{s:ax}{σ α β ρ:Type}{Q:α->σ->Prop}{z:σ}
theorem Jm{c:Prop}{_:Decidable c}{t e:StateT σ Sem α}(o:c->wpS M A E s t Q z)(l:¬c->wpS M A E s e Q z):wpS M A E s (if c then t else e) Q z:=by by_cases h:c;rw[if_pos h];exact o h;rw[if_neg h];exact l h
inductive Tn (I G:β->σ->Prop)(P:ρ->σ->Prop):ForInStep (Option ρ×β)->σ->Prop
 | go:I b y->Tn I G P (iK (bj,b)) y
 | stop:G b y->Tn I G P (.done (bj,b)) y
 | ret:P r y->Tn I G P (.done (ao r,b)) y
theorem Qx{a n:Nat}{f:Nat->Option ρ×β->StateT σ Sem (ForInStep (Option ρ×β))}{F:Option ρ×β->StateT σ Sem α}{b:β}(an:a<=n)(I:Nat->β->σ->Prop)(G:β->σ->Prop)(P:ρ->σ->Prop)(h:I a b z)
  (turn:∀x,a<=x->x<n->∀b y,I x b y->wpS M A E s (f x (bj,b)) (Tn (I (x+1)) G P) y) (last:∀b y,I n b y->G b y)
  (post:∀b y,G b y->wpS M A E s (F (bj,b)) Q y) (ret:∀r b y,P r y->wpS M A E s (F (ao r,b)) Q y):wpS M A E s (forIn [a:n] (bj,b) f >>= F) Q z:=by
 refine bY (wpS_mono (wpS_forRange (I:=λx c y=>c.1=bj/\I x c.2 y) (Q:=λc y=>(c.1=bj/\G c.2 y)\/∃r,c.1=ao r/\P r y) ?_ ?_ ⟨rfl,h⟩) ?_);rintro x ⟨_,b⟩ y ha hx ⟨rfl,o⟩;refine wpS_mono (turn x ha hx b y o) ?_;rintro _ _ (h|h|h);exact⟨rfl,h⟩;exact dY ⟨rfl,h⟩;exact sr ⟨_,rfl,h⟩;rintro⟨_,b⟩ y ⟨e,h⟩;rw[Nat.max_eq_right an]at h;exact dY ⟨e,last b y h⟩;rintro⟨_,b⟩ y (⟨rfl,h⟩|⟨r,rfl,h⟩);exact post b y h;exact ret r b y h
end
theorem zs2{l r:Nat}(g:l<r):l<=l+(r - l) / 2/\l+(r - l) / 2<r:=⟨cK _ _,by lia⟩
theorem stp1{l r m n x:Nat}(h:r - l<=n - x)(o:l<=m)(hx:x<n):r - (m+1)<=n - (x+1):=by omega
theorem stp2{l r m n x:Nat}(h:r - l<=n - x)(o:m<r)(hx:x<n):m - l<=n - (x+1):=by omega
theorem stp0{l r n:Nat}(h:r - l<=n - n):r<=l:=kE (xM.mp (gR n▸h))
theorem dbl{x r:Nat}(h:x<r):x+1<2*r+1:=nv (aI h (nQ r (by decide)))
theorem dbl0{r:Nat}:r<2*r+1:=rf (nQ r (by decide))
theorem inn{h r n:Nat}(l:h<n)(g:¬r>=n - h):h+r<n:=by lia
structure Srch(B:Nat->Bool)(n l r:Nat):Prop where
 lr:l<=r
 rn:r<=n
 lo:∀i,i<l->B i=true
 hi:∀i,r<=i->i<n->B i=false
section
variable{B:Nat->Bool}{n l r m h:Nat}
theorem Srch.fin(x:Srch B n l r)(g:r<=l):Srch B n r r:=iM x.lr g▸x
theorem Srch.fin2(x:Srch B n l r)(g:r<=l):Srch B n l l:=by cases iM x.lr g;exact x
def Fal(B:Nat->Bool)(n:Nat):Prop:=∀i j,i<=j->j<n->B j=du->B i=true
theorem Fal.no(f:Fal B n){i j:Nat}(e:B i=dy)(u:i<=j)(o:j<n):B j=dy:=by
 cases g:B j with
 | false=>rfl
 | true=>exact(f i j u o g).symm.trans e
theorem Srch.up(x:Srch B n l r)(f:Fal B n)(o:m<r)(e:B m=du):Srch B n (m+1) r:=⟨o,x.rn,λi hi=>f i m (kc hi) (aI o x.rn) e,x.hi⟩
theorem Srch.dn(x:Srch B n l r)(f:Fal B n)(u:l<=m)(o:m<r)(e:B m=dy):Srch B n l m:=⟨u,ba (eQ o) x.rn,x.lo,λi=>f.no e⟩
theorem Srch.fwd(f:Fal B n)(x:l<r)(o:h+l<n)(e:B (h+l)=du)(g:n - h<=r\/(h+r<n/\B (h+r)=dy)):Srch B n (h+l+1) (h+min r (n - h)):=by refine⟨by omega,by omega,λi hi=>f i _ (by omega) o e,λi v u=>?_⟩;rcases g with g|⟨_,g⟩;lia;exact f.no g (by lia) u
theorem Srch.bwd(f:Fal B n)(o:h<n)(v:l<r)(u:l<=h)(e:B (h - l)=dy)(g:h+1<=r\/(r<=h/\B (h - r)=du)):Srch B n (h+1 - min r (h+1)) (h - l):=by refine⟨by omega,by omega,λi hi=>?_,λi=>f.no e⟩;rcases g with g|⟨_,g⟩;omega;exact f i _ (by omega) (by omega) g
end
section
variable{prog:aK}{w:aV}{A:bw}{E:qV}{s:ax}{kd:fG}{rk:ah->Int}{a0:Array cj}{β:Type}{Q:β->br->Prop}{z:br}
theorem VY{Q:Option Bool->br->Prop}(c:Cmp prog w A s kd rk a0)(k:kindOf z=kd)(o:p∈nK a0)(l:q∈nK a0)
  (h:Q (ao (decide (rk p.1<rk q.1))) z):wpS (model prog w) A E s (lt' p q) Q z:=by
 rw[lt'_eq];refine bY (lL (bY (ny (kW ?_))));rw[k];exact c p q _ _ o l ⟨rfl,aN h⟩
theorem J6{x:Array cj}{i:Nat}{f:cj->StateT br Sem β}(hi:i<be x)(m:∀p∈nK x,p∈nK a0)(h:∀p,x[i]?=ao p->p∈nK a0->rk p.1=rkAt rk x i->wpS (model prog w) A E s (f p) Q z):wpS (model prog w) A E s (elem' x i >>= f) Q z:=by have e:=mH hi;rw[elem'_eq,e];exact bY (aN (h _ e (m _ (by simp)) (by unfold rkAt;rw[e];rfl)))
def bey(rk:ah->Int)(left:Bool)(key:cj)(arr:Array cj)(base i:Nat):Bool:=if left then decide (rkAt rk arr (base+i)<rk key.1) else !decide (rk key.1<rkAt rk arr (base+i))
theorem zwQ{f:Option Bool->StateT br Sem β}(c:Cmp prog w A s kd rk a0)(k:kindOf z=kd)(l:key∈nK a0)(ha:∀p∈nK arr,p∈nK a0)(hi:base+i<be arr)
  (h:wpS (model prog w) A E s (f (ao (bey rk left key arr base i))) Q z):wpS (model prog w) A E s ((do
   let x <- elem' arr (base+i)
   if left then lt' x key else return (<- lt' key x).map (!·)) >>= f) Q z:=by
 refine bY (J6 (rk:=rk) hi ha λp _ mp r=>?_);unfold bey at h;rw[<- r]at h;cases left with
 | true=>exact VY c k mp l h
 | false=>exact bY (VY c k l mp (aN h))
theorem Zt{f:Option Nat->StateT br Sem β}(c:Cmp prog w A s kd rk a0)(k:kindOf z=kd)(hk:key∈nK a0)
  (ha:∀p∈nK arr,p∈nK a0) (hs:base+n<=be arr) (L:hint<n) (up:∀i j,i<j->j<n->rkAt rk arr (base+i)<=rkAt rk arr (base+j))
  (h:∀m,Srch (bey rk left key arr base) n m m->wpS (model prog w) A E s (f (ao m)) Q z):wpS (model prog w) A E s (zjU left key arr base n hint >>= f) Q z:=by
 have mono:Fal (bey rk left key arr base) n:=by intro i j U R hb;rcases iS U with rfl|hlt;exact hb;have:=up i j hlt R;unfold bey at *;cases left <;> simp at * <;> lia
 have Y:zjU=zjU:=rfl;conv at Y=>rhs;whnf
 rw[Y];clear Y;dsimp(zeta:=dy) only;refine bY ?_
 extract_lets bf _ _ jp m1 m2
 have hb:∀{Z:Type} {i:Nat} {Q:Z->br->Prop} {f:Option Bool->StateT br Sem Z} {y:br},y=z->i<n->wpS (model prog w) A E s (f (ao (bey rk left key arr base i))) Q y->wpS (model prog w) A E s (bf i >>= f) Q y:=λe hi=>zwQ c (e▸k) hk ha (aI (lF hi _) hs);clear_value bf;generalize bey rk left key arr base=B at *;have R:∀l r u v y,y=z->Srch B n l r->wpS (model prog w) A E s (jp () u v l r) (λa y=>wpS (model prog w) A E s (f a) Q y) y:=λl r u v y ey S=>by refine Qx n.zero_le (λx b y=>y=z/\Srch B n b.1 b.2/\b.2 - b.1<=n - x) (λb y=>y=z/\Srch B n b.2 b.2) (λ_ _=>False) ⟨ey,S,ba (kM _ _) S.rn⟩ (λx _ hx b y I=>?_) (λb y I=>⟨I.1,I.2.1.fin (stp0 I.2.2)⟩) (λb y I=>?_) λ_ _ _ h=>e9 h;dsimp only;refine Jm (λg=>aN (.stop ⟨I.1,I.2.1.fin g⟩)) λg=>?_;obtain⟨g1,g2⟩:=zs2 (pK.mp g);refine hb I.1 (aI g2 I.2.1.rn) ?_;refine Jm (λe=>?_) λe=>?_;exact aN (.go ⟨I.1,I.2.1.up mono g2 e,stp1 I.2.2 g1 hx⟩);exact aN (.go ⟨I.1,I.2.1.dn mono g1 g2 (cN.mpr e),stp2 I.2.2 g2 hx⟩);exact aN (I.1▸h _ I.2)
 clear_value jp;refine hb rfl L (Jm (λe=>?_) λe=>?_);refine Qx n.zero_le (λx b y=>y=z/\b.1<b.2/\x<b.2/\hint+b.1<n/\B (hint+b.1)=du) (λb y=>y=z/\Srch B n (hint+b.1+1) (hint+min b.2 (n - hint))) (λ_ _=>False) ⟨rfl,oI,oI,L,e⟩ (λx _ hx b y I=>?_)
  (λb y ⟨I,G,N,C,J⟩=>⟨I,.fwd mono G C J (dY (ba (kM _ _) (eQ N)))⟩) (λb y I=>R _ _ _ _ _ I.1 I.2) λ_ _ _ h=>e9 h
 dsimp only;have⟨I,G,N,C,J⟩:=I;refine Jm (λg=>aN (.stop ⟨I,.fwd mono G C J (dY g)⟩)) λg=>?_;have g:=inn L g;refine hb I g (Jm (λe=>?_) λe=>?_);exact aN (.stop ⟨I,.fwd mono G C J (sr ⟨g,by simpa using e⟩)⟩);exact aN (.go ⟨I,dbl0,dbl N,g,by simpa using e⟩);refine Qx n.zero_le (λx b y=>y=z/\b.1<b.2/\x<b.2/\b.1<=hint/\B (hint - b.1)=dy) (λb y=>y=z/\Srch B n (hint+1 - min b.2 (hint+1)) (hint - b.1)) (λ_ _=>False) ⟨rfl,oI,oI,cR _,cN.mpr e⟩ (λx _ hx b y I=>?_)
  (λb y ⟨I,G,N,C,J⟩=>⟨I,.bwd mono L G C J (dY (ba L (eQ N)))⟩) (λb y I=>R _ _ _ _ _ I.1 I.2) λ_ _ _ h=>e9 h
 dsimp only;have⟨I,G,N,C,J⟩:=I;refine Jm (λg=>aN (.stop ⟨I,.bwd mono L G C J (dY g)⟩)) λg=>?_;have g:=kc (pK.mp g);refine hb I (fe (kM _ _) L) (Jm (λe=>?_) λe=>?_);exact aN (.stop ⟨I,.bwd mono L G C J (sr ⟨g,e⟩)⟩);exact aN (.go ⟨I,dbl0,dbl N,g,cN.mpr e⟩)
end
end L2
namespace L2
section
variable{α:Type}{r:α->Int}{a b out:List α}{ia ib na nb k:Nat}
theorem m1{x:α}{l m:List α}(h:x∈l):x∈l++m:=au.mpr (dY h)
theorem m2{x:α}{l m:List α}(h:x∈m):x∈l++m:=au.mpr (sr h)
def Ris(r:α->Int)(l:List α):Prop:=l.Pairwise λx y=>r x<=r y
structure MLo(r:α->Int)(a b out:List α)(ia ib:Nat):Prop where
 pm:(out++(a.drop ia++b.drop ib)).Perm (a++b)
 so:Ris r out
 le:∀x∈out,∀y∈a.drop ia++b.drop ib,r x<=r y
theorem J8{l m:List α}:Ris r (l++m)↔Ris r l/\Ris r m/\∀x∈l,∀y∈m,r x<=r y:=bP
theorem Ris.drop{l:List α}(h:Ris r l)(k:Nat):Ris r (l.drop k):=om (ke k l) h
theorem Ris.take{l:List α}(h:Ris r l)(k:Nat):Ris r (l.take k):=om (pU k l) h
theorem cut2(l:List α)(i k:Nat):l.drop i=(l.drop i).take k++l.drop (i+k):=by rw[<- oJ];exact(bZ k _).symm
theorem MLo.takeB(h:MLo r a b out ia ib)(hb:Ris r b)(c:∀y∈(b.drop ib).take k,∀x∈a.drop ia,r y<=r x):MLo r a b (out++(b.drop ib).take k) ia (ib+k):=by have e:=cut2 b ib k;obtain⟨v,C,u⟩:=h;have l:=hb.drop ib;rw[e]at v u l;have l:=J8.mp l;refine⟨?_,J8.mpr ⟨C,l.1,λx hx y o=>u x hx y (m2 (m1 o))⟩,λx hx y o=>?_⟩;refine lu ?_ v;rw[aM];exact kF _ (lN _ _ _);rcases au.mp hx with z|z;refine u x z y ?_;rcases au.mp o with w|w;exact m1 w;exact m2 (m2 w);rcases au.mp o with w|w;exact c x z y w;exact l.2.2 x z y w
theorem MLo.takeA(h:MLo r a b out ia ib)(ha:Ris r a)(c:∀x∈(a.drop ia).take k,∀y∈b.drop ib,r x<=r y):MLo r a b (out++(a.drop ia).take k) (ia+k) ib:=by have e:=cut2 a ia k;obtain⟨v,C,u⟩:=h;have l:=ha.drop ia;rw[e]at v u l;have l:=J8.mp l;refine⟨?_,J8.mpr ⟨C,l.1,λx hx y o=>u x hx y (m1 (m1 o))⟩,λx hx y o=>?_⟩;refine lu ?_ v;simp only[aM];exact t6 _;rcases au.mp hx with z|z;refine u x z y ?_;rcases au.mp o with w|w;exact m1 (m2 w);exact m2 w;rcases au.mp o with w|w;exact l.2.2 x z y w;exact c x z y w
theorem take1{l:List α}{i:Nat}{y:α}(h:l[i]?=ao y):(l.drop i).take 1=[y]:=by have hi:=(aq.mp h).1;rw[bO hi];have:=(aq.mp h).2;simp[this]
theorem MLo.pushB{y:α}(h:MLo r a b out ia ib)(hb:Ris r b)(e:b[ib]?=ao y)(c:∀x∈a.drop ia,r y<=r x):MLo r a b (out++[y]) ia (ib+1):=by have:=h.takeB (k:=1) hb (by rw[take1 e];intro z l x hx;cases av.mp l;exact c x hx);rwa [take1 e]at this
theorem MLo.pushA{x:α}(h:MLo r a b out ia ib)(ha:Ris r a)(e:a[ia]?=ao x)(c:∀y∈b.drop ib,r x<=r y):MLo r a b (out++[x]) (ia+1) ib:=by have:=h.takeA (k:=1) ha (by rw[take1 e];intro z l y o;cases av.mp l;exact c y o);rwa [take1 e]at this
theorem MLo.done(h:MLo r a b out ia ib)(ha:Ris r a)(hb:Ris r b)(c:∀x∈a.drop ia,∀y∈b.drop ib,r x<=r y):(out++a.drop ia++b.drop ib).Perm (a++b)/\Ris r (out++a.drop ia++b.drop ib):=by refine⟨by rw[aM];exact h.pm,?_⟩;rw[aM];exact J8.mpr ⟨h.so,J8.mpr ⟨ha.drop _,hb.drop _,c⟩,h.le⟩
theorem MLo.last(h:MLo r a b out ia ib)(ha:Ris r a)(hb:Ris r b)(c:∀y∈b.drop ib,∀x∈a.drop ia,r y<=r x):(out++b.drop ib++a.drop ia).Perm (a++b)/\Ris r (out++b.drop ib++a.drop ia):=by refine⟨?_,?_⟩;rw[aM];exact(kF _ oo).trans h.pm;rw[aM];refine J8.mpr ⟨h.so,J8.mpr ⟨hb.drop _,ha.drop _,c⟩,λx hx y l=>h.le x hx y ?_⟩;rcases au.mp l with w|w;exact m2 w;exact m1 w
structure MHi(r:α->Int)(a b out:List α)(na nb:Nat):Prop where
 pm:((a.take na++b.take nb)++out).Perm (a++b)
 so:Ris r out
 le:∀x∈a.take na++b.take nb,∀y∈out,r x<=r y
theorem cut3(l:List α){n k:Nat}(h:k<=n):l.take n=l.take k++(l.take n).drop k:=by have:=bZ k (l.take n);rw[oK,fD h]at this;exact dv this
theorem MHi.takeB(h:MHi r a b out na nb)(hb:Ris r b)(G:k<=nb)(c:∀x∈a.take na,∀y∈(b.take nb).drop k,r x<=r y):MHi r a b ((b.take nb).drop k++out) na k:=by have e:=cut3 b G;obtain⟨C,I,u⟩:=h;have l:=hb.take nb;rw[e]at C u l;have l:=J8.mp l;refine⟨?_,J8.mpr ⟨l.2.1,I,λx hx y v=>u x (m2 (m2 hx)) y v⟩,λx hx y v=>?_⟩;refine lu ?_ C;simp only[aM];exact t6 _;rcases au.mp v with z|z;rcases au.mp hx with w|w;exact c x w y z;exact l.2.2 x w y z;refine u x ?_ y z;rcases au.mp hx with w|w;exact m1 w;exact m2 (m1 w)
theorem MHi.takeA(h:MHi r a b out na nb)(ha:Ris r a)(G:k<=na)(c:∀x∈b.take nb,∀y∈(a.take na).drop k,r x<=r y):MHi r a b ((a.take na).drop k++out) k nb:=by have e:=cut3 a G;obtain⟨C,I,u⟩:=h;have l:=ha.take na;rw[e]at C u l;have l:=J8.mp l;refine⟨?_,J8.mpr ⟨l.2.1,I,λx hx y v=>u x (m1 (m2 hx)) y v⟩,λx hx y v=>?_⟩;refine lu ?_ C;simp only[aM];exact kF _ (lN _ _ _);rcases au.mp v with z|z;rcases au.mp hx with w|w;exact l.2.2 x w y z;exact c x w y z;refine u x ?_ y z;rcases au.mp hx with w|w;exact m1 (m1 w);exact m2 w
theorem VX{l:List α}{n:Nat}{y:α}(h:l[n]?=ao y):(l.take (n+1)).drop n=[y]:=by
 have hi:=(aq.mp h).1;have e:(l.take (n+1))=l.take n++[y]:=by rw[dW,h];rfl
 rw[e,List.drop_append_of_le_length (by simp;lia),fN (by simp;lia)];rfl
theorem MHi.pushB{y:α}(h:MHi r a b out na (nb+1))(hb:Ris r b)(e:b[nb]?=ao y)(c:∀x∈a.take na,r x<=r y):MHi r a b (y::out) na nb:=by have:=h.takeB (k:=nb) hb (by omega) (by rw[VX e];intro x hx z l;cases av.mp l;exact c x hx);rwa [VX e]at this
theorem MHi.pushA{x:α}(h:MHi r a b out (na+1) nb)(ha:Ris r a)(e:a[na]?=ao x)(c:∀y∈b.take nb,r y<=r x):MHi r a b (x::out) na nb:=by have:=h.takeA (k:=na) ha (by omega) (by rw[VX e];intro y o z l;cases av.mp l;exact c y o);rwa [VX e]at this
theorem MHi.done(h:MHi r a b out na nb)(ha:Ris r a)(hb:Ris r b)(c:∀x∈a.take na,∀y∈b.take nb,r x<=r y):(a.take na++b.take nb++out).Perm (a++b)/\Ris r (a.take na++b.take nb++out) :=
 ⟨h.pm,J8.mpr ⟨J8.mpr ⟨ha.take _,hb.take _,c⟩,h.so,h.le⟩⟩
theorem MHi.first(h:MHi r a b out na nb)(ha:Ris r a)(hb:Ris r b)(c:∀y∈b.take nb,∀x∈a.take na,r y<=r x):(b.take nb++a.take na++out).Perm (a++b)/\Ris r (b.take nb++a.take na++out):=by refine⟨lu (List.Perm.append_right _ oo) h.pm,J8.mpr ⟨J8.mpr ⟨hb.take _,ha.take _,c⟩,h.so,λx hx y l=>h.le x ?_ y l⟩⟩;rcases au.mp hx with w|w;exact m2 w;exact m1 w
end
end L2
namespace L2
open PySem PySem.Spec PyProof.Rows
def zpL:Array cj->Array cj->StateT br Sem (Array cj):=sortPriv% PySem.Builtin.mergeLo
def zg0:Nat->StateT br Sem Unit:=sortPriv% PySem.Builtin.setMinGallop
section
variable{prog:aK}{w:aV}{A:bw}{E:qV}{s:ax}{kd:fG}{rk:ah->Int}{a0:Array cj}
structure SmS(z z':br):Prop where
 kn:kindOf z'=kindOf z
 ar:arrOf z'=arrOf z
 pe:pendingOf z'=pendingOf z
 fl:failedOf z'=failedOf z
theorem SmS.refl(z:br):SmS z z:=⟨rfl,rfl,rfl,rfl⟩
theorem SmS.trans{x y z:br}(h:SmS x y)(k:SmS y z):SmS x z:=⟨b4 k.kn h.kn,b4 k.ar h.ar,b4 k.pe h.pe,b4 k.fl h.fl⟩
theorem WR{g:Nat}{x z:br}{l:Type}{f:Unit->StateT br Sem l}{Q:l->br->Prop}(S:SmS x z)(h:∀y,SmS x y->wpS (model prog w) A E s (f ()) Q y):wpS (model prog w) A E s (zg0 g >>= f) Q z:=by exact bY (nR (h _ (S.trans ⟨rfl,rfl,rfl,rfl⟩)))
theorem zry{x y:Array cj}{i j:Nat}{z:br}{l:Type}{f:Option Bool->StateT br Sem l}{Q:l->br->Prop}(c:Cmp prog w A s kd rk a0)(k:kindOf z=kd)(hi:i<be x)(G:j<be y)(o:∀p∈nK x,p∈nK a0)(I:∀p∈nK y,p∈nK a0)
  (h:wpS (model prog w) A E s (f (ao (decide (rkAt rk x i<rkAt rk y j)))) Q z):wpS (model prog w) A E s (elem' x i >>= λp=>elem' y j >>= λq=>lt' p q >>= f) Q z :=
 J6 (rk:=rk) hi o λp _ mp u=>J6 (rk:=rk) G I λq _ C v=>bY (VY c k mp C (u▸v▸h))
abbrev rkP(rk:ah->Int)(p:cj):Int:=rk p.1
theorem znV{x:Array cj}{i k:Nat}:nK (x.extract i k)=(x.toList.take k).drop i:=by rw[oM,List.drop_take]
theorem WA{x:Array cj}{i:Nat}:nK (x.extract i x.size)=x.toList.drop i:=by rw[oM];exact df (by simp)
theorem zkQ{x:Array cj}{i k:Nat}:nK (x.extract i (i+k))=(x.toList.drop i).take k:=by simp
theorem Wd{x:Array cj}{k:Nat}:nK (x.extract 0 k)=x.toList.take k:=by simp
theorem Vz{x:Array cj}{i:Nat}{p:cj}(h:x.toList[i]?=ao p):rkAt rk x i=rkP rk p:=by unfold rkAt;rw[cf]at h;rw[h];rfl
def UpL(rk:ah->Int)(xs:Array cj)(lo m:Nat):Prop:=∀i j,i<j->j<m->rkAt rk xs (lo+i)<=rkAt rk xs (lo+j)
section
variable{x:Array cj}{P A S:List cj}{n i j k m:Nat}
theorem Vc(e:nK x=P++(A++S))(l:fo P=n)(h:i<fo A):rkAt rk x (n+i)=rkP rk A[i]:=Vz (by subst l;rw[e,bp (cK _ _),nA,cy h,aw h])
theorem Us(e:nK x=P++(A++S))(o:fo P=n)(v:fo A=m):UpL rk x n m↔Ris (rkP rk) A:=by subst v;constructor;exact λu=>aJ.mpr λi j hi l h=>Vc (rk:=rk) e o hi▸Vc (rk:=rk) e o l▸u i j h l;intro u i j h l;rw[Vc e o l,Vc e o (lK h l)];exact aJ.mp u i j _ l h
theorem VT(e:nK x=P++(A++S))(l:fo P=n){q:cj}(h:q∈A):∃i,i<fo A/\rkAt rk x (n+i)=rkP rk q:=by obtain⟨i,hi,rfl⟩:=bh h;exact⟨i,hi,Vc e l hi⟩
theorem zwo(e:nK x=P++(A++S))(l:fo P=n)(h:Ris (rkP rk) A):∀q∈A,rkAt rk x n<=rkP rk q:=λq o=>by
 obtain⟨i,hi,u⟩:=VT (rk:=rk) e l o;rw[<- u];cases i with
 | zero=>exact aL _
 | succ i=>exact(Us e l rfl).mpr h 0 _ (rg i) hi
theorem zvt(e:nK x=P++(A++S))(l:fo P=n)(h:Ris (rkP rk) A)(v:n+fo A=j):∀q∈A,rkP rk q<=rkAt rk x (j - 1):=λq o=>by obtain⟨i,hi,u⟩:=VT (rk:=rk) e l o;rw[<- u,show j - 1=n+(fo A - 1) by lia];rcases iS (kZ hi) with g|g;rw[g];exact aL _;exact(Us e l rfl).mpr h _ _ g (by lia)
theorem srch{left:Bool}{p:cj}(e:nK x=P++(A++S))(I:fo P=n)(o:fo A=m)(G:Srch (bey rk left p x n) m k k):(∀q∈A.take k,if left then rkP rk q<rk p.1 else rkP rk q<=rk p.1)/\∀q∈A.drop k,if left then rk p.1<=rkP rk q else rk p.1<rkP rk q:=by
 have C:nK x=P++(A.take k++(A.drop k++S)):=by rw[e,<- aM (A.take k),bZ]
 refine⟨λq u=>?_,λq u=>?_⟩;obtain⟨j,l,v⟩:=VT (rk:=rk) C I u;subst o;have:=G.lo j (by rw[eF]at l;lia);unfold bey at this;rw[v]at this;cases left <;> simpa using this;obtain⟨j,l,v⟩:=VT (rk:=rk) (P:=P++A.take k) (by rw[C,aM]) (by rw[aO,I,eF,fD (o▸G.rn)]) u;subst o;have:=G.hi (k+j) (cK _ _) (by rw[dN]at l;omega);unfold bey at this;rw[<- u7,v]at this;cases left <;> simpa using this
theorem zqJ(h:Ris (rkP rk) (nK x))(hi:i<=be x):UpL rk x i (be x - i):=(Us (P:=x.toList.take i) (S:=[]) (by simp) (by simp;lia) (by simp)).mpr (h.drop i)
theorem ztQ(h:Ris (rkP rk) (nK x))(hi:i<=be x):UpL rk x 0 i:=(Us (P:=[]) (S:=x.toList.drop i) (by simp) rfl (by simp;lia)).mpr (h.take i)
theorem Z2(h:Ris (rkP rk) (nK x))(hi:i<be x):∀y∈x.toList.drop i,rkAt rk x i<=rkP rk y:=zwo (P:=x.toList.take i) (S:=[]) (by simp) (by simp;lia) (h.drop i)
theorem ZI(h:Ris (rkP rk) (nK x))(hi:i<=be x):∀y∈x.toList.take i,rkP rk y<=rkAt rk x (i - 1):=zvt (P:=[]) (S:=x.toList.drop i) (by simp) rfl (h.take i) (by simp;lia)
end
structure Two(rk:ah->Int)(a0 a b:Array cj):Prop where
 ha:∀p∈nK a,p∈nK a0
 hb:∀p∈nK b,p∈nK a0
 sa:Ris (rkP rk) (nK a)
 sb:Ris (rkP rk) (nK b)
 na:0<be a
 nb:0<be b
 f1:∀x∈nK a,rkAt rk b 0<=rkP rk x
 f2:∀y∈nK b,rkP rk y<=rkAt rk a (be a - 1)
structure Mgd(rk:ah->Int)(a b:Array cj)(z:br)(m:Array cj)(y:br):Prop where
 sm:SmS z y
 pm:m.toList.Perm (nK a++nK b)
 ri:Ris (rkP rk) (nK m)
structure LoM(rk:ah->Int)(a b:Array cj)(z:br)(o:Array cj)(i j:Nat)(y:br):Prop where
 sm:SmS z y
 m:MLo (rkP rk) (nK a) (nK b) (nK o) i j
structure LoJ(rk:ah->Int)(a b:Array cj)(z:br)(n:Nat)(o:Array cj)(i j:Nat)(y:br):Prop extends LoM rk a b z o i j y where
 i1:i+1<be a
 j1:j<be b
 nl:n<=i+j
abbrev LoC{γ:Type}(rk:ah->Int)(a b:Array cj)(z:br)(n:Nat)(c:Array cj×Nat×Nat×γ)(y:br):Prop:=LoJ rk a b z n c.1 c.2.1 c.2.2.1 y
section
variable{a b o:Array cj}{x y:br}{i j k n m:Nat}{p:cj}
theorem nlB{n i j:Nat}(h:n<=i+j):n+1<=i+1+j:=by lia
theorem noL{A B i j:Nat}(u:i+1<A)(l:j<B)(h:A+B+1<=i+j):False:=by lia
theorem szd{i n:Nat}(h:i+1<n):i+(n - i)<=n/\0<n - i/\i<=n:=by omega
theorem szd0{i n:Nat}(h:i<n):i+(n - i)<=n/\0<n - i/\i<=n:=by omega
theorem szk{i n k:Nat}(h:i<n)(g:k<=n - i):i+k<=n:=by lia
theorem le2{X x:Nat}:X+2<=X+1+x+1:=by lia
theorem nxt(h:i<n)(e:¬(i+1 == n)=du):i+1<n:=gS h λg=>e (g▸beq_self_eq_true _)
theorem nxt0(h:i<=n)(e:¬(i == n)=du):i<n:=gS h λg=>e (g▸beq_self_eq_true _)
theorem LoJ.le(h:LoJ rk a b x n o i j y)(l:m<=n):LoJ rk a b x m o i j y:=⟨h.toLoM,h.i1,h.j1,ba l h.nl⟩
theorem LoM.dn(h:LoM rk a b x o i j y)(T:Two rk a0 a b)(e:(i == be a)=du\/(j == be b)=du):Mgd rk a b x (o++a.extract i a.size++b.extract j b.size) y:=by
 have g:=h.m.done T.sa T.sb λx hx y l=>by rcases e with e|e;rw[eq_of_beq e,fN (by simp)]at hx;cases hx;rw[eq_of_beq e,fN (by simp)]at l;cases l
 rw[<- WA,<- WA,<- cS,<- cS]at g;exact⟨h.sm,g.1,g.2⟩
theorem LoM.la(h:LoM rk a b x o i j y)(T:Two rk a0 a b)(e:(i+1 == be a)=du):Mgd rk a b x (o++b.extract j b.size++a.extract i a.size) y:=by
 have e:=eq_of_beq e;have g:=h.m.last T.sa T.sb λy l x hx=>by refine bT (T.f2 y (gv l)) ?_;rw[show be a - 1=i by lia];exact Z2 T.sa (by lia) x hx
 rw[<- WA,<- WA,<- cS,<- cS]at g;exact⟨h.sm,g.1,g.2⟩
theorem LoM.pushB(h:LoM rk a b x o i j y)(T:Two rk a0 a b)(e:b[j]?=ao p)(c:∀x∈a.toList.drop i,rkAt rk b j<=rkP rk x):LoM rk a b x (o.push p) i (j+1) y:=by have e:=b4 (cf (xs:=b)) e;have:=h.m.pushB T.sb e (Vz e▸c);rw[<- mQ]at this;exact⟨h.sm,this⟩
theorem LoM.pushA(h:LoM rk a b x o i j y)(T:Two rk a0 a b)(e:a[i]?=ao p)(c:∀x∈b.toList.drop j,rkAt rk a i<=rkP rk x):LoM rk a b x (o.push p) (i+1) j y:=by have e:=b4 (cf (xs:=a)) e;have:=h.m.pushA T.sa e (Vz e▸c);rw[<- mQ]at this;exact⟨h.sm,this⟩
theorem LoJ.galA(h:LoJ rk a b x n o i j y)(T:Two rk a0 a b)(S:Srch (bey rk dy p a i) (be a - i) k k)(e:rk p.1=rkAt rk b j):LoM rk a b x (o++a.extract i (i+k)) (i+k) j y/\∀x∈a.toList.drop (i+k),rkAt rk b j<=rkP rk x:=by have⟨g1,g2⟩:=srch (P:=a.toList.take i) (A:=a.toList.drop i) (S:=[]) (by simp) (by simp;have:=h.i1;lia) (by simp) S;rw[e]at g1 g2;rw[oJ]at g2;have:=h.m.takeA (k:=k) T.sa λx hx y l=>bT (g1 x hx) (Z2 T.sb h.j1 y l);rw[<- zkQ,<- cS]at this;exact⟨⟨h.sm,this⟩,λx hx=>bG (g2 x hx)⟩
theorem LoJ.galB(h:LoJ rk a b x n o i j y)(T:Two rk a0 a b)(S:Srch (bey rk du p b j) (be b - j) k k)(e:rk p.1=rkAt rk a i):LoM rk a b x (o++b.extract j (j+k)) i (j+k) y/\∀x∈b.toList.drop (j+k),rkAt rk a i<=rkP rk x:=by have⟨g1,g2⟩:=srch (P:=b.toList.take j) (A:=b.toList.drop j) (S:=[]) (by simp) (by simp;have:=h.j1;lia) (by simp) S;rw[e]at g1 g2;rw[oJ]at g2;have:=h.m.takeB (k:=k) T.sb λx hx y l=>bT (bG (g1 x hx)) (Z2 T.sa (dR h.i1) y l);rw[<- zkQ,<- cS]at this;exact⟨⟨h.sm,this⟩,g2⟩
end
theorem zly{a b:Array cj}{z:br}{Q:Array cj->br->Prop}(N:Cmp prog w A s kd rk a0)(k:kindOf z=kd)(T:Two rk a0 a b)(h:∀m y,Mgd rk a b z m y->Q m y):wpS (model prog w) A E s (zpL a b) Q z:=by
 refine bY (ny (dG ⟨rfl,?_⟩))
 extract_lets n dn lst
 refine J6 (rk:=rk) T.nb T.hb λp v _ _=>?_;have M:LoM rk a b z #[p] 0 1 z:=(show LoM rk a b z #[] 0 0 z from⟨.refl z,⟨by simp,mO,λ_ h=>absurd h aS⟩⟩).pushB T v T.f1;refine Jm (λe=>aN (h _ _ (M.dn T (sr e)))) λZ=>Jm (λe=>aN (h _ _ (M.la T e))) λU=>bY (lL ?_);refine Qx n.zero_le (λX=>LoC rk a b z (X+1)) (λ_ _=>False) (Mgd rk a b z) ⟨M,nxt T.na U,nxt T.nb Z,aC _⟩ (λX _ hX Y y J=>?_) (λY y J=>noL J.i1 J.j1 J.nl) (λ_ _ h=>e9 h) (λr _ y g=>aN (h r y g));dsimp(zeta:=dy) only
 extract_lets _ out _ ia _ ib mg
 refine Qx n.zero_le (λx=>LoC rk a b z (X+1+x)) (LoC rk a b z (X+2)) (Mgd rk a b z) J (λx _ hx c y J=>?_) (λc y J=>J.le (by lia)) (λc y J=>?_) λr _ y g=>aN (.ret g);dsimp only;refine zry N (b4 J.sm.kn k) J.j1 (dR J.i1) T.hb T.ha (Jm (λg=>?_) λg=>?_);refine J6 (rk:=rk) J.j1 T.hb λp v _ _=>?_;have M:=J.pushB T v λx hx=>bT (bG (of_decide_eq_true g)) (Z2 T.sa (dR J.i1) x hx);refine Jm (λe=>aN (.ret (M.dn T (sr e)))) λe=>?_;have I:LoJ rk a b z _ _ _ _ _:=⟨M,J.i1,nxt J.j1 e,rW J.nl⟩;exact Jm (λ_=>aN (.stop (I.le le2))) λ_=>aN (.go I);refine J6 (rk:=rk) (dR J.i1) T.ha λp v _ _=>?_;have M:=J.pushA T v λx hx=>bT (gT.mp λl=>g (decide_eq_true l)) (Z2 T.sb J.j1 x hx);refine Jm (λe=>aN (.ret (M.la T e))) λe=>?_;have I:LoJ rk a b z (X+1+x+1) _ _ _ _:=⟨M,nxt J.i1 e,J.j1,nlB J.nl⟩;exact Jm (λ_=>aN (.stop (I.le le2))) λ_=>aN (.go I);refine bY (ny (dG ⟨rfl,?_⟩));refine Qx n.zero_le (λ_=>LoC rk a b z (X+2)) (LoC rk a b z (X+2)) (Mgd rk a b z) J (λx _ hx c y J=>?_) (λc y J=>J) (λc y J=>WR J.sm λy' S=>aN (.go ⟨⟨S,J.m⟩,J.i1,J.j1,J.nl⟩)) λr _ y g=>aN (.ret g);dsimp(zeta:=dy) only
 extract_lets _ out _ ia _ ib _ mg _ ac bc ib1 jp _
 have C:∀mg,wpS (model prog w) A E s (jp () mg) (Tn (LoC rk a b z (X+2)) (LoC rk a b z (X+2)) (Mgd rk a b z)) y:=λmg=>by
  refine WR J.sm λy S=>?_;have R:=b4 S.kn k;have J:LoJ rk a b z (X+2) out ia ib y:=⟨⟨S,J.m⟩,J.i1,J.j1,J.nl⟩;refine J6 (rk:=rk) J.j1 T.hb λp v mp L=>Zt N R mp T.ha (szd J.i1).1 (szd J.i1).2.1 (zqJ T.sa (szd J.i1).2.2) λk G=>?_;dsimp(zeta:=dy) only
  extract_lets ac jp2 _ _
  have M:=J.galA T G L;have C:∀o i,LoJ rk a b z (X+2) o i ib y->(∀x∈a.toList.drop i,rkAt rk b ib<=rkP rk x)->wpS (model prog w) A E s (jp2 () o i) (Tn (LoC rk a b z (X+2)) (LoC rk a b z (X+2)) (Mgd rk a b z)) y:=λo i J g=>by
   refine J6 (rk:=rk) J.j1 T.hb λp v _ _=>?_;have M:=J.pushB T v g;refine Jm (λe=>aN (.ret (M.dn T (sr e)))) λe=>?_;have J:LoJ rk a b z (X+2) (o.push p) i ib1 y:=⟨M,J.i1,nxt J.j1 e,rh J.nl⟩;refine J6 (rk:=rk) (dR J.i1) T.ha λp v mp L=>Zt N R mp T.hb (szd0 J.j1).1 (szd0 J.j1).2.1 (zqJ T.sb (szd0 J.j1).2.2) λk G=>?_;dsimp(zeta:=dy) only
   extract_lets bc i1 jp3 _ _
   have M:=J.galB T G L;have C:∀o j,LoJ rk a b z (X+2) o i j y->(∀x∈b.toList.drop j,rkAt rk a i<=rkP rk x)->wpS (model prog w) A E s (jp3 () o j) (Tn (LoC rk a b z (X+2)) (LoC rk a b z (X+2)) (Mgd rk a b z)) y:=λo j J g=>by refine J6 (rk:=rk) (dR J.i1) T.ha λp v _ _=>?_;have M:=J.pushA T v g;refine Jm (λe=>aN (.ret (M.la T e))) λe=>?_;have J:LoJ rk a b z (X+2) _ _ _ _:=⟨M,nxt J.i1 e,J.j1,i7 (nlB J.nl)⟩;exact Jm (λ_=>aN (.stop J)) λ_=>aN (.go J)
   clear_value jp3;refine Jm (λ_=>?_) λe=>C _ _ J λx hx=>M.2 x (by rwa [gU e]);exact Jm (λe=>aN (.ret (M.1.dn T (sr e)))) λe=>C _ _ ⟨M.1,J.i1,nxt0 (szk J.j1 G.rn) e,ba J.nl (iy (cK _ _) _)⟩ M.2
  clear_value jp2;refine Jm (λ_=>?_) λe=>C _ _ J λx hx=>M.2 x (by rwa [gU e]);exact Jm (λe=>aN (.ret (M.1.la T e))) λe=>Jm (λe=>aN (.ret (M.1.dn T (dY e)))) λf=>C _ _ ⟨M.1,nxt (nxt0 (szk (dR J.i1) G.rn) f) e,J.j1,ba J.nl (dH (cK _ _) _)⟩ M.2
 clear_value jp;exact Jm (λ_=>C _) λ_=>C _
end
def zpM:Array cj->Array cj->StateT br Sem (Array cj):=sortPriv% PySem.Builtin.mergeHi
section
variable{prog:aK}{w:aV}{A:bw}{E:qV}{s:ax}{kd:fG}{rk:ah->Int}{a0:Array cj}
structure HiM(rk:ah->Int)(a b:Array cj)(z:br)(i j:Nat)(o:Array cj)(y:br):Prop where
 sm:SmS z y
 m:MHi (rkP rk) (nK a) (nK b) (jn o.toList) i j
structure HiJ(rk:ah->Int)(a b:Array cj)(z:br)(n:Nat)(i j:Nat)(o:Array cj)(y:br):Prop extends HiM rk a b z i j o y where
 i1:0<i
 j1:1<j
 ia:i<=be a
 jb:j<=be b
 nl:i+j+n<=be a+be b
abbrev HiC{γ:Type}(rk:ah->Int)(a b:Array cj)(z:br)(n:Nat)(c:Nat×Nat×Array cj×γ)(y:br):Prop:=HiJ rk a b z n c.1 c.2.1 c.2.2.1 y
section
variable{a b o:Array cj}{x y:br}{i j k n m:Nat}{p:cj}
theorem nlH{i j n N:Nat}(h:i+j+n<=N)(g:0<i):i - 1+j+(n+1)<=N:=by lia
theorem nlG{i j n N:Nat}(h:i+j+n<=N)(g:1<j):i+(j - 1)+(n+1)<=N:=by lia
theorem noH{A B i j:Nat}(l:0<i)(h:i+j+(A+B+1)<=A+B):False:=by lia
theorem nl0{A B:Nat}(h:0<A):A - 1+B+1<=A+B:=by lia
theorem prv(h:m<i)(e:¬(i - 1 == m)=du):m<i - 1:=gS (kZ h) λg=>e (g▸beq_self_eq_true _)
theorem prv0(e:¬(i == 0)=du):0<i:=Nat.pos_of_ne_zero λg=>e (g▸beq_self_eq_true _)
theorem HiJ.le(h:HiJ rk a b x n i j o y)(l:m<=n):HiJ rk a b x m i j o y:=⟨h.toHiM,h.i1,h.j1,h.ia,h.jb,ba (iy l _) h.nl⟩
theorem HiM.dn(h:HiM rk a b x i j o y)(T:Two rk a0 a b)(e:(i == 0)=du\/(j == 0)=du):Mgd rk a b x (a.extract 0 i++b.extract 0 j++o.reverse) y:=by
 have g:=h.m.done T.sa T.sb λx hx y l=>by rcases e with e|e;rw[eq_of_beq e]at hx;cases hx;rw[eq_of_beq e]at l;cases l
 rw[<- Wd,<- Wd,<- cS,<- oN,<- cS]at g;exact⟨h.sm,g.1,g.2⟩
theorem HiM.fi(h:HiM rk a b x i j o y)(T:Two rk a0 a b)(e:(j == 1)=du):Mgd rk a b x (b.extract 0 j++a.extract 0 i++o.reverse) y:=by
 have g:=h.m.first T.sa T.sb λy l x hx=>by rw[eq_of_beq e]at l;exact bT (ZI T.sb T.nb y l) (T.f1 x (dI hx))
 rw[<- Wd,<- Wd,<- cS,<- oN,<- cS]at g;exact⟨h.sm,g.1,g.2⟩
theorem HiM.pushB(h:HiM rk a b x i j o y)(T:Two rk a0 a b)(l:0<j)(e:b[j - 1]?=ao p)(c:∀x∈a.toList.take i,rkP rk x<=rkAt rk b (j - 1)):HiM rk a b x i (j - 1) (o.push p) y:=by obtain⟨j,rfl⟩:∃m,j=m+1:=⟨j - 1,by lia⟩;have e:=b4 (cf (xs:=b)) e;exact⟨h.sm,by simpa using h.m.pushB T.sb e (Vz e▸c)⟩
theorem HiM.pushA(h:HiM rk a b x i j o y)(T:Two rk a0 a b)(hi:0<i)(e:a[i - 1]?=ao p)(c:∀x∈b.toList.take j,rkP rk x<=rkAt rk a (i - 1)):HiM rk a b x (i - 1) j (o.push p) y:=by obtain⟨i,rfl⟩:∃m,i=m+1:=⟨i - 1,by lia⟩;have e:=b4 (cf (xs:=a)) e;exact⟨h.sm,by simpa using h.m.pushA T.sa e (Vz e▸c)⟩
theorem HiJ.galA(h:HiJ rk a b x n i j o y)(T:Two rk a0 a b)(S:Srch (bey rk dy p a 0) i k k)(e:rk p.1=rkAt rk b (j - 1)):HiM rk a b x k j (o++(a.extract k i).reverse) y/\∀x∈a.toList.take k,rkP rk x<=rkAt rk b (j - 1):=by have⟨g1,g2⟩:=srch (P:=[]) (A:=a.toList.take i) (S:=a.toList.drop i) (by simp) rfl (by simp;have:=h.ia;lia) S;rw[e]at g1 g2;rw[oK,fD S.rn]at g1;have:=h.m.takeA (k:=k) T.sa S.rn λx hx y l=>bT (ZI T.sb h.jb x hx) (bG (g2 y l));rw[<- znV]at this;exact⟨⟨h.sm,by simpa using this⟩,g1⟩
theorem HiJ.galB(h:HiJ rk a b x n i j o y)(T:Two rk a0 a b)(S:Srch (bey rk du p b 0) j k k)(e:rk p.1=rkAt rk a (i - 1)):HiM rk a b x i k (o++(b.extract k j).reverse) y/\∀x∈b.toList.take k,rkP rk x<=rkAt rk a (i - 1):=by have⟨g1,g2⟩:=srch (P:=[]) (A:=b.toList.take j) (S:=b.toList.drop j) (by simp) rfl (by simp;have:=h.jb;lia) S;rw[e]at g1 g2;rw[oK,fD S.rn]at g1;have:=h.m.takeB (k:=k) T.sb S.rn λx hx y l=>bT (ZI T.sa h.ia x hx) (g2 y l);rw[<- znV]at this;exact⟨⟨h.sm,by simpa using this⟩,λx hx=>bG (g1 x hx)⟩
end
theorem zlz{a b:Array cj}{z:br}{Q:Array cj->br->Prop}(R:Cmp prog w A s kd rk a0)(k:kindOf z=kd)(T:Two rk a0 a b)(h:∀m y,Mgd rk a b z m y->Q m y):wpS (model prog w) A E s (zpM a b) Q z:=by
 refine bY (ny (dG ⟨rfl,?_⟩))
 extract_lets n dn fst na nb
 refine J6 (rk:=rk) (cY T.na) T.ha λp v _ _=>?_;have M:HiM rk a b z (be a - 1) b.size #[p] z:=(show HiM rk a b z a.size b.size #[] z from⟨.refl z,⟨by simp[<- bN],mO,λ_ _ _ h=>absurd h aS⟩⟩).pushA T T.na v λx hx=>T.f2 x (dI hx);refine Jm (λe=>aN (h _ _ (M.dn T (dY e)))) λe1=>Jm (λe=>aN (h _ _ (M.fi T e))) λY=>bY (lL ?_);refine Qx n.zero_le (λX=>HiC rk a b z (X+1)) (λ_ _=>False) (Mgd rk a b z) ⟨M,prv T.na e1,gS T.nb λg=>Y (g▸beq_self_eq_true _),kM _ _,aC _,nl0 T.na⟩ (λX _ hX Z y J=>?_) (λZ y J=>noH J.i1 J.nl) (λ_ _ h=>e9 h) (λr _ y g=>aN (h r y g));dsimp(zeta:=dy) only
 extract_lets _ na _ nb _ out mg
 refine Qx n.zero_le (λx=>HiC rk a b z (X+1+x)) (HiC rk a b z (X+2)) (Mgd rk a b z) J (λx _ hx c y J=>?_) (λc y J=>J.le (by lia)) (λc y J=>?_) λr _ y g=>aN (.ret g);dsimp only;have la:=aI (cY J.i1) J.ia;have I:=aI (cY J.j1) J.jb;refine zry R (b4 J.sm.kn k) I la T.hb T.ha (Jm (λg=>?_) λg=>?_);refine J6 (rk:=rk) la T.ha λp v _ _=>?_;have M:=J.pushA T J.i1 v λx hx=>bT (ZI T.sb J.jb x hx) (bG (of_decide_eq_true g));refine Jm (λe=>aN (.ret (M.dn T (dY e)))) λe=>?_;have L:HiJ rk a b z (X+1+x+1) _ _ _ _:=⟨M,prv J.i1 e,J.j1,eQ la,J.jb,nlH J.nl J.i1⟩;exact Jm (λ_=>aN (.stop (L.le le2))) λ_=>aN (.go L);refine J6 (rk:=rk) I T.hb λp v _ _=>?_;have M:=J.pushB T (dR J.j1) v λx hx=>bT (ZI T.sa J.ia x hx) (gT.mp λl=>g (decide_eq_true l));refine Jm (λe=>aN (.ret (M.fi T e))) λe=>?_;have L:HiJ rk a b z (X+1+x+1) _ _ _ _:=⟨M,J.i1,prv J.j1 e,J.ia,eQ I,nlG J.nl J.j1⟩;exact Jm (λ_=>aN (.stop (L.le le2))) λ_=>aN (.go L);refine bY (ny (dG ⟨rfl,?_⟩));refine Qx n.zero_le (λ_=>HiC rk a b z (X+2)) (HiC rk a b z (X+2)) (Mgd rk a b z) J (λx _ hx c y J=>?_) (λc y J=>J) (λc y J=>WR J.sm λy' S=>aN (.go ⟨⟨S,J.m⟩,J.i1,J.j1,J.ia,J.jb,J.nl⟩)) λr _ y g=>aN (.ret g);dsimp(zeta:=dy) only
 extract_lets _ na _ nb _ out _ mg _ ac bc nb1 jp _
 have C:∀mg,wpS (model prog w) A E s (jp () mg) (Tn (HiC rk a b z (X+2)) (HiC rk a b z (X+2)) (Mgd rk a b z)) y:=λmg=>by
  refine WR J.sm λy S=>?_;have U:=b4 S.kn k;have J:HiJ rk a b z (X+2) na nb out y:=⟨⟨S,J.m⟩,J.i1,J.j1,J.ia,J.jb,J.nl⟩;have I:=aI (cY J.j1) J.jb;refine J6 (rk:=rk) I T.hb λp v mp N=>Zt R U mp T.ha (dv (fM _)▸J.ia) (cY J.i1) (ztQ T.sa J.ia) λk G=>?_;dsimp(zeta:=dy) only
  extract_lets kk ac jp2 _ _
  have M:=J.galA T G N;have C:∀i o,HiJ rk a b z (X+2) i nb o y->(∀x∈a.toList.take i,rkP rk x<=rkAt rk b nb1)->wpS (model prog w) A E s (jp2 () i o) (Tn (HiC rk a b z (X+2)) (HiC rk a b z (X+2)) (Mgd rk a b z)) y:=λi o J g=>by
   refine J6 (rk:=rk) I T.hb λp v _ _=>?_;have M:=J.pushB T (dR J.j1) v g;refine Jm (λe=>aN (.ret (M.fi T e))) λe=>?_;have J:HiJ rk a b z (X+2) i nb1 (o.push p) y:=⟨M,J.i1,prv J.j1 e,J.ia,eQ I,ba (dH (iy (kM _ _) _) _) J.nl⟩;have la:=aI (cY J.i1) J.ia;refine J6 (rk:=rk) la T.ha λp v mp N=>Zt R U mp T.hb (dv (fM _)▸J.jb) (cY J.j1) (ztQ T.sb J.jb) λk G=>?_;dsimp(zeta:=dy) only
   extract_lets kk bc i1 jp3 _ _
   have M:=J.galB T G N;have C:∀j o,HiJ rk a b z (X+2) i j o y->(∀x∈b.toList.take j,rkP rk x<=rkAt rk a i1)->wpS (model prog w) A E s (jp3 () j o) (Tn (HiC rk a b z (X+2)) (HiC rk a b z (X+2)) (Mgd rk a b z)) y:=λj o J g=>by refine J6 (rk:=rk) la T.ha λp v _ _=>?_;have M:=J.pushA T J.i1 v g;refine Jm (λe=>aN (.ret (M.dn T (dY e)))) λe=>?_;have J:HiJ rk a b z (X+2) _ _ _ _:=⟨M,prv J.i1 e,J.j1,eQ la,J.jb,ba (dH (dH (kM _ _) _) _) J.nl⟩;exact Jm (λ_=>aN (.stop J)) λ_=>aN (.go J)
   clear_value jp3;refine Jm (λ_=>?_) λe=>C _ _ J λx hx=>M.2 x (by rwa [show k=nb1 from iM G.rn (kE (gU e))]);exact Jm (λe=>aN (.ret (M.1.fi T e))) λe=>Jm (λe=>aN (.ret (M.1.dn T (sr e)))) λf=>C _ _ ⟨M.1,J.i1,gS (prv0 f) λg=>e (g▸beq_self_eq_true _),J.ia,ba G.rn J.jb,ba (dH (iy G.rn _) _) J.nl⟩ M.2
  clear_value jp2;refine Jm (λ_=>?_) λe=>C _ _ J λx hx=>M.2 x (by rwa [show k=na from iM G.rn (kE (gU e))]);exact Jm (λe=>aN (.ret (M.1.dn T (dY e)))) λe=>C _ _ ⟨M.1,prv0 e,J.j1,ba G.rn J.ia,J.jb,ba (dH (dH G.rn _) _) J.nl⟩ M.2
 clear_value jp;exact Jm (λ_=>C _) λ_=>C _
end
theorem zmi{α:Type}{l:List α}{i:Nat}{p:α}(h:i<fo l):(ce l i p).take (i+1)=l.take i++[p]:=by rw[dW,fI h,List.take_set_of_le (aC _)];rfl
theorem zn1{α:Type}{l:List α}{i j:Nat}{p:α}(h:i<j):(ce l i p).drop j=l.drop j:=by rw[List.drop_set];rw[if_pos h]
theorem zmK{α:Type}(o:Nat):∀(m:List α) (n:Nat) (x:Array α),o+n+fo m<=be x ->
  nK ((m.zipIdx n).foldl (λa (q:α×Nat)=>a.setIfInBounds (o+q.2) q.1) x)=x.toList.take (o+n)++m++x.toList.drop (o+n+fo m)
 | [],n,x,h=>by simp
 | p::ms,n,x,h=>by
  rw[aP]at h;rw[nB,gY,zmK o ms (n+1) _ (by rw[Array.size_setIfInBounds];omega)];have e:nK (x.setIfInBounds (o+n) p)=ce x.toList (o+n) p:=by simp
  have u:o+n<fo x.toList:=by simp;omega
  dsimp only;rw[e,show o+(n+1)=o+n+1 by lia,zmi u,zn1 (by lia),aP,show o+n+1+fo ms=o+n+(fo ms+1) by lia];simp
section
variable{prog:aK}{w:aV}{A:bw}{E:qV}{s:ax}{kd:fG}{rk:ah->Int}{a0:Array cj}
theorem zrD{z o:br}{u:Type}{f:PUnit->StateT br Sem u}{Q:u->br->Prop}(h:∀y,SmS o y->wpS (model prog w) A E s (f ⟨⟩) Q y):wpS (model prog w) A E s ((set o:StateT br Sem PUnit) >>= f) Q z:=by refine bY ?_;unfold wpS;rw[StateT.run_set];exact ak ⟨rfl,h _ (.refl o)⟩
section
variable{x:Array cj}{P A B S M:List cj}{i j k m:Nat}
theorem znW(e:nK x=P++(A++S))(l:fo P=i)(u:i+fo A=j):nK (x.extract i j)=A:=by subst l u;rw[znV,e,<- aM,sW (by simp),List.drop_left]
theorem zqU(h:i+k<j)(g:j<=be x):rkAt rk (x.extract i j) k=rkAt rk x (i+k):=Yg (by rw[Array.getElem?_extract,if_pos (by lia)])
theorem zrO{r:cj->Int}(ha:Ris r A)(hb:Ris r B)(I:∀p∈A.take k,∀q∈B,r p<=r q)(v:∀p∈A,∀q∈B.drop m,r p<=r q)(PM:M.Perm (A.drop k++B.take m))(G:Ris r M):(A.take k++(M++B.drop m)).Perm (A++B)/\Ris r (A.take k++(M++B.drop m)):=by have u:=bZ k A;have C:=bZ m B;have⟨a1,_,a3⟩:=J8.mp (dv u▸ha);have⟨_,b2,b3⟩:=J8.mp (dv C▸hb);constructor;have:=(PM.append_right (B.drop m)).append_left (A.take k);rwa [aM (A.drop k),C,<- aM (A.take k) (A.drop k),u]at this;refine J8.mpr ⟨a1,J8.mpr ⟨G,b2,λx hx y o=>?_⟩,λx hx y o=>?_⟩;rcases au.mp (PM.mem_iff.mp hx) with h|h;exact v x (gv h) y o;exact b3 x h y o;rcases au.mp o with h|h;rcases au.mp (PM.mem_iff.mp h) with h|h;exact a3 x hx y h;exact I x hx y (dI h);exact v x (dI hx) y h
end
theorem zlA{i pw pw2:Nat}{z:br}{Q:Bool->br->Prop}{P U V S:List cj}(c:Cmp prog w A s kd rk a0)(k:kindOf z=kd)(fl:failedOf z=bj)(mz:∀p∈nK (arrOf z),p∈nK a0)(e:nK (arrOf z)=P++(U++(V++S)))
  (p1:(pendingOf z)[i]?=ao (fo P,fo U,pw)) (p2:(pendingOf z)[i+1]?=ao (fo P+fo U,fo V,pw2)) (hU:0<fo U) (hV:0<fo V) (rU:Ris (rkP rk) U) (rV:Ris (rkP rk) V)
  (h:∀y T,kindOf y=kd->failedOf y=bj->pendingOf y=((pendingOf z).setIfInBounds i (fo P,fo U+fo V,pw)).eraseIdxIfInBounds (i+1)->nK (arrOf y)=P++(T++S)->T.Perm (U++V)->Ris (rkP rk) T->Q du y) :
  wpS (model prog w) A E s (mergeAt' i) Q z:=by
 have C:nK (arrOf z)=(P++U)++(V++S):=by rw[e,aM]
 have lP:fo (P++U)=fo P+fo U:=aO;have lz:be (arrOf z)=fo P+(fo U+(fo V+fo S)):=by rw[<- bN,e];simp
 refine bY (lL (dv p1▸p2.symm▸zrD λy sm=>?_));have J:=b4 sm.kn k;have ea:arrOf y=arrOf z:=sm.ar;have fy:failedOf y=bj:=b4 sm.fl fl;have all:(∀u∈U,∀v∈V,rkP rk u<=rkP rk v)->Q du y:=λg=>h y _ J fy sm.pe (by rw[ea,e,aM]) (t6 _) (J8.mpr ⟨rU,rV,g⟩);refine J6 (rk:=rk) (x:=arrOf z) (by lia) mz λp _ mp rp=>Zt c J mp mz (by lia) hU ((Us e rfl rfl).mpr rU) λk G=>?_;have⟨g1,g2⟩:=srch e rfl rfl G;have b0:=zwo (rk:=rk) C lP rV;rw[<- rp]at b0;have kU:=G.rn;dsimp(zeta:=dy) only;refine Jm (λe1=>aN (all λu hu v Z=>bT (g1 u (by rwa [df (by have:=eq_of_beq e1;lia)])) (b0 v Z))) λe1=>?_;have e1:0<fo U - k:=prv0 e1;refine J6 (rk:=rk) (x:=arrOf z) (by lia) mz λq _ mq rq=>Zt c J mq mz (by lia) (cY hV) ((Us C lP rfl).mpr rV) λm G2=>?_;have⟨g3,g4⟩:=srch C lP rfl G2;have b1:=zvt (rk:=rk) e rfl rU rfl;rw[show fo P+fo U - 1=fo P+k+(fo U - k) - 1 by lia,<- rq]at b1;have mV:=G2.rn;dsimp(zeta:=dy) only;refine Jm (λC=>aN (all λu hu v Z=>bT (b1 u hu) (g4 v (by rwa [eq_of_beq C])))) λe3=>?_
 extract_lets X Y jp
 have e3:=prv0 e3;have eX:nK X=U.drop k:=znW (P:=P++U.take k) (S:=V++S) (by rw[e,aM,<- aM (U.take k),bZ]) (by simp;lia) (by simp;lia);have eY:nK Y=V.take m:=znW (S:=V.drop m++S) (by rw[C,<- aM (V.take m),bZ]) lP (by simp;lia);have lX:be X=fo U - k:=by rw[<- bN,eX,dN]
 have lY:be Y=m:=by rw[<- bN,eY,eF,fD mV]
 have hj:∀M R,Mgd rk X Y y M R->wpS (model prog w) A E s (jp M) Q R:=λM R G=>by
  have r:=zrO rU rV (λu hu v Z=>bT (g1 u hu) (b0 v Z)) (λu hu v Z=>bT (b1 u hu) (g4 v Z)) (eX▸eY▸G.pm) G.ri;have lM:=G.pm.length_eq;rw[eX,eY,aO,dN,eF,fD mV]at lM;refine bY (nR (bY (lL (aN ?_))));have f':failedOf R=bj:=b4 G.sm.fl fy;show Q (failedOf R).isNone _;rw[f'];refine h _ _ (b4 G.sm.kn J) f' (b4 G.sm.pe sm.pe) ?_ r.1 r.2;refine(zmK (fo P+k) (nK M) 0 (arrOf R) (by rw[G.sm.ar,ea];lia)).trans ?_;have e5:nK (arrOf z)=(P++U.take k)++((U.drop k++V.take m)++(V.drop m++S)):=by rw[e,aM,aM (U.drop k),<- aM (V.take m),bZ,<- aM (U.take k),bZ]
  have l5:fo (P++U.take k)=fo P+k+0:=by simp;lia
  rw[G.sm.ar,ea,lM,e5,sW l5,<- aM (P++U.take k),List.drop_left' (by rw[aO,l5];simp;lia)];simp only[aM]
 clear_value jp;have mU:∀p∈U++V,p∈nK a0:=λp hp=>mz p (by rw[e,<- aM U];exact m2 (m1 hp));have T:Two rk a0 X Y:=by refine⟨eX▸λp hp=>mU p (m1 (gv hp)),eY▸λp hp=>mU p (m2 (dI hp)),eX▸rU.drop k,eY▸rV.take m,lX▸e1,lY▸e3,?_,?_⟩;rw[eX,zqU (by lia) (by lia)];exact λx hx=>bG (rp▸g2 x hx);rw[eY,lX,zqU (by lia) (by lia),<- hW e1,<- rq];exact λx hx=>bG (g3 x hx)
 exact Jm (λ_=>bY (zly c J T hj)) λ_=>bY (zlz c J T hj)
end
structure Sl(rk:ah->Int)(kd:fG)(a0:Array cj)(z0:br)(lo:Nat)(z:br):Prop where
 pm:(arrOf z).Perm a0
 kn:kindOf z=kd
 fl:failedOf z=bj
 pe:pendingOf z=pendingOf z0
 lw:∀j,j<lo->rkAt rk (arrOf z) j=rkAt rk (arrOf z0) j
def DnL(rk:ah->Int)(xs:Array cj)(lo m:Nat):Prop:=∀i j,i<j->j<m->rkAt rk xs (lo+j)<=rkAt rk xs (lo+i)
section
variable{prog:aK}{w:aV}{A:bw}{E:qV}{s:ax}{kd:fG}{rk:ah->Int}{a0:Array cj}{z0:br}{lo:Nat}
theorem Sl.sz{z:br}(b:Sl rk kd a0 z0 lo z):be (arrOf z)=be a0:=b.pm.size_eq
theorem Sl.arr{z:br}(b:Sl rk kd a0 z0 lo z){xs:Array cj}(h:xs.Perm (arrOf z))(l:∀j,j<lo->rkAt rk xs j=rkAt rk (arrOf z) j):Sl rk kd a0 z0 lo (setArr z xs):=⟨h.trans b.pm,b.kn,b.fl,b.pe,λj o=>b4 (l j o) (b.lw j o)⟩
theorem Sl.mem{z:br}(b:Sl rk kd a0 z0 lo z):∀p∈nK (arrOf z),p∈nK a0:=λ_=>(fT.mp b.pm).mem_iff.mp
section
variable{β:Type}{Q:β->br->Prop}{y z:br}{i j m n x:Nat}
theorem askL{f:Option Bool->StateT br Sem β}(c:Cmp prog w A s kd rk a0)(b:Sl rk kd a0 z0 lo z)(hi:i<be a0)(l:j<be a0)
  (h:wpS (model prog w) A E s (f (ao (decide (rkAt rk (arrOf z) i<rkAt rk (arrOf z) j)))) Q z):wpS (model prog w) A E s (ltAt' i j >>= f) Q z :=
 bY (bY (lL (J6 (rk:=rk) (b.sz▸hi) b.mem λ_ _ mp u=>J6 (rk:=rk) (b.sz▸l) b.mem λ_ _ v o=>VY c b.kn mp v (by rw[u,o];exact h))))
theorem morR{R:Int->Int->Prop}(C:∀{a b c},R a b->R b c->R a c){f:Nat->Int}(u:∀i j,i<j->j<x->R (f (lo+i)) (f (lo+j)))(o:1<=x)(g:R (f (lo+x - 1)) (f (lo+x))):∀i j,i<j->j<x+1->R (f (lo+i)) (f (lo+j)):=λi j l v=>by rcases gV (kc v) with h|rfl;exact u i j l h;rw[hW o]at g;rcases gV (kZ l) with h|rfl;exact C (u i _ h (cY l)) g;exact g
theorem zmB{F:Option (Option Nat)×Nat->StateT br Sem β}(c:Cmp prog w A s kd rk a0)(S:lo+m<=be a0)(b:Sl rk kd a0 z0 lo z)(v:1<=x)(J:x<=m)(u:UpL rk (arrOf z) lo x)
  (h:∀n y,Sl rk kd a0 z0 lo y->1<=n->n<=m->UpL rk (arrOf y) lo n->n=m\/n<m/\rkAt rk (arrOf y) (lo+n)<rkAt rk (arrOf y) (lo+n - 1)->wpS (model prog w) A E s (F (bj,n)) Q y) :
  wpS (model prog w) A E s (forIn [x:m] (bj,x) (λ_ c=>ltAt' (lo+c.2) (lo+c.2 - 1) >>= λo=>match o with
   | some g=>if g=du then pure (.done (bj,c.2)) else pure (iK (bj,c.2+1))
   | _=>pure (.done (ao bj,c.2))) >>= F) Q z:=by
 refine Qx J (λx c y=>c=x/\Sl rk kd a0 z0 lo y/\UpL rk (arrOf y) lo x) (λn y=>Sl rk kd a0 z0 lo y/\1<=n/\n<=m/\UpL rk (arrOf y) lo n/\(n=m\/n<m/\rkAt rk (arrOf y) (lo+n)<rkAt rk (arrOf y) (lo+n - 1))) (λ_ _=>False) ⟨rfl,b,u⟩ (λU C G N y I=>?_)
  (λN y ⟨e,b,u⟩=>⟨b,e▸ba v J,e▸aC _,e▸u,dY e⟩) (λn y ⟨b,L,nm,u,l⟩=>h n y b L nm u l) λ_ _ _ h=>e9 h
 obtain⟨rfl,b,u⟩:=I;refine askL c b (by lia) (by lia) (Jm (λg=>aN (.stop ⟨b,ba v C,eQ G,u,sr ⟨G,of_decide_eq_true g⟩⟩)) λg=>aN (.go ⟨rfl,b,?_⟩));exact morR (R:=(·<=·)) bT u (ba v C) (gT.mp λl=>g (decide_eq_true l))
theorem revs{f:PUnit->StateT br Sem β}(b:Sl rk kd a0 z0 lo z)(l:j<=be a0)(al:∀k,i<=k->k<j->rkAt rk (arrOf z) k=rkAt rk (arrOf z) (j - 1))(h:∀y,Sl rk kd a0 z0 lo y->(∀k,rkAt rk (arrOf y) k=rkAt rk (arrOf z) k)->wpS (model prog w) A E s (f ⟨⟩) Q y):wpS (model prog w) A E s (reverseSlice' i j >>= f) Q z :=
 have g:=zpK (rk:=rk) (b.sz▸l) al
 bY (wpS_reverse (h _ (b.arr (mirror_perm _ _ _ _) λk _=>g k) g))
structure Fall(rk:ah->Int)(kd:fG)(a0:Array cj)(z0:br)(lo x e:Nat)(y:br):Prop where
 sl:Sl rk kd a0 z0 lo y
 dn:DnL rk (arrOf y) lo x
 ex:e<x
 al:∀i,lo+x - (e+1)<=i->i<lo+x->rkAt rk (arrOf y) i=rkAt rk (arrOf y) (lo+x - 1)
theorem DnL.same{x y:Array cj}{n:Nat}(d:DnL rk x lo n)(h:∀k,rkAt rk y k=rkAt rk x k):DnL rk y lo n:=λi j o l=>by rw[h,h];exact d i j o l
theorem DnL.more{xs:Array cj}(d:DnL rk xs lo x)(l:1<=x)(g:rkAt rk xs (lo+x)<=rkAt rk xs (lo+x - 1)):DnL rk xs lo (x+1):=morR (R:=λa b=>b<=a) (λu o=>bT o u) d l g
theorem UpL.alike{xs:Array cj}(u:UpL rk xs lo n)(g:¬rkAt rk xs lo<rkAt rk xs (lo+n - 1)):∀k,lo<=k->k<lo+n->rkAt rk xs k=rkAt rk xs (lo+n - 1):=λk l o=>by
 obtain⟨k,rfl⟩:=Nat.exists_eq_add_of_le l;have le:∀i j,i<=j->j<n->rkAt rk xs (lo+i)<=rkAt rk xs (lo+j):=λi j l o=>by rcases iS l with rfl|h;exact aL _;exact u i j h o
 have p:=le 0 k (cR k) (by lia);have q:=le k (n - 1) (by lia) (by lia);rw[<- hW (by lia)]at q;exact nZ q (bT (gT.mp g) p)
theorem mirx{j:Nat}(h:j<x):lo+(lo+x) - 1 - (lo+j)=lo+(x - 1 - j):=by lia
theorem mirl{i j:Nat}(o:i<j)(l:j<x):x - 1 - j<x - 1 - i/\x - 1 - i<x:=by lia
theorem DnL.turn{xs:Array cj}(d:DnL rk xs lo x)(h:lo+x<=be xs):UpL rk (mirror xs lo (lo+x) ((lo+x - lo) / 2)) lo x:=λi j o l=>by have g:=lK o l;rw[(V6 (rk:=rk) h (lo+i)).1 (cK _ _) (lF g lo),(V6 (rk:=rk) h (lo+j)).1 (cK _ _) (lF l lo),mirx g,mirx l];exact d _ _ (mirl o l).1 (mirl o l).2
theorem zrN{Q:Option Nat->br->Prop}(c:Cmp prog w A s kd rk a0)(Y:lo+m<=be a0)(m1:1<=m)(b:Sl rk kd a0 z0 lo z)
  (h:∀k y,Sl rk kd a0 z0 lo y->1<=k->k<=m->UpL rk (arrOf y) lo k->Q (ao k) y):wpS (model prog w) A E s (countRun' lo m) Q z:=by
 refine zmB c Y b (aC 1) m1 (λi j G N=>absurd G (by lia)) λn y b J nm u l=>?_;dsimp(zeta:=dy) only
 extract_lets _ _ _ _ jp
 refine Jm (λe=>aN (h n y b J nm u)) λe=>?_;have l:=jr l λg=>e (g▸beq_self_eq_true _);have R:∀y,Sl rk kd a0 z0 lo y->DnL rk (arrOf y) lo (n+1)->wpS (model prog w) A E s (jp ⟨⟩) Q y:=λy b d=>by
  refine bY (ny (dG ⟨rfl,?_⟩));refine Qx l.1 (λx c y=>c.1=x/\Fall rk kd a0 z0 lo c.1 c.2 y) (λc y=>c.1<=m/\Fall rk kd a0 z0 lo c.1 c.2 y) (λ_ _=>False) ⟨rfl,b,d,rg n,λi i1 S=>by rw[show i=lo+(n+1) - 1 by lia]⟩ (λx _ hx b y ⟨ex,F⟩=>?_) (λc y I=>⟨wa I.1,I.2⟩) (λb y ⟨l,F⟩=>?_) λ_ _ _ h=>e9 h;have e0:=F.ex;have G:lo+b.1<be a0:=by lia
  have N:lo+b.1 - 1<be a0:=by lia
  have ex:=congrArg (·+1) ex;dsimp(zeta:=dy) only;refine askL c F.sl G N ?_;dsimp(zeta:=dy) only
  extract_lets _ jp jp2 _
  refine Jm (λg=>?_) λg=>askL c F.sl N G (Jm (λ_=>aN (.stop ⟨by lia,F⟩)) λg2=>aN (.go ⟨ex,F.sl,F.dn.more (by lia) ?_,nv e0,?_⟩));have L:∀v,Sl rk kd a0 z0 lo v->(∀k,rkAt rk (arrOf v) k=rkAt rk (arrOf y) k)->wpS (model prog w) A E s (jp2 ⟨⟩) (Tn (λc y=>c.1=x+1/\Fall rk kd a0 z0 lo c.1 c.2 y) (λc y=>c.1<=m/\Fall rk kd a0 z0 lo c.1 c.2 y) λ_ _=>False) v:=λv C s=>aN (.go ⟨ex,C,.same (F.dn.more (by lia) (bG (of_decide_eq_true g))) s,rg _,λi i1 S=>by rw[show i=lo+(b.1+1) - 1 by lia]⟩);exact Jm (λ_=>revs F.sl (by lia) F.al L) λ_=>L y F.sl λ_=>rfl;exact gT.mp λl=>g2 (decide_eq_true l);intro i i1 S;show _=rkAt rk _ (lo+b.1);rcases gV (kc S) with h|rfl;rw[F.al i (by lia) h];exact nZ (gT.mp λl=>g (decide_eq_true l)) (gT.mp λl=>g2 (decide_eq_true l));rfl;dsimp(zeta:=dy) only
  extract_lets _ _ _ jp
  have L:∀y,Sl rk kd a0 z0 lo y->DnL rk (arrOf y) lo b.1->wpS (model prog w) A E s (jp ⟨⟩) Q y:=λy C d=>by
   have U:lo+b.1<=be (arrOf y):=by rw[C.sz];lia
   exact bY (wpS_reverse (zmB c Y (C.arr (mirror_perm _ _ _ _) λj R=>(V6 (rk:=rk) U j).2 (dY R)) (fe (cR _) F.ex) l (d.turn U) λn y b J nm u _=>aN (h n y b J nm u)))
  exact Jm (λ_=>revs F.sl (by lia) F.al λv C s=>L v C (F.dn.same s)) λ_=>L y F.sl F.dn
 clear_value jp;have Z:=bG l.2;refine Jm (λg=>askL c b (by lia) (by lia) (Jm (λ_=>aN (h n y b J nm u)) λr=>?_)) λg=>R y b (.more (λi j G N=>absurd G (by lia)) J Z);have al:=u.alike λg=>r (decide_eq_true g);exact revs b (by lia) al λv C s=>R v C (.same (.more (λi j G N=>by rw[al _ (by lia) (by lia),al (lo+i) (by lia) (by lia)];exact aL _) J Z) s)
theorem zve{l r:Nat}(g:l<r):l<=(l+r) / 2/\(l+r) / 2<r:=by lia
theorem ztA{Q:Bool->br->Prop}{ok:Nat}(c:Cmp prog w A s kd rk a0)(hn:lo+n<=be a0)(N:1<=n)(hok:ok<=n)(b:Sl rk kd a0 z0 lo z)(up:UpL rk (arrOf z) lo ok)
  (h:∀y,Sl rk kd a0 z0 lo y->UpL rk (arrOf y) lo n->Q du y):wpS (model prog w) A E s (binarySort' lo n ok) Q z:=by
 refine Qx (Nat.max_le.mpr ⟨hok,N⟩) (λk _ y=>Sl rk kd a0 z0 lo y/\UpL rk (arrOf y) lo k) (λ_ y=>Sl rk kd a0 z0 lo y/\UpL rk (arrOf y) lo n) (λ_ _=>False) ⟨b,λi j G J=>up i j G (by lia)⟩ (λk k1 k2 _ y ⟨b,u⟩=>?_) (λ_ _ I=>I) (λ_ y I=>aN (h y I.1 I.2)) λ_ _ _ h=>e9 h;have f:Fal (λi=>!decide (rkAt rk (arrOf y) (lo+k)<rkAt rk (arrOf y) (lo+i))) k:=λi j G J h=>by rcases iS G with rfl|g;exact h;have:=u i j g J;simp at h ⊢;exact bT this h
 refine Qx k.zero_le (λx c v=>v=y/\Srch (λi=>!decide (rkAt rk (arrOf y) (lo+k)<rkAt rk (arrOf y) (lo+i))) k c.1 c.2/\c.2 - c.1<=k - x) (λc v=>v=y/\Srch (λi=>!decide (rkAt rk (arrOf y) (lo+k)<rkAt rk (arrOf y) (lo+i))) k c.1 c.1) (λ_ _=>False) ⟨rfl,⟨k.zero_le,aC k,λi hi=>by lia,λi i1 i2=>by lia⟩,aC _⟩ (λx _ hx l v I=>?_) (λc v I=>⟨I.1,I.2.1.fin2 (stp0 I.2.2)⟩) (λl v I=>?_) λ_ _ _ h=>e9 h;dsimp only;obtain⟨rfl,S,hd⟩:=I;refine Jm (λg=>aN (.stop ⟨rfl,S.fin2 g⟩)) λg=>?_;have⟨g1,g2⟩:=zve (pK.mp g);have rn:=S.rn;refine askL c b (by lia) (by lia) (Jm (λe=>?_) λe=>?_);exact aN (.go ⟨rfl,S.dn f g1 g2 (congrArg (!·) e),stp2 hd g2 hx⟩);exact aN (.go ⟨rfl,S.up f g2 (congrArg (!·) (cN.mpr e)),stp1 hd g1 hx⟩);obtain⟨rfl,S⟩:=I;have R:=S.lr;have R:=S.rn;have q4:∀i,i<l.1->rkAt rk (arrOf v) (lo+i)<=rkAt rk (arrOf v) (lo+k):=λi hi=>by simpa using S.lo i hi
 have Y:∀i,l.1<=i->i<k->rkAt rk (arrOf v) (lo+k)<rkAt rk (arrOf v) (lo+i):=λi G J=>by simpa using S.hi i G J
 show wpS (model prog w) A E s (moveDown' (lo+k) (lo+l.1) >>= λ_=>pure (iK (bj,()))) _ v;rw[moveDown'_eq];have hk:lo+k<be (arrOf v):=by rw[b.sz];lia
 have C:∀j,_:=λj=>zuk (rk:=rk) hk (show lo+k - (lo+l.1)<=lo+k by omega) j;rw[show lo+k - (lo+k - (lo+l.1))=lo+l.1 by lia]at C;refine bY (nR (aN (.go ⟨b.arr (bubble_perm _ _ _) λj hj=>(C j).2.2 (by lia),λi j G J=>?_⟩)));show rkAt rk (bubble (arrOf v) (lo+k) (lo+k - (lo+l.1))) (lo+i)<=rkAt rk (bubble (arrOf v) (lo+k) (lo+k - (lo+l.1))) (lo+j);obtain⟨a1,a2,L⟩:=C (lo+i);obtain⟨Z,b2,U⟩:=C (lo+j);rcases dD j l.1 with jl|jl|jl;rw[L (by lia),U (by lia)];exact u i j G (by lia);rw[L (by lia),Z (by lia)];exact q4 i (by lia);rw[b2 (by lia) (by lia),hW (fe (cR _) jl)];rcases dD i l.1 with il|il|il;rw[L (by lia)];exact u i (j - 1) (by lia) (by lia);rw[a1 (by lia)];exact bG (Y (j - 1) (by lia) (by lia));rw[a2 (by lia) (by lia),hW (fe (cR _) il)];exact u _ _ (by omega) (by omega)
end
end
abbrev Run3:=Nat×Nat×Nat
def Side:List Run3->Nat->Nat->Prop
 | [],a,b=>a=b
 | q::r,a,b=>q.1=a/\0<q.2.1/\Side r (a+q.2.1) b
theorem Vq:∀{l m:List Run3}{a b:Nat},Side (l++m) a b↔∃c,Side l a c/\Side m c b
 | [],m,a,b=>⟨λh=>⟨a,rfl,h⟩,λ⟨c,e,h⟩=>by cases e;exact h⟩
 | q::l,m,a,b=>by constructor;rintro⟨x,u,C⟩;obtain⟨c,o,v⟩:=Vq.mp C;exact⟨c,⟨x,u,o⟩,v⟩;rintro⟨c,⟨x,u,o⟩,v⟩;exact⟨x,u,Vq.mpr ⟨c,o,v⟩⟩
theorem Vf:∀{l:List Run3}{a b:Nat},Side l a b->a+fo l<=b/\∀q∈l,a<=q.1/\q.1+q.2.1<=b
 | [],a,b,h=>⟨by cases h;simp,λq o=>nomatch o⟩
 | p::l,a,b,⟨h1,h2,h3⟩=>by obtain⟨i1,u⟩:=Vf h3;refine⟨by simp only[aP];lia,λq o=>?_⟩;rcases ay.mp o with rfl|m;lia;have:=u q m;lia
theorem zkd{f:Run3->Run3}(hf:∀q,(f q).1=q.1/\(f q).2.1=q.2.1):∀{l:List Run3}{i a b:Nat},Side l a b->Side (l.modify i f) a b/\∀u∈l.modify i f,∃q∈l,u.1=q.1/\u.2.1=q.2.1
 | [],i,a,b,h=>by simp only[List.modify_nil];exact⟨h,λq o=>nomatch o⟩
 | p::l,0,a,b,⟨h1,h2,h3⟩=>by rw[List.modify_zero_cons];refine⟨⟨(hf p).1.trans h1,(hf p).2▸h2,(hf p).2▸h3⟩,λq o=>?_⟩;rcases ay.mp o with rfl|m;exact⟨p,cP,hf p⟩;exact⟨q,cC _ m,rfl,rfl⟩
 | p::l,i+1,a,b,⟨h1,h2,h3⟩=>by rw[List.modify_succ_cons];obtain⟨i1,x⟩:=zkd hf (i:=i) h3;refine⟨⟨h1,h2,i1⟩,λq o=>?_⟩;rcases ay.mp o with rfl|m;exact⟨q,cP,rfl,rfl⟩;obtain⟨u,v,e⟩:=x q m;exact⟨u,cC _ v,e⟩
theorem zh0{α:Type}{x y v:α}:∀(l r:List α),(ce (l++x::y::r) (fo l) v).eraseIdx (fo l+1)=l++v::r
 | [],r=>rfl
 | a::l,r=>by have:=zh0 (x:=x) (y:=y) (v:=v) l r;simp only[eM,aP,eD,List.eraseIdx_cons_succ,this]
structure Rn(rk:ah->Int)(kd:fG)(a0:Array cj)(lo:Nat)(z:br):Prop where
 pm:(arrOf z).Perm a0
 kn:kindOf z=kd
 fl:failedOf z=bj
 sd:Side (nK (pendingOf z)) 0 lo
 ls:lo<=be a0
 up:∀q∈nK (pendingOf z),UpL rk (arrOf z) q.1 q.2.1
theorem UpL.same{rk:ah->Int}{xs l:Array cj}{lo m:Nat}(u:UpL rk xs lo m)(e:∀j,lo<=j->j<lo+m->rkAt rk l j=rkAt rk xs j):UpL rk l lo m:=λi j v o=>by rw[e (lo+i) (by lia) (by lia),e (lo+j) (by lia) (by lia)];exact u i j v o
section
variable{prog:aK}{w:aV}{A:bw}{E:qV}{s:ax}{kd:fG}{rk:ah->Int}{a0:Array cj}{z0:br}{lo:Nat}
theorem zq_{i:Nat}{z:br}{Q:Bool->br->Prop}(c:Cmp prog w A s kd rk a0)(R:Rn rk kd a0 lo z)(hi:i+1<be (pendingOf z))
  (h:∀y,Rn rk kd a0 lo y->be (pendingOf y)+1=be (pendingOf z)->(∀j,lo<=j->rkAt rk (arrOf y) j=rkAt rk (arrOf z) j)->Q du y):wpS (model prog w) A E s (mergeAt' i) Q z:=by
 obtain⟨l,⟨sa,na,pw⟩,⟨sb,nb,pw2⟩,r,u,Y⟩:∃l x y r,nK (pendingOf z)=l++x::y::r/\fo l=i:=by
  have h1:i<(pendingOf z).toList.length:=by simp;lia
  have h2:i+1<(pendingOf z).toList.length:=by simp;omega
  refine⟨(pendingOf z).toList.take i,(pendingOf z).toList[i],(pendingOf z).toList[i+1],(pendingOf z).toList.drop (i+2),?_,by simp;lia⟩;rw[<- bO h2,<- bO h1,bZ]
 have sd:=R.sd;rw[u]at sd;obtain⟨_,s1,rfl,N,rfl,q4,I⟩:=Vq.mp sd;have up:=R.up;rw[u]at up;obtain⟨t1,t2⟩:=Vf I;have t3:=Vf s1;have ls:=R.ls;dsimp only at u N q4 I t1 t2 s1 t3 up;have sz:be (arrOf z)=be a0:=R.pm.size_eq;obtain⟨P,U,V,S,e,rfl,rfl,rfl⟩:∃P U V S,nK (arrOf z)=P++(U++(V++S))/\fo P=sa/\fo U=na/\fo V=nb :=
  ⟨(arrOf z).toList.take sa,((arrOf z).toList.drop sa).take na,((arrOf z).toList.drop (sa+na)).take nb,(arrOf z).toList.drop (sa+na+nb),by rw[<- cut2,<- cut2,bZ],by simp;lia,by simp;lia,by simp;lia⟩
 have e2:nK (arrOf z)=(P++U)++(V++S):=by rw[e,aM]
 have e3:nK (arrOf z)=P++((U++V)++S):=by rw[e,aM]
 refine zlA (pw:=pw) (pw2:=pw2) c R.kn R.fl (λp=>(fT.mp R.pm).mem_iff.mp) e ?_ ?_ N q4 ((Us e rfl rfl).mp (up (fo P,fo U,pw) (by simp))) ((Us e2 aO rfl).mp (up (fo P+fo U,fo V,pw2) (by simp))) λG T ky fy pe J Z rT=>?_;rw[<- cf,u,<- Y,bp (aC _),gR];rfl;rw[<- cf,u,<- Y,bp (cK _ 1),nA];rfl;have C:=Z.length_eq;rw[aO]at C;have out:∀j,j<fo P\/fo P+(fo U+fo V)<=j->rkAt rk (arrOf G) j=rkAt rk (arrOf z) j:=λj v=>Yg (by rw[<- cf,<- cf,J,e3];rcases v with v|v;rw[cy v,cy v];rw[bp (by lia),bp (by lia),bp (by lia),bp (by simp;lia),aO,C]);have pl:nK (pendingOf G)=l++(fo P,fo U+fo V,pw)::r:=by rw[pe];subst Y;rw[Array.toList_eraseIdxIfInBounds,Array.toList_setIfInBounds,u];exact zh0 l r
 refine h G ⟨?_,ky,fy,?_,ls,?_⟩ ?_ λj v=>out j (sr (by lia));refine Array.Perm.trans ?_ R.pm;rw[fT,J,e3];exact(Z.append_right S).append_left P;rw[pl];refine Vq.mpr ⟨_,s1,rfl,Nat.add_pos_left N _,?_⟩;show Side r (fo P+(fo U+fo V)) lo;rw[<- u7];exact I;rw[pl];intro q hq;rcases au.mp hq with m|m;exact(up q (by simp[m])).same λj j1 j2=>out j (dY (by have:=t3.2 q m;lia));rcases ay.mp m with rfl|m;exact C▸(Us J rfl rfl).mpr rT;exact(up q (by simp[m])).same λj j1 j2=>out j (sr (by have:=t2 q m;lia));rw[<- bN,<- bN,pl,u];simp;lia
theorem zpe{z:br}{Q:Unit->br->Prop}(c:Cmp prog w A s kd rk a0)(b:Sb kd a0 z)(s2:2<=be a0)
  (h:∀y,(arrOf y).Perm a0->failedOf y=bj->Up rk (arrOf y) a0.size->Q () y):wpS (model prog w) A E s sortRuns' Q z:=by
 refine bY (lL ?_)
 extract_lets n mr
 have en:n=be a0:=b.sz;clear_value mr n;subst en;refine Qx (cR _) (λx lo y=>Rn rk kd a0 lo y/\x<=lo) (λlo y=>Rn rk kd a0 lo y/\be a0<=lo) (λ_ _=>False) ⟨⟨b.pm,b.kn,b.fl,by rw[b.pe];rfl,cR _,by rw[b.pe];intro q G;simp at G⟩,cR _⟩ (λx _ hx lo y ⟨R,hl⟩=>?_) (λ_ _ I=>I) (λlo y ⟨R,hl⟩=>?_) λ_ _ _ h=>e9 h;dsimp(zeta:=dy) only;refine Jm (λg=>aN (.stop ⟨R,g⟩)) λg=>?_;have g:lo<be a0:=pK.mp g;refine bY (zrN (z0:=y) (lo:=lo) c (by lia) (by lia) ⟨R.pm,R.kn,R.fl,rfl,λ_ _=>rfl⟩ λk C S1 k1 k2 u1=>?_);dsimp(zeta:=dy) only
 extract_lets k' jp f
 have J:∀n C,1<=n->lo+n<=be a0->Sl rk kd a0 y lo C->UpL rk (arrOf C) lo n->wpS (model prog w) A E s (jp () n) (Tn (λlo y=>Rn rk kd a0 lo y/\x+1<=lo) (λlo y=>Rn rk kd a0 lo y/\be a0<=lo) λ_ _=>False) C:=λn C n1 n2 S u=>by
  refine bY (lL ?_)
  extract_lets _ jp2
  have R1:Rn rk kd a0 lo C:=⟨S.pm,S.kn,S.fl,S.pe▸R.sd,R.ls,λq G=>(R.up q (S.pe▸G)).same λj j1 j2=>S.lw j (by have:=(Vf R.sd).2 q (S.pe▸G);lia)⟩;have J:∀l,Rn rk kd a0 lo l->UpL rk (arrOf l) lo n->wpS (model prog w) A E s (jp2 ⟨⟩) (Tn (λlo y=>Rn rk kd a0 lo y/\x+1<=lo) (λlo y=>Rn rk kd a0 lo y/\be a0<=lo) λ_ _=>False) l:=λl R u=>by have e:nK (pendingOf (setPending l ((pendingOf l).push (lo,n,0))))=nK (pendingOf l)++[(lo,n,0)]:=mQ;refine bY (nR (aN (.go ⟨⟨R.pm,R.kn,R.fl,e▸Vq.mpr ⟨lo,R.sd,rfl,n1,rfl⟩,n2,?_⟩,by lia⟩)));intro q G;rcases au.mp (e▸G:q∈nK (pendingOf l)++[(lo,n,0)]) with m|m;exact R.up q m;cases av.mp m;exact u
  clear_value jp2;cases hb:(pendingOf C).back? with
  | none=>exact J C R1 u
  | some q =>
   dsimp(zeta:=dy) only
   extract_lets pw
   clear_value pw;refine Qx (cR _) (λ_ _ v=>Rn rk kd a0 lo v/\UpL rk (arrOf v) lo n) (λ_ v=>Rn rk kd a0 lo v/\UpL rk (arrOf v) lo n) (λ_ _=>False) ⟨R1,u⟩ (λ_ _ _ _ v I=>?_) (λ_ _ I=>I) (λ_ v ⟨R,u⟩=>?_) λ_ _ _ h=>e9 h;refine bY (lL ?_);dsimp only;cases e:(if be (pendingOf v) > 1 then(pendingOf v)[be (pendingOf v) - 2]? else bj) with
   | none=>exact aN (.stop I)
   | some o =>refine Jm (λ_=>aN (.stop I)) λ_=>bY (zq_ c I.1 ?_ λy' Y _ out=>aN (.go ⟨Y,I.2.same λj j1 _=>out j j1⟩));by_cases g:be (pendingOf v) > 1;lia;rw[if_neg g]at e;cases e
   have m:=zkd (f:=λx=>(x.1,x.2.1,pw)) (λq=>⟨rfl,rfl⟩) (i:=be (pendingOf v) - 1) R.sd;refine bY (nR (J _ ⟨R.pm,R.kn,R.fl,?_,R.ls,?_⟩ u));show Side (nK ((pendingOf v).modify _ _)) 0 lo;rw[o4];exact m.1;show ∀q∈nK ((pendingOf v).modify _ _),UpL rk (arrOf v) q.1 q.2.1;rw[o4];intro q G;obtain⟨q',m',Z,N⟩:=m.2 q G;rw[Z,N];exact R.up q' m'
 clear_value jp;refine Jm (λg=>?_) λ_=>J k C k1 (by lia) S1 u1;exact bY (ny (dG ⟨rfl,bY (ztA c (n:=f) (by lia) (by lia) (by lia) S1 u1 λl S2 u2=>J f l (by lia) (by lia) S2 u2)⟩));have el:lo=be a0:=iM R.ls hl;subst el;dsimp only;have p0:=(Vf R.sd).1;rw[bN,fM]at p0;refine Qx (cR _) (λx _ v=>Rn rk kd a0 a0.size v/\(be (pendingOf v)<=1\/be (pendingOf v)+x<=be a0)) (λ_ v=>Rn rk kd a0 a0.size v/\be (pendingOf v)<=1) (λ_ _=>False) ⟨R,sr p0⟩ (λx _ hx _ v ⟨R,sz⟩=>?_) (λ_ v I=>⟨I.1,by lia⟩) (λ_ v ⟨R,sz⟩=>aN (h v R.pm R.fl ?_)) λ_ _ _ h=>e9 h;refine bY (lL ?_);refine Jm (λg=>aN (.stop ⟨R,g⟩)) λg=>bY (zq_ c R ?_ λy' Y e _=>aN (.go ⟨Y,sr (by lia)⟩));have U:∀(p:Prop) [Decidable p] (a b n:Nat),a<=n->b<=n->(if p then a else b)<=n:=by intros;split <;> assumption
 exact fe (dH (U _ _ _ (be (pendingOf v) - 2) (kM _ _) (aC _)) 1) (by lia);have sd:=R.sd;have up:=R.up;rw[<- bN]at sz;generalize nK (pendingOf v)=L at sd up sz;match L,sd,up,sz with
 | [],sd,_,_ =>have:(0:Nat)=be a0:=sd;lia
 | [q],sd,up,_ =>obtain⟨Z,_,N⟩:=sd;have N:0+q.2.1=be a0:=N;have u:=up q (by simp);intro i j h1 h2;have:=u i j h1 (by lia);rw[Z]at this;simpa using this
 | _::_::_,_,_,sz=>simp at sz
end
def SrtL{α:Type}(f:α->Int)(l:List α):Prop:=fo l<100000
theorem zjj{α:Type}{f:α->Int}{l:List α}(h:fo l<100000):SrtL f l:=h
theorem V8{α:Type}{f:α->Int}{l:List α}(h:SrtL f l):fo l<100000:=h
theorem zo3{α o:Type}{f:α->Int}{g:o->Int}{l:List α}{m:List o}(h:SrtL f l)(e:l.map f=m.map g):SrtL g m:=by
 have u:fo l=fo m:=by simpa using congrArg fo e
 show fo m<_;rw[<- u];exact h
theorem zpd{prog:aK}{w:aV}{A:bw}{E:qV}{s:ax}{u:fG}{rk:ah->Int}{o:List ah}{z:br}{Q:Unit->br->Prop}(c:Cmp prog w A s u rk (pairsOf o))(b:Sb u (pairsOf o) z)(v:arrOf z=pairsOf o)(s2:2<=be (pairsOf o))(l:SrtL rk o)
  (h:∀y,(arrOf y).Perm (pairsOf o)->failedOf y=bj->Up rk (arrOf y) (pairsOf o).size->Q () y):wpS (model prog w) A E s sortRuns' Q z:=zpe c b s2 h
def midH(h:bq)(a:ai)(l:List ah):bq:=ee (ee (h.update a (ic λ_=>#[])) (seqObj "tuple" (bm l) 0)) (seqObj "list" #[] 0)
section
variable{prog:aK}{w:aV}{A:bw}{E:qV}{s:ax}{rk:ah->Int}
def Kinds(prog:aK)(w:aV)(A:bw)(s:ax)(rk:ah->Int)(l:List ah):Prop:=2<=fo l->∃o,(∀(E:qV) (Q:fG->ax->Prop),Q o s->wpAny (model prog w) A (keyKind' (bm l)) Q E s)/\Cmp prog w A s o rk (pairsOf l)
theorem zpR{a:ai}{l:List ah}{n:Nat}{P:Fin->ax->Prop}(v:bi s.heap a=ao (seqObj "list" (bm l) n)) (u:SrtL rk l) (Y:Kinds prog w A { s with heap:=midH s.heap a l } rk l)
  (h:∀y:br,(arrOf y).Perm (pairsOf l)->Up rk (arrOf y) (fo l)->P (.done (jA kJ)) { s with heap:=sortedHeap s.heap a l ((arrOf y).map (·.2)) }) :
  wpAny (model prog w) A (fw.«list.sort» ⟨[bQ a],[]⟩) P E s:=by
 have hz:fo l<100000:=V8 u;rw[list_sort_plain];have la:a<be s.heap.objs:=aE v;refine ae (ig v rfl (ae (pF v rfl ?_)));obtain⟨x,L⟩:∃x,bi (s.heap.update a (ic λ_=>#[])) a=ao (seqObj "list" #[] x):=⟨_,sX v (λ_=>#[])⟩;refine ae (seqEpoch_at L rfl (ae (t8 (ae (m6 (cu ?_))))));have J:bi (midH s.heap a l) a=ao (seqObj "list" #[] x):=by unfold midH;rw[fB _ _ _ (by rw[mD,ik];exact aW (aI la (mS _))),fB _ _ _ (by rw[ik];exact aW la)];exact L
 show wpAny (model prog w) A _ P E { s with heap:=midH s.heap a l };have z:be l.toArray=fo l:=by simp
 have tail:∀(y:br),(arrOf y).Perm (pairsOf l)->failedOf y=bj->Up rk (arrOf y) (fo l)->wpAny (model prog w) A (do
   let touched:=(<- seqEpoch a) != x
   vE (bQ a) λ_=>(arrOf y).map (·.2)
   if let ao e:=failedOf y then rule "list.sort.comparison-raised";throw e
   if touched then rule "list.sort.modified";raiseError "ValueError" "list modified during sort"
   ret kJ) P E { s with heap:=midH s.heap a l }:=λy pm fl up=>by
  refine ae (seqEpoch_at J rfl (ae (pF J rfl ?_ (hsz2:=?_))));rw[fl];simp only[bne_self_eq_false,bz,if_false];exact ak (h y pm up);rw[Array.size_map,pm.size_eq,rm];show fo l<=sizeLine+1;have:=V8 u;have:100000<=sizeLine:=by decide
  omega
 by_cases two:fo l<2;simp only[z,two,if_true];refine ae (ak ?_);rw[StateT.run_pure];refine ae (ak ?_);exact tail (y8 general' (l.toArray.zip (bm l)) #[] 7 bj) (sY _) rfl λi j Z S=>absurd S (by omega);simp only[z,two,if_false];obtain⟨U,R,N⟩:=Y (by omega);refine ae (R _ _ ?_);refine ae (c8 (zpd (Q:=λ_ y=>(arrOf y).Perm (pairsOf l)/\failedOf y=bj/\Up rk (arrOf y) (fo l)) (z:=y8 U (l.toArray.zip (bm l)) #[] 7 bj) N ⟨sY _,rfl,rfl,rfl⟩ rfl (by rw[rm];omega) u
  λy C G I=>⟨C,G,by rwa [rm]at I⟩) ?_ λ_ _ e=>e)
 rintro⟨⟨⟩,y⟩ s' ⟨rfl,C,G,I⟩;exact tail y C G I
theorem zjZ{l:ai}{v:List ah}{o:Obj}{T:String}{n:Nat}{Q:List ah->ax->Prop}(G:bi s.heap l=ao o)(hc:jo o=bU T)(I:T = "list" \/ T = "tuple") (hd:io o=im (bm v) n) (R:fo v<=sizeLine)
  (h:Q v { s with heap:=(ee s.heap (seqObj "list" #[] 0)).update s.heap.objs.size (ic (·++bm v)) }):wpAny (model prog w) A (collect (bQ l)) Q E s:=by
 unfold collect;refine ae (wpAny_runValue (fE entry_proto_collect' ?_));show wpAny (model prog w) _ (newList [] >>= λx=>again (jD "list.__iadd__" ⟨[x,bQ l],[]⟩)) _ _ s;refine ae (m6 (ak ⟨iT _ (by decide +kernel),fE entry_list_iadd' ?_⟩));show wpAny (model prog w) _ (lO (bQ s.heap.objs.size) (bQ l) (bQ s.heap.objs.size)) _ _ { s with heap:=ee s.heap (seqObj "list" #[] 0) };unfold lO;have C:bi (ee s.heap (seqObj "list" #[] 0)) l=ao o:=aj _ G;refine ae (fK (T:=T) ⟨o,C,hc⟩ ?_);have cond:∀b:Bool,(b||bU T == bU "list" ||bU T == bU "tuple")=du:=by intro b;have N:(bU "list" == bU "list")=du:=rfl;have J:(bU "tuple" == bU "tuple")=du:=rfl;rcases I with rfl|rfl;rw[N];simp;rw[J];simp
 rw[if_pos (cond _)];refine ae (ig C hd (ae (ig (xs:=#[]) (n:=0) (aB _ rfl) rfl ?_)));rw[if_neg (by simp)];refine ae (pF (xs:=#[]) (n:=0) (aB _ rfl) rfl (ak ?_) (cR _) (by simp only[Array.size_append,aD,dh];omega));refine ae (m:=load s.heap.objs.size) (tN (sX (aB _ rfl) _) ?_);show wpAny (model prog w) A (pure (nK ((#[]:Array ah)++bm v))) Q E _;have e:nK ((#[]:Array ah)++bm v)=v:=by simp
 rw[e];exact ak h
end
section
variable{prog:aK}{w:aV}{A:bw}{E:qV}{s:ax}
theorem znw(b:Bool)(x y:ah):keyLt' (tuples' b) x y=(do
  let xs <- kg x;let ys <- kg y
  for ((p,q),i) in (xs.toList.zip (nK ys)).zipIdx do
   if !(<- eqBool p q) then return <- oneLt' (b&&i == 0) p q
  return decide (be xs<be ys)):=rfl
def LtAt(prog:aK)(w:aV)(A:bw)(s:ax)(one:Bool)(p q:ah)(l:Bool):Prop:=∀(E:qV) (Q:Bool->ax->Prop),Q l s->wpAny (model prog w) A (oneLt' one p q) Q E s
theorem ziI{b:Bool}{x y:ai}{U R:Obj}{v u l C:ah}{n m:Nat}{G J S N:Bool}{Q:Bool->ax->Prop}(hx:bi s.heap x=ao U)(Y:io U=im #[v,u] n)(hy:bi s.heap y=ao R)(Z:io R=im #[l,C] m)
  (e0:pI A s v l G) (e1:pI A s u C J) (t0:G=dy->LtAt prog w A s b v l S) (t1:J=dy->LtAt prog w A s dy u C N) (h:Q (if G=du then(if J=du then dy else N) else S) s) :
  wpAny (model prog w) A (keyLt' (tuples' b) (bQ x) (bQ y)) Q E s:=by
 rw[znw];refine ae (ig hx Y (ae (ig hy Z ?_)));have ez:((#[v,u]:Array ah).toList.zip (nK (#[l,C]:Array ah))).zipIdx=[((v,l),0),((u,C),1)]:=rfl;simp only[ez,lh,i8];refine ae (ae ?_);refine ae (e0 prog w E _ ?_);cases G with
 | false =>
  simp only[fU,if_true];have z0:(b&&(0:Nat) == 0)=b:=by simp
  rw[z0];refine ae (t0 rfl E _ ?_);exact ak (ak (ak (by simpa using h)))
 | true =>
  simp only[g6,bz,if_false];refine ak (ae (ae (e1 prog w E _ ?_)));cases J with
  | false =>
   simp only[fU,if_true];have z1:(b&&(1:Nat) == 0)=dy:=by simp
   rw[z1];refine ae (t1 rfl E _ ?_);exact ak (ak (ak (by simpa using h)))
  | true =>simp only[g6,bz,if_false];exact ak (ak (ak (by simpa using h)))
theorem znl(a b:Int)(t u:Tok):LtAt prog w A s du (rL a t) (rL b u) (decide (a<b)):=λ_ _ q=>oneLt_int q
theorem zpQ(a b:Int)(t u:Tok):LtAt prog w A s dy (rL a t) (rL b u) (decide (a<b)):=λE Q q=>by rw[vF];simp only[bz,if_false];refine ae (show wpAny (model prog w) A (compareOp .Lt (rL a t) (rL b u)) _ E s from lt_int ?_);exact cg q
def PrIn(h:bq)(u:ah)(b k:Int):Prop:=∃(a:ai) (o:Obj) (t t':Tok) (n:Nat),u=bQ a/\bi h a=ao o/\jo o=bU "tuple" /\ io o=im #[rL b t,rL k t'] n
def two?:List ah->Int
 | [rL b _,rL k _]=>b*1000+k
 | _=>0
def rkC(h:bq)(u:ah):Int:=match u with
 | bQ a=>match bi h a with
  | some o=>match io o with
   | im xs _=>two? (nK xs)
   | _=>0
  | none=>0
 | _=>0
theorem PrIn.rk{h:bq}{u:ah}{b k:Int}(p:PrIn h u b k):rkC h u=b*1000+k:=by obtain⟨a,o,t,t',n,rfl,l,_,v⟩:=p;unfold rkC;dsimp only;rw[l];dsimp only;rw[v];rfl
theorem PrIn.kept{h h':bq}{u:ah}{b k:Int}(p:PrIn h u b k)(kp:∀b o,bi h b=ao o->bi h' b=ao o):PrIn h' u b k:=by obtain⟨a,o,t,t',n,l,v,x,C⟩:=p;exact⟨a,o,t,t',n,l,kp _ _ v,x,C⟩
theorem Vn{α u:Type}{f:α->Sem u}{P:α->u->Prop}{M:tJ}:∀(l:List α) {Q:List u->ax->Prop},(∀v∈l,∀(G:u->ax->Prop),(∀r,P v r->G r s)->wpAny M A (f v) G E s)->(∀rs,cA P l rs->Q rs s)->wpAny M A (l.mapM f) Q E s
 | [],_,_,h=>by rw[List.mapM_nil];exact ak (h _ ja)
 | x::l,Q,hf,h=>by rw[List.mapM_cons];exact ae (hf x (jc _) _ λr I=>ae (Vn l (λv J=>hf v (jk _ J)) λrs C=>ak (h _ (hH I C))))
theorem zkO(v:ah):firstOfTuple' v=(do
  if (<- typeOf v) != bU "tuple" then return bj
  return (<- kg v)[0]?):=rfl
theorem zlX{N:List ah}{Q:fG->ax->Prop}(Y:1<=fo N)(R:∀v∈N,∃b k,PrIn s.heap v b k)(h:Q (tuples' du) s):wpAny (model prog w) A (keyKind' (bm N)) Q E s:=by
 rw[keyKind'_eq,kh,map_eq_pure_bind];refine ae (ae (Vn (P:=λ_ r=>∃(b:Int) (t:Tok),r=ao (rL b t)) N (λv hv Q' hq=>?_) λrs J=>ak ?_));obtain⟨b,k,a,o,t,t',n,rfl,Z,e2,e3⟩:=R v hv;rw[zkO];refine ae (fK (T:="tuple") ⟨o,Z,e2⟩ ?_);rw[if_neg (by decide)];exact ae (ig Z e3 (ak (hq _ ⟨b,t,rfl⟩)));have al:∀r∈rs,∃(b:Int) (t:Tok),r=ao (rL b t):=by
  clear h R Y;induction J with
  | nil=>intro r u;cases u
  | cons x y G =>intro r u;rcases ay.mp u with rfl|u;exact x;exact G r u
 have ln:fo rs=fo N:=by
  clear h R Y al;induction J with
  | nil=>rfl
  | cons x y G=>simp[G]
 have Mk:(rs.toArray.all λx=>f6 x)=du:=by simp only[kN,bM];intro x hx;obtain⟨b,t,rfl⟩:=al x hx;rfl
 rw[if_pos Mk];refine ae (dG ?_);rw[sZ];have L:rs.toArray.filterMap id=bm (rs.filterMap id):=by simp
 rw[L,kh,map_eq_pure_bind];refine ae (ae (ae (Vn (P:=λ_ r=>r=bU "int") _ (λv hv Q' hq=>?_) λts C=>ak ?_)));obtain⟨x,hx,e⟩:=iO.mp hv;obtain⟨b,t,rfl⟩:=al x hx;cases e;exact ak (hq _ rfl);have I:∀r∈ts,r=bU "int":=by
  clear h R Y;generalize rs.filterMap id=l at C;induction C with
  | nil=>intro r u;cases u
  | cons x y G =>intro r u;rcases ay.mp u with rfl|u;exact x;exact G r u
 have ln2:fo ts=fo rs:=by
  have:fo ts=fo (rs.filterMap id):=by
   clear h R Y I;generalize rs.filterMap id=l at C;induction C with
   | nil=>rfl
   | cons x y G=>simp[G]
  rw[this];clear this C L Mk;clear ln J;induction rs with
  | nil=>rfl
  | cons x l G =>obtain⟨b,t,rfl⟩:=al x (jc _);simp only[eT,id,aP];rw[G λr u=>al r (jk _ u)]
 obtain⟨U,S,rfl⟩:∃U S,ts=U::S:=by
  cases ts with
  | nil=>simp at ln2;omega
  | cons a b=>exact⟨a,b,rfl⟩
 have Z:U=bU "int":=I U (jc _);subst Z;have Mo:(((bU "int")::S).toArray.all λx=>x == bU "int")=du:=by simp only[kN,bM];intro x hx;rw[I x hx];rfl
 have h0:((bU "int")::S).toArray[0]?=ao (bU "int"):=by simp
 rw[h0];simp only[Mo,if_true];refine ak (ak ?_);exact h
theorem zjJ{l:List ah}{h0:bq}(G:∀v∈l,∃b k,PrIn s.heap v b k/\rkC h0 v=b*1000+k/\0<=k/\k<1000):Kinds prog w A s (rkC h0) l:=λh2=>by
 refine⟨tuples' du,λE Q q=>zlX (by omega) (λv Y=>?_) q,λp q E Q mp U h=>?_⟩;obtain⟨b,k,h,_⟩:=G v Y;exact⟨b,k,h⟩;have mem:∀z∈nK (pairsOf l),z.1∈l:=λz hz=>by
  have:z∈l.zip l:=by simpa[pairsOf] using hz
  exact(dZ this).1
 obtain⟨b,k,⟨a,o,t,t',n,e0,N,e2,e3⟩,J,k0,k1⟩:=G _ (mem p mp);obtain⟨x,C,⟨a',o',u,I,n',f0,f1,f2,f3⟩,R,S,Z⟩:=G _ (mem q U);rw[J,R]at h;rw[e0,f0];refine ziI N e3 f1 f3 (mj b t x u) (mj k t' C I) (λ_=>znl b x t u) (λ_=>zpQ k C t' I) ?_;have:(if (b == x)=du then(if (k == C)=du then dy else decide (k<C)) else decide (b<x))=decide (b*1000+k<x*1000+C):=by simp only[beq_iff_eq];split;split;symm;rw[decide_eq_false_iff_not];omega;rw[decide_eq_decide];omega;rw[decide_eq_decide];omega
 rw[this];exact h
end
theorem zg8{α u:Type}{l:List (α×u)}{m:List u}(h:m.Perm (l.map (·.2))):∃o:List (α×u),o.Perm l/\o.map (·.2)=m:=by
 induction m generalizing l with
 | nil =>
  have:l.map (·.2)=[]:=h.symm.eq_nil;cases l with
  | nil=>exact⟨[],t6 _,rfl⟩
  | cons a b=>simp at this
 | cons x m C =>
  have hx:x∈l.map (·.2):=h.mem_iff.mp (jc _);obtain⟨z,I,rfl⟩:=aA.mp hx;obtain⟨v,J,rfl⟩:=List.append_of_mem I;have G:(z.2::m).Perm (z.2::(v++J).map (·.2)):=by refine lu h ?_;simp only[dM,aU];exact rX
  obtain⟨o,p,e⟩:=C (List.perm_cons _|>.mp G);exact⟨z::o,lu (p.cons z) rX.symm,by simp[e]⟩
theorem WZ{α u:Type}{F:α->u->Prop}{l:List α}{o:List u}(r:cA F l o){b:u}(h:b∈o):∃a∈l,F a b:=by
 induction r with
 | nil=>cases h
 | cons f t v =>rcases ay.mp h with rfl|h;exact⟨_,cP,f⟩;obtain⟨b,hb,g⟩:=v h;exact⟨b,cC _ hb,g⟩
theorem zpg{α:Type}{P:α->ah->Prop}{rk:ah->Int}{f:α->Int}{u:List ah}{J:List α}{y:br}(hv:cA P J u)(hr:∀a v,P a v->rk v=f a)(pm:(arrOf y).Perm (pairsOf u))(up:Up rk (arrOf y) (fo u)) :
  ∃bs:List α,bs.Perm J/\bs.Pairwise (λa b=>f a<=f b)/\cA P bs (nK ((arrOf y).map (·.2))):=by
 have C:(arrOf y).toList.Perm (u.zip u):=by have:=fT.mp pm;simpa[pairsOf] using this
 have hl:fo J=fo u:=iA hv;have each:∀x∈J.zip u,P x.1 x.2:=by
  clear pm up C hl;induction hv with
  | nil=>intro x hx;simp at hx
  | cons h t ih =>intro x hx;rcases ay.mp (by simpa using hx) with rfl|hx;exact h;exact ih x hx
 have N:((arrOf y).toList.map (·.2)).Perm ((J.zip u).map (·.2)):=by refine(C.map _).trans ?_;rw[nC (aC _),nC (by lia)]
 obtain⟨G,Y,R⟩:=zg8 N;have Z:∀x∈G,P x.1 x.2:=λx hx=>each x (Y.mem_iff.mp hx);have Mt:∀z∈nK (arrOf y),z.1=z.2:=λz hz=>by have:z∈u.zip u:=C.mem_iff.mp hz;obtain⟨i,hi,rfl⟩:=bh this;simp
 have U:be (arrOf y)=fo u:=by have:=C.length_eq;simpa using this
 refine⟨G.map (·.1),?_,?_,?_⟩;have:=Y.map (·.1);rwa [rY (by lia)]at this;rw[dE,aJ];intro i j hi hj S;have lw:fo G=fo u:=by have:=congrArg fo R;simpa[U] using this
 have gw:∀k (hk:k<fo G),rkAt rk (arrOf y) k=f G[k].1:=λk hk=>by
  have I:k<be (arrOf y):=by lia
  have e1:(arrOf y).toList[k]'(by simpa using I)=(arrOf y)[k]:=by simp
  have e2:G[k].2=(arrOf y)[k].2:=by
   have:(G.map (·.2))[k]'(by simpa using hk)=((arrOf y).toList.map (·.2))[k]'(by simpa using I):=by simp only[R]
   simpa using this
  have e3:(arrOf y)[k].1=(arrOf y)[k].2:=Mt _ (by rw[<- e1];exact dO _);unfold rkAt;rw[mH I];simp only[gX,fc];rw[e3,<- e2];exact hr _ _ (Z _ (dO _))
 have:=up i j S (by lia);rwa [gw i hi,gw j hj]at this;rw[Array.toList_map,<- R];clear Y R N pm up;induction G with
 | nil=>exact ja
 | cons a l ih=>exact hH (Z a (jc _)) (ih λx hx=>Z x (jk _ hx))
section
variable{prog:aK}{w:aV}{A:bw}{E:qV}{s:ax}{rk:ah->Int}
theorem zjG{h:bq}{u:List ah}{b:ai}{o:Obj}(hb:bi h b=ao o):bi (midH (ee h (seqObj "list" (bm u) 0)) h.objs.size u) b=ao o:=by have l:b<be h.objs:=aE hb;unfold midH;rw[fB _ _ _ (by rw[mD,ik,mD];lia),fB _ _ _ (by rw[ik,mD];lia),o5 _ _ _ _ (aW l),fB _ _ _ (aW l)];exact hb
theorem zmn{l:List ah}{P:qV}(u:SrtL rk l)(I:Kinds prog w A { s with heap:=midH (ee s.heap (seqObj "list" (bm l) 0)) s.heap.objs.size l } rk l)
  (h:∀h' (y:br) (e:Nat),(∀b o,bi s.heap b=ao o->bi h' b=ao o)->(arrOf y).Perm (pairsOf l)->Up rk (arrOf y) (fo l)->bi h' s.heap.objs.size=ao (seqObj "list" ((arrOf y).map (·.2)) e)->P kJ { s with heap:=h' }) :
  wpAny (model prog w) A (fw.«list.sort» ⟨[bQ s.heap.objs.size],[]⟩) (λf s'=>∃v,f=.done (jA v)/\P v s') E { s with heap:=ee s.heap (seqObj "list" (bm l) 0) }:=by
 have x:bi (ee s.heap (seqObj "list" (bm l) 0)) s.heap.objs.size=ao (seqObj "list" (bm l) 0):=aB _ rfl;refine zpR (s:={ s with heap:=ee s.heap (seqObj "list" (bm l) 0) }) x u I λy C G=>⟨_,rfl,?_⟩;obtain⟨e,he⟩:=sortedHeap_at (out:=(arrOf y).map (·.2)) x;refine h _ y e (λb o hb=>?_) C G he;have lt:=aE hb;rw[sortedHeap_old (aW lt) (by rw[mD];exact rA lt),fB _ _ _ (aW lt)];exact hb
end
section
variable{prog:aK}{w:aV}{A:bw}{E:qV}{s:ax}{rk:bq->ah->Int}
theorem zjk{x:ah}{C:bq->Nat->List ah->Prop}{Q:qV}(G:∀(L:bw) (E':qV) (R:List ah->ax->Prop),L.handled=A.handled->(∀h' tk d v,C h' tk v->R v { s with heap:=h',toks:=tk,drawn:=d })->wpAny (model prog w) L (collect x) R E' s)
  (N:∀h' tk v,C h' tk v->SrtL (rk h') v)
  (Z:∀h' tk d v (L:bw),C h' tk v->L.units<=A.units+16->Kinds prog w L { s with heap:=midH (ee h' (seqObj "list" (bm v) 0)) h'.objs.size v,toks:=tk,drawn:=d } (rk h') v)
  (h:∀h' tk d v I (y:br) (e:Nat),C h' tk v->(∀b o,bi h' b=ao o->bi I b=ao o)->(arrOf y).Perm (pairsOf v)->Up (rk h') (arrOf y) (fo v)->bi I h'.objs.size=ao (seqObj "list" ((arrOf y).map (·.2)) e)->Q (bQ h'.objs.size) { s with heap:=I,toks:=tk,drawn:=d }) :
  wpAny (model prog w) A (call (dL "sorted") [x]) Q E s:=by
 have hs:100000<=sizeLine:=by decide
 refine Calls.call_function_entry kind_sorted plain_sorted entry_sorted (args_sorted1 _) ?_;unfold fw.«sorted»;refine ae (m:=checkCount "sorted" 1 1 _) (ak (ae (G _ _ _ rfl λh' tk d v c=>?_)));have J:=N h' tk v c;have lt:=V8 J;refine ae (m6 (hsz:=by show be v.toArray<=_;rw[aD];lia) ?_);have S:bi (ee h' (seqObj "list" (bm v) 0)) h'.objs.size=ao (seqObj "list" (bm v) 0):=aB _ rfl;refine ae (cu (eG slot_list_sort ⟨_,S,rfl⟩ entry_list_sort ?_ (args_list_sort _)));refine zmn (s:={ s with heap:=h',toks:=tk,drawn:=d }) J (Z h' tk d v _ c (by show A.units+1+1<=_;lia)) λI y e kp U Y he=>?_;exact ak ⟨_,rfl,h h' tk d v I y e c kp U Y he⟩
end
section
variable{X:Cx}
theorem zrG{pins:qO}{σ:St}{H:Hp}{s:ax}{q:ai}{b k:Int}(I:Inv X pins σ H s)(h:SqT X.K H q [.int b,.int k]):PrIn s.heap (bQ q) b k:=by
 obtain⟨is,rs,⟨o,f1,f2,n,u⟩,_⟩:=I.tuple h;cases rs with
 | cons a1 a2 =>
  cases a2 with
  | cons v l =>cases l;obtain⟨t,rfl⟩:=a1;obtain⟨t',rfl⟩:=v;exact⟨q,o,t,t',n,rfl,f1,f2,u⟩
theorem Rep.bkI{K:qF}{hd:Option ai}{O:ai->Prop}{H:Hp}{v:V}{a b:Int}(h:Rep K hd O H v (lV [bu a,bu b])):∃q,v=.ref q/\SqT K H q [.int a,.int b]:=by
 obtain⟨q,I,rfl,sq,G⟩:=h.tupI;cases G with
 | cons o x =>
  cases x with
  | cons C x4 =>cases x4;rw[o.intI,C.intI]at sq;exact⟨q,rfl,sq⟩
theorem Inv.drw{X:Cx}{pins:qO}{σ:St}{H:Hp}{s:ax}(I:Inv X pins σ H s)(d:_):Inv X pins σ H { s with drawn:=d }:=⟨I.ok,I.os,I.bare,I.base,I.loc,I.cell,I.free,I.freeC,I.pin,I.hok,I.len⟩
def SrtW(X:Cx)(ts:qD)(R:qD->Prop):Prop:=∃(α:Type) (D:α->af) (P:bq->ah->α->Prop) (f:α->Int) (rk:bq->ah->Int) (x:List α),ts=x.map D/\SrtL f x /\
 (∀{pins σ H s hd O v u a},a∈x->Inv X pins σ H s->Rep X.K hd O H v (D a)->RelV v u->P s.heap u a)/\(∀{h h' u a},P h u a->(∀b o,bi h b=ao o->bi h' b=ao o)->P h' u a/\rk h u=f a) /\
 (∀{A s h0 vs},A.units<cLine->(∀u∈vs,∃a∈x,P s.heap u a/\rk h0 u=f a)->Kinds X.prog X.w A s (rk h0) vs) /\
 ∀l:List α,l.Perm x->l.Pairwise (λa b=>f a<=f b)->R (l.map D)
theorem zi8(hu:X.A.units+64<cLine):JX X (dL "sorted") (λxs H Q=>∃(p:ai) (G:List V) (ts:qD) (hd:Option ai) (O:ai->Prop),xs=[.ref p]/\(SqL X.K H p G\/SqT X.K H p G)/\Reps X.K hd O H G ts /\
  SrtW X ts λts'=>∀N l,Reps X.K hd O H N ts'->H l=bj->Q (.ref l) (upd H l (.lst N))):=by
 intro pins s σ H xs us Q I r h;obtain⟨p,G,ts,hd,O,rfl,J,rp,α,D,P,f,rk,U,rfl,S,tell,kept,kin,q⟩:=h;obtain⟨u,rfl,rx⟩:=vals1 r;cases rx;have hs:100000<=sizeLine:=by decide
 have lt:=V8 S;have lv:fo G=fo U:=by simpa using rp.length
 have key:∀(its:List ah) (o:Obj) (T:String) (n:Nat),Vals G its->bi s.heap p=ao o->jo o=bU T->(T = "list" \/ T = "tuple")->io o=im (bm its) n ->
   wpAny (model X.prog X.w) X.A (call (dL "sorted") [bQ p]) (EP X pins σ Q) X.xe s:=λits o T n rv R hc hT hd'=>by
  have li:=rv.length;have go:∀h':bq,(∀b o,bi s.heap b=ao o->bi h' b=ao o)->cA (λ(z:V×α) (u:ah)=>RelV z.1 u/\Rep X.K hd O H z.1 (D z.2)/\P h' u z.2) (G.zip U) its/\U.map f=its.map (rk h'):=λh' kp=>by
   have go:∀(bs:List α) (G:List V) (its:List ah),(∀b∈bs,b∈U)->Reps X.K hd O H G (bs.map D)->Vals G its->cA (λ(z:V×α) (u:ah)=>RelV z.1 u/\Rep X.K hd O H z.1 (D z.2)/\P h' u z.2) (G.zip bs) its/\bs.map f=its.map (rk h'):=by
    intro bs;induction bs with
    | nil=>intro G its _ r v;cases r;cases v;exact⟨ja,rfl⟩
    | cons b bs Y =>
     intro G its hb r v;cases r with
     | cons r1 r2 =>
      cases v with
      | cons v1 v2 =>obtain⟨i1,i2⟩:=Y _ _ (λc hc=>hb c (jk _ hc)) r2 v2;have p:=(kept (tell (hb b (jc _)) I r1 v1) kp).1;exact⟨hH ⟨v1,r1,p⟩ i1,by rw[aU,aU,i2,(kept p λ_ _ e=>e).2]⟩
   exact go U G its (λ_ h=>h) rp rv
  refine zjk (A:=X.A) (x:=bQ p) (rk:=rk) (C:=λh' tk Z=>Z=its/\(∀b o,bi s.heap b=ao o->bi h' b=ao o)/\be s.heap.objs<=be h'.objs) ?_ ?_ ?_ ?_;intro A' E' Q' hA J;refine zjZ R hc hT hd' (by lia) ?_;have hq':=J ((ee s.heap (seqObj "list" #[] 0)).update s.heap.objs.size (ic (·++bm its))) s.toks (jB s) its ⟨rfl,λb ob hb=>?_,?_⟩;exact hq';rw[o5 _ _ _ _ (aW (aE hb))];exact aj _ hb;rw[ik,mD];exact mS _;rintro h' tk Z ⟨rfl,kp,_⟩;exact zo3 S (go h' kp).2;rintro h' tk d Z A' ⟨rfl,kp,_⟩ hA';refine kin (by lia) λu hu=>?_;obtain⟨x,mx,_,_,p⟩:=WZ (go h' kp).1 hu;exact⟨x.2,(dZ mx).2,(kept p λb o e=>zjG e).1,(kept p λ_ _ e=>e).2⟩;rintro h' tk d Z h2 y e ⟨rfl,kp,sz⟩ kp2 pm up he;obtain⟨zs,p1,p2,p3⟩:=zpg (f:=λx=>f x.2) (go h' kp).1 (λx u hx=>(kept hx.2.2 λ_ _ e=>e).2) pm up;obtain⟨rv',rp'⟩:Vals (zs.map (·.1)) (nK ((arrOf y).map (·.2)))/\Reps X.K hd O H (zs.map (·.1)) ((zs.map (·.2)).map D):=by
   clear p1 p2 he;generalize nK ((arrOf y).map (·.2))=out at p3;induction p3 with
   | nil=>exact⟨ja,.nil⟩
   | cons h _ Y=>exact⟨hH h.1 Y.1,.cons h.2.1 Y.2⟩
  refine⟨.ref h'.objs.size,_,((I.laid (a:=be h'.objs) (o:=.lst (zs.map (·.1))) (t':=tk) (λb o hb=>kp2 b o (kp b o hb)) sz ⟨?_,_,e,rv',by rw[he]⟩).drw d),rfl,q (zs.map (·.2)) ?_ (by rw[dE];exact p2) _ _ rp' (I.hok.fresh sz)⟩;have:=p1.length_eq;rw[aG];simp at this;lia;have:=p1.map (·.2);rwa [nC (by lia)]at this
 rcases J with J|J;obtain⟨its,r',pl,hz⟩:=I.list J;obtain⟨o,R,hc,n,hd⟩:=pl.isList;exact key its o "list" n r' R hc (dY rfl) hd;obtain⟨its,r',pl,hz⟩:=I.tuple J;obtain⟨o,R,hc,n,hd⟩:=pl;exact key its o "tuple" n r' R hc (sr rfl) hd
theorem zeB{e:bg}{d:DTE}{pos p:Pos}{k:Nat}{L:af->(qD->Prop)->Prop}(hL:∀t R,L t R->J0 t λts=>SrtW X ts R)(hr:Room k X.A)(hm:X.mg "sorted" = bj) (h:DL X e d) (hs:starEach [e] X.env=[(dy,eval e X.env)]) (hg:Gl X "sorted") :
  DN X (f9 (bv "sorted" p) [e] [] pos) (λU n R=>d U n λt Y=>L t λts=>R ts Y):=by
 obtain⟨ta,pa,h⟩:=h;refine⟨_,V2 (zi8 (by have:=hr.un;lia)) hm boot_sorted (QN pa Ua hs) hg,λC U σ H n Q R S hd hq=>?_⟩;refine h C U σ H n _ _ S hd λt Y v x r1 e1 h1 q1=>?_;have r2:=hL t _ r1;have go:∀(p:ai) u ts,(SqL X.K x p u\/SqT X.K x p u)->Reps X.K C.hd (Own C U σ) x u ts->(SrtW X ts λts=>R ts Y)->∃(p':ai) (u:List V) (ts:qD) (hd:Option ai) (O:ai->Prop),[V.ref p]=[V.ref p']/\(SqL X.K x p' u\/SqT X.K x p' u)/\Reps X.K hd O x u ts /\
   SrtW X ts λts'=>∀G l,Reps X.K hd O x G ts'->x l=bj->Q (.ref l) (upd x l (.lst G)):=λp u ts Z rp h=>by
  obtain⟨α,D,P,f,rk,as,e,h64,tell,kept,kin,q⟩:=h;exact⟨p,u,ts,C.hd,Own C U σ,rfl,Z,rp,α,D,P,f,rk,as,e,h64,tell,kept,kin,λas' pm pw G l rp' J=>hq _ Y l G _ (q as' pm pw) (e1.trans (ExtE.new J)) (h1.same (Qf J)) (Vh e1 h1 J) J1
   (rp'.mono (λb o hb z=>h7 z id λz=>by subst z;rw[J]at hb;cases hb) λb o _ hb=>Qf J b o hb)⟩
 cases t with
 | list ts =>obtain⟨p,u,rfl,I,h2⟩:=q1.lstI;exact go p u ts (dY (.of I)) h2 r2
 | tuple ts =>obtain⟨p,u,rfl,I,h2⟩:=q1.tupI;exact go p u ts (sr I) h2 r2
 | _=>exact e9 r2
end
def rkD:af->Int
 | lV [bu b,bu k]=>b*1000+k
 | _=>0
def IsPr(t:af):Prop:=∃b k:Int,t=lV [bu b,bu k]/\0<=k/\k<1000
def Yu(t:af)(R:qD->Prop):Prop:=J0 t λts=>SrtL rkD ts/\(∀x∈ts,IsPr x)/\∀l:List af,l.Perm ts->l.Pairwise (λa b=>rkD a<=rkD b)->R l
def ztp(d:DTE):DTA:=λo n R=>d o n λt l=>Yu t λts=>R ts l
theorem zfv{t:af}{R l:qD->Prop}(h:∀ts,R ts->l ts)(x:J0 t R):J0 t l:=by
 cases t with
 | list ts=>exact h _ x
 | tuple ts=>exact h _ x
 | _=>exact x
theorem zfN{X:Cx}{e:bg}{d:DTE}{pos p:Pos}{k:Nat}(S:Room k X.A)(hm:X.mg "sorted" = bj) (h:DL X e d) (hs:starEach [e] X.env=[(dy,eval e X.env)]) (hg:Gl X "sorted":=by rfl):DN X (f9 (bv "sorted" p) [e] [] pos) (ztp d) :=
 zeB (L:=Yu) (λt R=>zfv λts ⟨x,ok,q⟩=>⟨af,id,λh u t=>∃b k,t=lV [bu b,bu k]/\PrIn h u b k,rkD,rkC,ts,dv (oO ts),x,λ{_ _ _ _ _ _ v u a} ha I r rv=>by
  obtain⟨b,k,rfl,_⟩:=ok a ha;obtain⟨q,rfl,sq⟩:=Rep.bkI r;cases(show u=bQ q from rv);exact⟨b,k,rfl,zrG I sq⟩,λ⟨b,k,e,p⟩ kp=>⟨⟨b,k,e,p.kept kp⟩,by rw[p.rk,e];rfl⟩,λ_ G=>zjJ λv hv=>by
  obtain⟨a,U,⟨b,k,rfl,p⟩,e⟩:=G v hv;obtain⟨_,_,J,Z,Y⟩:=ok _ U;cases J;exact⟨b,k,p,e,Z,Y⟩,λo pm pw=>by rw[oO];exact q o pm pw⟩) S hm h hs hg
abbrev prD(b:Int×Int):af:=lV [bu b.1,bu b.2]
def pD(bs:qB):List af:=bs.map prD
theorem JA{bs:qB}:fo (pD bs)=fo bs:=by simp[pD]
theorem ZO{bs cs:qB}:pD bs++pD cs=pD (bs++cs):=by simp[pD]
theorem UV{i h:Int}{bs:qB}:pD bs++[lV [bu i,bu h]]=pD (bs++[(i,h)]):=by simp[pD]
theorem YV{bs:qB}{k:Nat}{t:af}(h:(pD bs)[k]?=ao t):∃i g:Int,bs[k]?=ao (i,g)/\t=lV [bu i,bu g]:=by
 unfold pD at h;rw[bK]at h;cases e:bs[k]? with
 | none=>rw[e]at h;cases h
 | some b=>rw[e]at h;cases h;exact⟨b.1,b.2,rfl,rfl⟩
def eB(b:Int×Int):Int:=b.1+2 ^ ap b.2
def Bks(bits:Int)(bs:qB):Prop:=∀b∈bs,IsBk bits b.1 b.2
def Ptc(bits:Int)(bs:qB):Prop:=Bks bits bs/\bs.Pairwise λa b=>eB a<=b.1
theorem Qd(b:Int×Int):b.1<eB b:=by have:=Bd.JE (ap b.2);unfold eB;lia
theorem Ptc.ends{bits:Int}{bs:qB}(P:Ptc bits bs):bs.Pairwise λa b=>eB a<=eB b:=P.2.imp λ{a b} h=>by have:=Qd b;lia
theorem zu5{bs:qB}:Okd (sJ (pD bs)):=by
 have:∀bs:List (Int×Int),bL (pD bs)=du/\cm (pD bs)<=1:=by
  intro bs;induction bs with
  | nil=>exact⟨by simp[pD,bL],by simp[pD,cm]⟩
  | cons b l o =>refine⟨?_,?_⟩;have:=o.1;simp only[pD,aU,bL,bX,iF,cD]at this ⊢;exact this;have:=o.2;simp only[pD,aU,cm,eC]at this ⊢;lia
 exact⟨by simp only[bX];exact(this bs).1,by simp only[eC];have:=(this bs).2;lia⟩
theorem zjq:Okd (sJ []):=⟨by simp[bX,bL],by simp[eC,cm]⟩
theorem zsU{d:DTE}{l:En}{n:Nat}{Rl:qD->Nat->Prop}(h:d l n λt o=>Yu t λts=>Rl ts o):ztp d l n Rl:=h
theorem zvC{bits:Int}{bs:qB}{Rl:qD->Prop}(hb:bits<=64)(B:Bks bits bs)(C:bs.Pairwise λa b=>eB a<=b.1\/eB b<=a.1)(J:fo bs<100000)
  (h:∀cs,Ptc bits cs->cs.Perm bs->Rl (pD cs)):Yu (sJ (pD bs)) Rl:=by
 refine⟨zjj (by rw[JA];exact J),λx hx=>?_,λv pm pw=>?_⟩;obtain⟨b,I,rfl⟩:=aA.mp hx;have:=B b I;exact⟨b.1,b.2,rfl,this.1,by have:=this.2.1;lia⟩;have G:v.Perm ((bs.map λb=>(b,prD b)).map (·.2)):=by
  have:(bs.map λb=>(b,prD b)).map (·.2)=pD bs:=by simp[pD]
  rw[this];exact pm
 obtain⟨zs,N,Y⟩:=zg8 G;have U:∀z∈zs,z.2=prD z.1:=λz L=>by obtain⟨b,_,rfl⟩:=aA.mp (N.mem_iff.mp L);rfl
 have e:v=pD (zs.map (·.1)):=by rw[<- Y];unfold pD;rw[bS];exact gD λz L=>U z L
 have pc:(zs.map (·.1)).Perm bs:=by
  have:=N.map (·.1);rw[bS]at this;have S:bs.map ((λx:(Int×Int)×af=>x.1)∘λb=>(b,prD b))=bs:=by show bs.map id=bs;exact oO _
  rwa [S]at this
 rw[e];have o:(zs.map (·.1)).Pairwise λa b=>eB a<=b.1\/eB b<=a.1:=(pc.pairwise_iff (λ{a b} h=>h.symm)).mpr C;have u:Bks bits (zs.map (·.1)):=λb hb=>B b (pc.mem_iff.mp hb);rw[e]at pw;unfold pD at pw;rw[dE]at pw;refine h _ ⟨u,?_⟩ pc;have both:=AI o pw;refine iG ?_ both;rintro a b ha hb ⟨Z,R⟩;have R:a.1*1000+a.2<=b.1*1000+b.2:=R;have a0:=(u a ha).1;have a1:=(u a ha).2.1;have b0:=(u b hb).1;have b1:=(u b hb).2.1;have:=Qd a;have:=Qd b;lia
theorem zwO{tg:DTG}{tt:DTT}{d:DTE}{ρ0:En}{Rl:qD->Nat->Prop}(Inv:Nat->qD->Nat->Prop):∀(xs:qD) (i:Nat) {acc:qD}{n:Nat},Inv i acc n ->
  (∀(k:Nat) (x:af) (acc:qD) (n:Nat) (K:qD->Nat->Prop),xs[k]?=ao x->Inv (i+k) acc n->(∀o C,Inv (i+k+1) o C->K o C) ->
   tg x ρ0 λv=>tt v n λb G=>if b=du then d v G λt I=>fo acc<16777216/\K (acc++[t]) I else K acc G) ->
  (∀acc n,Inv (i+fo xs) acc n->Rl acc n)->Qb tg tt d ρ0 xs acc n Rl
 | [],i,acc,n,h0,_,fin=>fin acc n (by simpa using h0)
 | x::xs,i,acc,n,h0,turn,fin=>by
  refine turn 0 x acc n (λacc n=>Qb tg tt d ρ0 xs acc n Rl) rfl (by simpa using h0) λo C h'=>?_;refine zwO Inv xs (i+1) (by simpa using h') (λk u acc n K e J L=>?_) (λacc n h=>fin acc n ?_);refine turn (k+1) u acc n K (by simpa using e) ?_ λo C h'=>L o C ?_;have:i+(k+1)=i+1+k:=by lia
  rw[this];exact J;have:i+1+k+1=i+(k+1)+1:=by lia
  rw[this];exact h';have:i+fo (x::xs)=i+1+fo xs:=by simp;lia
  rw[this]at *;exact h
theorem Z0{tg:DTG}{tt:DTT}{d:DTE}{ρ0:En}{Rl:qD->Nat->Prop}{xs:qD}{n:Nat}(Inv:Nat->qD->Nat->Prop)(h0:Inv 0 [] n)
  (turn:∀(k:Nat) (x:af) (acc:qD) (n:Nat) (K:qD->Nat->Prop),xs[k]?=ao x->Inv k acc n->(∀l u,Inv (k+1) l u->K l u) ->
   tg x ρ0 λo=>tt o n λb v=>if b=du then d o v λt C=>fo acc<16777216/\K (acc++[t]) C else K acc v)
  (fin:∀acc n,Inv (fo xs) acc n->Rl acc n):Qb tg tt d ρ0 xs [] n Rl :=
 zwO Inv xs 0 h0 (λk x acc n K e G I=>turn k x acc n K e (by simpa using G) λa m h=>I a m (by simpa using h)) λacc n h=>fin acc n (by simpa using h)
theorem Qt{α:Type}{cs:List α}{D:α->af}{tg:DTG}{tt:DTT}{d:DTE}{ρ0:En}{n:Nat}{Rl:qD->Nat->Prop}(F:α->af)(v:fo cs<=16777216)
  (step:∀b∈cs,∀(K:qN) (X:Nat->Prop),K (F b) n->tg (D b) ρ0 λl=>tt l n λc u=>if c=du then d l u K else X u) (fin:Rl (cs.map F) n):Qb tg tt d ρ0 (cs.map D) [] n Rl:=by
 refine Z0 (λj acc m=>m=n/\acc=(cs.take j).map F) ⟨rfl,rfl⟩ ?_ ?_;rintro j x acc m K o ⟨rfl,rfl⟩ hK;rw[bK]at o;cases eb:cs[j]? with
 | none=>rw[eb]at o;cases o
 | some b =>rw[eb]at o;cases o;obtain⟨G,C⟩:=aq.mp eb;refine step b (aQ eb) _ _ ⟨?_,hK _ _ ⟨rfl,?_⟩⟩;simp;lia;rw[dW,eb];simp
 rintro acc m ⟨rfl,rfl⟩;rw[aG,ff];exact fin
theorem zzc{bs:List Bool}{R:af->Prop}(h:R (dQ (bs.all id))):bAll [sJ (bs.map dQ)] R:=⟨bs,rfl,h⟩
theorem Uk{α:Type}{cs:List α}{f:α->Bool}{R:af->Prop}(h:R (dQ (cs.all f))):bAll [sJ (cs.map λb=>dQ (f b))] R:=by
 have e:(cs.map λb=>dQ (f b))=(cs.map f).map dQ:=by simp
 rw[e];refine zzc ?_;have u:(cs.map f).all id=cs.all f:=by simp[List.all_map,ka]
 rw[u];exact h
theorem zyT{xs:qD}{k:Nat}{x:af}{R:af->Prop}(e:xs[k]?=ao x)(h:R x):oIx (lV xs) (bu (k:Int)) R:=by
 have o:k<fo xs:=by rcases gP k (fo xs) with z|z;exact z;rw[dz z]at e;cases e
 rw[ZD (x:=x)];exact h;unfold atI ixN;have:((0:Int)<=(k:Int)):=by lia
 have:((k:Int)<(fo xs:Int)):=by lia
 have v:xs[k]=x:=by rw[aw o]at e;exact aX e
 simp[o,v]
theorem zsH{xs:qD}{i:Int}{k:Nat}{x:af}{R:af->Prop}(hi:i=(k:Int))(e:xs[k]?=ao x)(h:R x):oIx (lV xs) (bu i) R:=by subst hi;exact zyT e h
theorem ZL{bs:qB}{k:Nat}{b:Int×Int}(h:bs[k]?=ao b):(pD bs)[k]?=ao (lV [bu b.1,bu b.2]):=by unfold pD;rw[bK,h];rfl
theorem ztb{bs:qB}:dP (sJ (pD bs)) (sJ [])=g5 bs:=by
 cases bs with
 | nil=>simp[pD,dP,iE]
 | cons b l=>simp[pD,dP,iE]
theorem Um{many:Int}{n:Nat}{R:qN}(h0:0<many)(o:many<2 ^ 128)(l:n<=1000000000000)(h:∀r:Int,0<=r->r<many->R (bu r) (n+1)):Y4 [HAND,bu many] n R:=⟨rfl,h0,o,l,h⟩
theorem zlw{i h:Int}:Qg (lV [bu i,bu h])=du:=by simp[Qg,Q0]
theorem Bks.app{bits i h:Int}{bs:qB}(B:Bks bits bs)(C:IsBk bits i h):Bks bits (bs++[(i,h)]):=λb hb=>by rcases au.mp hb with z|z;exact B b z;cases av.mp z;exact C
section
variable{prog:aK}{w:aV}{A:bw}{E:qV}{s:ax}
open HT in
theorem zdv{t sl:ai}{items:Array ah}{G I:ah}{lo hi:Option Int}{Q:qV}(l:oC s.heap t items)(J:s.heap.IsSliceOf sl G I kJ)(pl:mW G lo)(N:mW I hi)
  (hw:HT.sIx items.size 0 lo=0/\HT.sIx items.size items.size hi=be items) (h:Q (bQ t) s):wpAny (model prog w) A (getItem (bQ t) (bQ sl)) Q E s:=by
 obtain⟨os,C,v,L⟩:=id J;have x:s.TypeIs (bQ sl) "slice":=⟨os,C,v⟩;unfold getItem;try with_reducible refine cu ?_
 first|refine ae (ak ?_)|skip
 refine ae (pX l.typeIs (by decide) ?_);refine ae (dF (name:=aa "__getitem__") l.typeIs cQ
  (eG cQ l.typeIs oZ ?_ (pJ _ _)))
 show wpAny _ _ (mw (bQ t) >>= _) _ _ s;refine ae (tupleItemsOf_ l ?_);refine ae (fK x ?_);rw[if_pos (by decide)];refine ae (HT.zcK J pl N ?_);have u:(((HT.sIx items.size 0 lo:Nat):Int) == 0&&(1:Int) == 1&&(HT.sIx items.size items.size hi - HT.sIx items.size 0 lo) == be items)=du:=by rw[hw.1,hw.2];simp
 show wpAny _ _ (if (((HT.sIx items.size 0 lo:Nat):Int) == 0&&(1:Int) == 1&&(HT.sIx items.size items.size hi - HT.sIx items.size 0 lo) == be items)=du then _ else _) _ _ s;rw[if_pos u];unfold t9;refine ae (ae (fK l.typeIs (ak ?_)));rw[if_pos (by decide)];exact ae (dG (ak ⟨_,rfl,ak h⟩))
end
section
variable{X:Cx}
def rSlW(K:qF):V->Option Int->Option Int->Hp->VK->Prop:=λx lo hi H Q=>∃a xs,x=.ref a/\SqT K H a xs/\(HT.sIx (fo xs) 0 lo=0/\HT.sIx (fo xs) (fo xs) hi=fo xs)/\Q (.ref a) H
theorem zrI:SlR X (rSlW X.K):=by
 intro pins s σ H x v J L lo hi sl Q I u C pl G h;obtain⟨a,xs,rfl,hx,hw,q⟩:=h;cases u;obtain⟨its,r,o,N⟩:=I.tuple hx;have l:be its.toArray=fo xs:=by rw[aD];exact dv r.length
 refine⟨"tuple",_,cQ.lookup,o.typeIs,?_⟩;exact zdv o C pl G (by rw[l];exact hw) ⟨.ref a,H,I,rfl,q⟩
end
abbrev DTO:=En->Nat->(Option Int->Nat->Prop)->Prop
def DP(X:Cx)(e:Option bg)(d:DTO):Prop:=∃t,PO X e t/\∀(C:Ctx) (u:En) (σ:St) (H:Hp) (n:Nat) (Q:Option Int->Hp->Prop) (R:Option Int->Nat->Prop),Stt X.K C u σ H n->d u n R ->
 (∀o l H',R o l->ExtE C.hd H H'->Hn X.K C.hd H' l->Q o H')->t σ H Q
def zjY:DTO:=λl n R=>R bj n
def ztq(d:DTE):DTO:=λo n R=>d o n λt l=>lInt t λi=>R (ao i) l
def cutD(ts:qD)(lo hi:Option Int):List af:=(ts.drop (HT.sIx (fo ts) 0 lo)).take (HT.sIx (fo ts) (fo ts) hi - HT.sIx (fo ts) 0 lo)
def lSl(t:af)(lo hi:Option Int)(R:qD->Prop):Prop:=match t with
 | sJ ts=>R (cutD ts lo hi)
 | _=>False
def dSlL(d:DTE)(dl u:DTO):DTA:=λl n R=>d l n λt o=>dl l o λlo v=>u l v λhi x=>lSl t lo hi λz=>R z x
section
variable{X:Cx}{e:bg}{d:DTE}{lo hi:Option bg}{dlo dhi:DTO}{pos p2:Pos}
theorem Zn:DP X bj zjY:=⟨_,zrY,λC o σ H n Q R S h l=>l bj n H h ExtE.refl S.hnd⟩
theorem Ze(h:DE X e d):DP X (ao e) (ztq d):=by
 obtain⟨N,pa,h⟩:=h;refine⟨_,zrX pa,λC u σ H n Q R S hd I=>?_⟩;refine h C u σ H n _ _ S hd λt o v G l L x J=>?_;cases t with
 | int i =>cases J;exact⟨i,rfl,I (ao i) o G l L x⟩
 | _=>exact e9 l
theorem zkY{K:qF}{hd:Option ai}{O:ai->Prop}{H:Hp}{vs ts}(r:Reps K hd O H vs ts)(lo hi:Option Int):Reps K hd O H (cutV vs lo hi) (cutD ts lo hi):=by unfold cutV cutD;rw[r.length];exact(r.drop _).take _
theorem zl2{ts:qD}{lo hi:Option Int}(h:HT.sIx (fo ts) 0 lo=0/\HT.sIx (fo ts) (fo ts) hi=fo ts):cutD ts lo hi=ts:=by unfold cutD;rw[h.1,h.2];simp
theorem zkS(h:DL X e d)(G:DP X lo dlo)(U:DP X hi dhi):DN X (ed e (.Slice lo hi bj p2) pos) (dSlL d dlo dhi):=by
 obtain⟨ta,pa,h⟩:=h;obtain⟨tl,pl,G⟩:=G;obtain⟨tu,pu,U⟩:=U;refine⟨_,zkm zrJ pa pl pu,λC J σ H n Q R S hd hq=>?_⟩;refine h C J σ H n _ _ S hd λt n1 v H1 r1 e1 h1 q1=>?_;have S1:=S.on e1 h1;refine G C J σ H1 n1 _ _ S1 r1 λlo n2 H2 r2 L h2=>?_;have Z:=S1.on L h2;refine U C J σ H2 n2 _ _ Z r2 λhi n3 H3 Y N I=>?_;have S3:=Z.on N I;have q3:=(L.trans N).repT S.hx q1;cases t with
 | list ts =>obtain⟨a,vs,rfl,hs,rs⟩:=q3.lstI;refine⟨a,vs,rfl,.of hs,λp x=>?_⟩;have e:=e1.trans (L.trans N);refine hq _ n3 p _ _ Y (e.trans (ExtE.new x)) (I.same (Qf x)) (Vh e I x) J1 ?_;refine(zkY rs lo hi).mono (λb o hb z=>h7 z id λz=>?_) λb o _ hb=>Qf x b o hb;subst z;rw[x]at hb;cases hb
 | _=>exact e9 Y
end
section
variable{X:Cx}
theorem zos(hc:X.calm=du):JX X (dL "sum") (λxs H Q=>∃(a:ai) (ns:List Int),xs=[.ref a]/\SqL X.K H a (ns.map V.int)/\Q (.int ns.sum) H):=by
 intro pins s σ H xs us Q I r h;obtain⟨a,ns,rfl,J,q⟩:=h;obtain⟨u,rfl,x⟩:=vals1 r;cases x;obtain⟨its,C,p,L⟩:=I.list J;have hi:=intsAre_of C;have v:s.heap.IsList a (bm its):=p.isList;obtain⟨xs,hx⟩:=hi.allInts.items;have o:numsOf (nK its.toArray)=ns:=by rw[show nK its.toArray=its from rfl,hi.numsOf]
 rw[hx]at v o;rw[nums_intItems]at o;refine sum_intListG (I.ok.hd hc) v λh' tk t' G=>?_;rw[preSum_eq,df (by simp),o];exact⟨.int ns.sum,H,I.kept G,⟨_,rfl⟩,q⟩
def bSum:GC
 | [sJ ts],R=>∃ns:List Int,ts=ns.map bu/\R (bu ns.sum)
 | _,_=>False
theorem zwp:GpC X (λxs H Q=>∃(a:ai) (ns:List Int),xs=[.ref a]/\SqL X.K H a (ns.map V.int)/\Q (.int ns.sum) H) bSum:=by intro hd O H xs ts Q R dom rs h C;unfold bSum at h;split at h;obtain⟨ns,rfl,h⟩:=h;obtain⟨v,rfl,u⟩:=QR rs;obtain⟨p,G,rfl,l,x⟩:=u.lstI;rw[WQ x]at l;exact⟨p,ns,rfl,.of l,C _ _ H h (Same.refl H) (.int _)⟩;exact e9 h
end
structure NxS(prog:aK)(w:aV)(i a:ai)(IT:Nat->bq->Prop)(SQ:bq->Array ah->Prop):Prop where
 rcd:∀k h,IT k h->∃o,bi h i=ao o/\∀v,io o≠.cell v
 keep:∀k h h',IT k h->(∀o,bi h i=ao o->bi h' i=ao o)->IT k h'
 sk:∀h h' xs,SQ h xs->(∀o,bi h a=ao o->bi h' a=ao o)->SQ h' xs
 item:∀(A:bw) (E:qV) (k:Nat) (xs:Array ah) (x:ah) (s:ax) (Q:qV),IT k s.heap->SQ s.heap xs->xs[k]?=ao x ->
  (∀h',IT (k+1) h'->gn i s.heap h'->Q x { s with heap:=h' })->wpAny (model prog w) A (bV (bQ i)) Q E s
 done:∀(A:bw) (E:qV) (k:Nat) (xs:Array ah) (s:ax) (Q:qV),A.handled=bj->IT k s.heap->SQ s.heap xs->xs[k]?=bj ->
  (∀h' e,oP i s.heap h'->(∃o,bi h' e=ao o/\jo o=bU "StopIteration")->E (bQ e) { s with heap:=h' })->wpAny (model prog w) A (bV (bQ i)) Q E s
theorem zsq{prog:aK}{w:aV}{i a:ai}:NxS prog w i a (λk h=>h.IsListIter i a k) (λh xs=>h.IsList a xs) where
 rcd:=λk h ⟨o,e,c,d⟩=>⟨o,e,λv z=>by rw[d]at z;cases z⟩
 keep:=λk h h' x f=>x.at f
 sk:=λh h' xs x f=>x.at f
 item:=λA E k xs x s Q u C l h=>wpAny_nextOf_list_item u C l h
 done:=λA E k xs s Q G u C l h=>wpAny_nextOf_list_end G u C l h
section
variable{prog:aK}{w:aV}{A:bw}{E:qV}{s:ax}
theorem ziC{i:ai}{T id:String}{Q:qV}{f:fw}(l:s.TypeIs (bQ i) T)(sl:Slot T "__next__" id) (C:entryFor table id=ao f) (u:argsOk id ⟨[bQ i],[]⟩)
  (h:wpAny (model prog w) A.in1 (f ⟨[bQ i],[]⟩) (λfin s'=>∃v,fin=.done (jA v)/\Q v s') E s):wpAny (model prog w) A (bV (bQ i)) Q E s:=by
 unfold bV;refine ae (dF (name:=aa "__next__") l sl (eG sl l C ?_ u));refine c8 h (λfin s' x=>?_) λ_ _ e=>e;obtain⟨v,e,q⟩:=x;exact⟨v,e,ak q⟩
theorem zhP{i a:ai}{k:Nat}{xs:Array ah}{x:ah}{Q:qV}(v:s.heap.IsTupleIter i a k)(I:s.heap.IsTuple a xs)(C:xs[k]?=ao x)
  (h:∀h',h'.IsTupleIter i a (k+1)->gn i s.heap h'->Q x { s with heap:=h' }):wpAny (model prog w) A (bV (bQ i)) Q E s:=by
 refine ziC v.typeIs mE lQ (ly _) ?_;obtain⟨o,u,G,l⟩:=v;obtain⟨p,f1,_,n,J⟩:=I;refine ae (m:=field (bQ i) 0) (cW u l (x:=bQ a) rfl ?_);have ne:¬((bQ a == kJ)=du):=λz=>by cases z
 rw[if_neg ne];refine ae (m:=field (bQ i) 1) (cW u l (x:=rL k 0) rfl ?_);refine ae (m:=seqItems? (bQ a)) (dJ f1 J ?_);simp only[gr,C];refine ae (oQ u l (by simp) (ak ⟨x,rfl,h _ ?_ (lG ..)⟩));refine⟨_,fY _ u (ot (iU l _)),?_,?_⟩;rw[rB];exact G;rw[iU l];simp[rawInt]
theorem zhQ{i a:ai}{k:Nat}{xs:Array ah}{Q:qV}(G:A.handled=bj)(I:s.heap.IsTupleIter i a k)(L:s.heap.IsTuple a xs)(J:xs[k]?=bj)
  (h:∀h' e,oP i s.heap h'->(∃o,bi h' e=ao o/\jo o=bU "StopIteration")->E (bQ e) { s with heap:=h' }):wpAny (model prog w) A (bV (bQ i)) Q E s:=by
 refine ziC I.typeIs mE lQ (ly _) ?_;obtain⟨o,C,R,v⟩:=I;obtain⟨p,f1,_,n,N⟩:=L;refine ae (m:=field (bQ i) 0) (cW C v (x:=bQ a) rfl ?_);have ne:¬((bQ a == kJ)=du):=λz=>by cases z
 rw[if_neg ne];refine ae (m:=field (bQ i) 1) (cW C v (x:=rL k 0) rfl ?_);refine ae (m:=seqItems? (bQ a)) (dJ f1 N ?_);simp only[gr,J];refine ae (dG (ae (oQ C v (by simp) ?_)));refine ae (m:=newExc (bU "StopIteration") []) ?_;simp only[newExc,newTuple];refine ae (cL ?_ (by size_fits));refine ae (m:=firstArgMember _ _) (iW (a:=kJ) (by first|rfl|(simp only[firstArgMember];rfl)) (cL ?_ (by size_fits)));simp only[raiseNew];refine ae (wpAny_handled ?_);have l:A.in1.handled=bj:=G;first|rw[l]|rw[G]
 exact ae (ak (wpAny_throw (h _ _ (((lG ..).extBut.push _).push _) ⟨_,aB _ rfl,rfl⟩)))
end
theorem Heap.IsTupleIter.at'{h h':bq}{i a:ai}{k:Nat}(x:h.IsTupleIter i a k)(f:∀o,bi h i=ao o->bi h' i=ao o):h'.IsTupleIter i a k:=by obtain⟨o,e,r⟩:=x;exact⟨o,f o e,r⟩
theorem Heap.IsTuple.at'{h h':bq}{a:ai}{xs:Array ah}(x:h.IsTuple a xs)(f:∀o,bi h a=ao o->bi h' a=ao o):h'.IsTuple a xs:=by obtain⟨o,e,r⟩:=x;exact⟨o,f o e,r⟩
theorem zu_{prog:aK}{w:aV}{i a:ai}:NxS prog w i a (λk h=>h.IsTupleIter i a k) (λh xs=>h.IsTuple a xs) where
 rcd:=λk h ⟨o,e,c,d⟩=>⟨o,e,λv z=>by rw[d]at z;cases z⟩
 keep:=λk h h' x f=>Heap.IsTupleIter.at' x f
 sk:=λh h' xs x f=>Heap.IsTuple.at' x f
 item:=λA E k xs x s Q u C l h=>zhP u C l h
 done:=λA E k xs s Q G u C l h=>zhQ G u C l h
structure ZAp(z TI TO i1 i2 a1 a2:ai):Prop where
 p:[z,TI,TO,i1,i2].Nodup
 q:∀a∈[a1,a2],a∉[z,TI,TO,i1,i2]
section
variable{prog:aK}{w:aV}{A:bw}{E:qV}{s:ax}{z TI TO i1 i2 a1 a2:ai}{I1 I2:Nat->bq->Prop}{S1 S2:bq->Array ah->Prop}
structure ZSt(z TI TO i1 i2:ai)(I1 I2:Nat->bq->Prop)(f:ah)(k:Nat)(h:bq):Prop where
 zip:sM h z TI TO f
 ti:nS h TI (bQ i1) (bQ i2)
 to:∃a b,nS h TO a b
 it1:I1 k h
 it2:I2 k h
theorem zl9(D:ZAp z TI TO i1 i2 a1 a2):(z≠TI/\z≠TO/\z≠i1/\z≠i2/\TI≠TO/\TI≠i1/\TI≠i2/\TO≠i1/\TO≠i2/\i1≠i2)/\(a1≠z/\a1≠TO/\a1≠i1/\a1≠i2)/\(a2≠z/\a2≠TO/\a2≠i1/\a2≠i2):=by have l:=D.p;have v:=D.q;simp only[eU,ay,aS,or_false,not_or,ua,and_true,not_false_eq_true]at l;have u:=v a1 (by simp);have o:=v a2 (by simp);simp only[ay,aS,or_false,not_or]at u o;exact⟨⟨l.1.1,l.1.2.1,l.1.2.2.1,l.1.2.2.2,l.2.1.1,l.2.1.2.1,l.2.1.2.2,l.2.2.1.1,l.2.2.1.2,l.2.2.2⟩,⟨u.1,u.2.2.1,u.2.2.2.1,u.2.2.2.2⟩,⟨o.1,o.2.2.1,o.2.2.2.1,o.2.2.2.2⟩⟩
theorem z_item{k:Nat}{xs ys:Array ah}{x y:ah}{Q:qV}(D:ZAp z TI TO i1 i2 a1 a2)(N1:NxS prog w i1 a1 I1 S1)(N2:NxS prog w i2 a2 I2 S2)(st:ZSt z TI TO i1 i2 I1 I2 kJ k s.heap)(s1:S1 s.heap xs)(s2:S2 s.heap ys)
  (hx:xs[k]?=ao x) (hy:ys[k]?=ao y)
  (hQ:∀h',ZSt z TI TO i1 i2 I1 I2 (rawInt s.heap.objs.size) (k+1) h'->nS h' s.heap.objs.size x y->be h'.objs=be s.heap.objs+1 ->
   (∀c o,c≠z->c≠TO->c≠i1->c≠i2->bi s.heap c=ao o->bi h' c=ao o)->Q (bQ s.heap.objs.size) { s with heap:=h' }) :
  wpAny (model prog w) A (fw.«zip.__next__» ⟨[bQ z],[]⟩) (λfin s'=>∃v,fin=.done (jA v)/\Q v s') E s:=by
 obtain⟨⟨d1,d2,d3,d4,d5,d6,d7,d8,d9,d10⟩,⟨e1,e2,e3,e4⟩,⟨g1,g2,g3,g4⟩⟩:=zl9 D;obtain⟨zip,ti,⟨va,vb,to⟩,it1,it2⟩:=st;refine ae (m:=field (bQ z) 2) (cW zip rfl (x:=nJ dy) rfl ?_);refine ae (m:=field (bQ z) 3) (cW zip rfl (x:=bQ TI) rfl (ae (dJ ti rfl ?_)));refine ae (m:=dX (bQ z)) ?_;unfold dX;refine ae (cW zip rfl (x:=kJ) rfl (ak ?_));simp only[if_true];refine ae (dG (ae (cW zip rfl (x:=bQ TO) rfl (ae (fV zip (by simp) λhA zA bA=>?_)))));have zA':sM hA z TI TO jw:=zA;refine ae ?_;simp only[nB,tf,lh,i8];refine ae (ae (m7 (ae (m:=bV (bQ i1)) ?_)));refine N1.item _ _ k xs x _ _ (N1.keep _ _ _ it1 λo e=>bA.extBut _ _ d3.symm e) (N1.sk _ _ _ s1 λo e=>bA.extBut _ _ e1 e) hx λhB it1B bB=>ak ?_;have S:nS hB TO va vb:=bB.extBut _ _ d8 (bA.extBut _ _ d2.symm to);refine ae (dJ S rfl (ae (k6 S λhC toC bC=>?_)));have toC':nS hC TO x vb:=toC;refine ae (iX (ak ?_));refine ae (ae (m7 (ae (m:=bV (bQ i2)) ?_)));have I:∀c o,c≠z->c≠TO->c≠i1->bi s.heap c=ao o->bi hC c=ao o:=λc o C J c3 e=>bC.extBut _ _ J (bB.extBut _ _ c3 (bA.extBut _ _ C e));refine N2.item _ _ k ys y _ _ (N2.keep _ _ _ it2 λo e=>I _ _ d4.symm d9.symm d10.symm e) (N2.sk _ _ _ s2 λo e=>I _ _ g1 g2 g3 e) hy λhD it2D Z=>ak ?_;have toD:nS hD TO x vb:=Z.extBut _ _ d9 toC';refine ae (dJ toD rfl (ae (k6 toD λu toF U=>?_)));have G:nS u TO x y:=toF;refine ae (iX (ak (ak ?_)));refine ae (dJ G rfl (ae (t8 ?_)));have sz:be u.objs=be s.heap.objs:=by rw[U.1,Z.1,bC.1,bB.1,bA.1]
 have upF:∀c o,c≠z->c≠TO->c≠i1->c≠i2->bi s.heap c=ao o->bi u c=ao o:=λc o C J c3 c4 e=>U.extBut _ _ J (Z.extBut _ _ c4 (I c o C J c3 e));have zF:sM u z TI TO jw:=U.extBut _ _ d2 (Z.extBut _ _ d4 (bC.extBut _ _ d2 (bB.extBut _ _ d3 zA')));have Y:z<be u.objs:=aE zF;refine ae (m:=iz (bQ z) (bQ u.objs.size)) ?_;unfold iz;have zG:sM (ee u { cls:=bU "tuple",data:=im #[x,y] }) z TI TO jw:=aj _ zF;refine ae (fV zG (by simp) λhI zI bI=>?_);have zI':sM hI z TI TO (rawInt u.objs.size):=zI;refine fV zI' (by simp) λR zJ bJ=>ak ⟨_,rfl,?_⟩;have L:sM R z TI TO (rawInt u.objs.size):=zJ;have up:∀c o,c≠z->bi u c=ao o->bi R c=ao o:=λc o C e=>bJ.extBut _ _ C (bI.extBut _ _ C (aj _ e));have pr:nS R u.objs.size x y:=bJ.extBut _ _ (lJ Y) (bI.extBut _ _ (lJ Y) (aB _ rfl));have N:be R.objs=be u.objs+1:=by rw[bJ.1,bI.1,eS]
 rw[sz]at L pr N;show Q (bQ u.objs.size) _;rw[sz];refine hQ R ⟨L,up _ _ d1.symm (upF _ _ d1.symm d5 d6 d7 ti),⟨x,y,up _ _ d2.symm G⟩,?_,?_⟩ pr N λc o C J c3 c4 e=>up c o C (upF c o C J c3 c4 e);exact N1.keep _ _ _ it1B λo e=>up _ _ d3.symm (U.extBut _ _ d8.symm (Z.extBut _ _ d10 (bC.extBut _ _ d8.symm e)));exact N2.keep _ _ _ it2D λo e=>up _ _ d4.symm (U.extBut _ _ d9.symm e)
theorem z_end{k:Nat}{xs Y:Array ah}{Q:PySem.Fin->ax->Prop}(hh:A.handled=bj)(D:ZAp z TI TO i1 i2 a1 a2)(Z:NxS prog w i1 a1 I1 S1)(N2:NxS prog w i2 a2 I2 S2)(st:ZSt z TI TO i1 i2 I1 I2 kJ k s.heap)(s1:S1 s.heap xs)(s2:S2 s.heap Y)
  (hxy:xs[k]?=bj\/Y[k]?=bj)
  (hE:∀h' e,(∀c o,c≠z->c≠TO->c≠i1->c≠i2->bi s.heap c=ao o->bi h' c=ao o)->(∃o,bi h' e=ao o/\jo o=bU "StopIteration")->E (bQ e) { s with heap:=h' }) :
  wpAny (model prog w) A (fw.«zip.__next__» ⟨[bQ z],[]⟩) Q E s:=by
 obtain⟨⟨d1,d2,d3,d4,d5,d6,d7,d8,d9,d10⟩,⟨e1,e2,e3,e4⟩,⟨g1,g2,g3,g4⟩⟩:=zl9 D;obtain⟨zip,ti,⟨va,vb,to⟩,it1,it2⟩:=st;refine ae (m:=field (bQ z) 2) (cW zip rfl (x:=nJ dy) rfl ?_);refine ae (m:=field (bQ z) 3) (cW zip rfl (x:=bQ TI) rfl (ae (dJ ti rfl ?_)));refine ae (m:=dX (bQ z)) ?_;unfold dX;refine ae (cW zip rfl (x:=kJ) rfl (ak ?_));simp only[if_true];refine ae (dG (ae (cW zip rfl (x:=bQ TO) rfl (ae (fV zip (by simp) λhA zA U=>?_)))));have I:sM hA z TI TO jw:=zA;refine ae ?_;simp only[nB,tf,lh,i8];refine ae (ae (m7 (ae (m:=bV (bQ i1)) ?_)));have N:=Z.keep _ _ _ it1 λo e=>U.extBut _ _ d3.symm e;have S:=Z.sk _ _ _ s1 λo e=>U.extBut _ _ e1 e;cases hx:xs[k]? with
 | none =>
  refine Z.done _ _ k xs _ _ hh N S hx λhB e G u=>?_;obtain⟨oe,he,hc⟩:=u;have zB:sM hB z TI TO jw:=G _ _ d3 I;have ez:e≠z:=λy=>by subst y;rw[zB]at he;cases he;simp at hc
  exact fV zB (by simp) λhC _ L=>hE hC e (λc o C _ J _ y=>L.extBut _ _ C (G _ _ J (U.extBut _ _ C y))) ⟨oe,L.extBut _ _ ez he,hc⟩
 | some x =>
  have hy:Y[k]?=bj:=by rcases hxy with h|h;rw[hx]at h;cases h;exact h
  refine Z.item _ _ k xs x _ _ N S hx λhB it1B G=>ak ?_;have R:nS hB TO va vb:=G.extBut _ _ d8 (U.extBut _ _ d2.symm to);refine ae (dJ R rfl (ae (k6 R λhC toC L=>?_)));refine ae (iX (ak ?_));refine ae (ae (m7 (ae (m:=bV (bQ i2)) ?_)));have v:∀c o,c≠z->c≠TO->c≠i1->bi s.heap c=ao o->bi hC c=ao o:=λc o C c2 J e=>L.extBut _ _ c2 (G.extBut _ _ J (U.extBut _ _ C e));refine N2.done _ _ k Y _ _ hh (N2.keep _ _ _ it2 λo e=>v _ _ d4.symm d9.symm d10.symm e) (N2.sk _ _ _ s2 λo e=>v _ _ g1 g2 g3 e) hy λhD e bD u=>?_;obtain⟨oe,he,hc⟩:=u;have zD:sM hD z TI TO jw:=bD _ _ d4 (L.extBut _ _ d2 (G.extBut _ _ d3 I));have ez:e≠z:=λy=>by subst y;rw[zD]at he;cases he;simp at hc
  exact fV zD (by simp) λhF _ bF=>hE hF e (λc o C c2 J c4 y=>bF.extBut _ _ C (bD _ _ c4 (v c o C c2 J y))) ⟨oe,bF.extBut _ _ ez he,hc⟩
theorem ztP{k:Nat}{xs u:Array ah}{x y:ah}{Q:Option ah->ax->Prop}(D:ZAp z TI TO i1 i2 a1 a2)(N:NxS prog w i1 a1 I1 S1)(G:NxS prog w i2 a2 I2 S2)(st:ZSt z TI TO i1 i2 I1 I2 kJ k s.heap)(s1:S1 s.heap xs)(s2:S2 s.heap u)
  (hx:xs[k]?=ao x) (v:u[k]?=ao y)
  (J:∀h',ZSt z TI TO i1 i2 I1 I2 (rawInt s.heap.objs.size) (k+1) h'->nS h' s.heap.objs.size x y->be h'.objs=be s.heap.objs+1 ->
   (∀c o,c≠z->c≠TO->c≠i1->c≠i2->bi s.heap c=ao o->bi h' c=ao o)->Q (ao (bQ s.heap.objs.size)) { s with heap:=h' }) :
  wpAny (model prog w) A (pyNext (bQ z)) Q E s:=by
 have l:s.TypeIs (bQ z) "zip":=⟨_,st.zip,rfl⟩;unfold pyNext;exact ae (kW (dF (name:=aa "__next__") l lA (eG lA l rZ
  (z_item D N G st s1 s2 hx v λh' I L C R=>ak (J h' I L C R)) (rC _))))
theorem ztO{k:Nat}{xs v:Array ah}{Q:Option ah->ax->Prop}(x:A.handled=bj)(D:ZAp z TI TO i1 i2 a1 a2)(L:NxS prog w i1 a1 I1 S1)(G:NxS prog w i2 a2 I2 S2)(st:ZSt z TI TO i1 i2 I1 I2 kJ k s.heap)(s1:S1 s.heap xs)(s2:S2 s.heap v)
  (l:xs[k]?=bj\/v[k]?=bj) (I:∀h',(∀c o,c≠z->c≠TO->c≠i1->c≠i2->bi s.heap c=ao o->bi h' c=ao o)->Q bj { s with heap:=h' }):wpAny (model prog w) A (pyNext (bQ z)) Q E s:=by
 have u:s.TypeIs (bQ z) "zip":=⟨_,st.zip,rfl⟩;unfold pyNext;refine ae (kW (dF (name:=aa "__next__") u lA (eG lA u rZ
  (z_end x D L G st s1 s2 l λh' e J ⟨o,C,hc⟩=>?_) (rC _))))
 exact ae (nE (T:="StopIteration") (b:=du) ⟨o,C,hc⟩ ub (ak (I _ J)))
end
def SqB(t:Bool)(K:qF)(H:Hp)(a:ai)(xs:List V):Prop:=match t with|true=>SqT K H a xs|false=>SqL K H a xs
def ITB(t:Bool)(i a:ai):Nat->bq->Prop:=match t with|true=>λk h=>h.IsTupleIter i a k|false=>λk h=>h.IsListIter i a k
def SQB(t:Bool)(a:ai):bq->Array ah->Prop:=match t with|true=>λh xs=>h.IsTuple a xs|false=>λh xs=>h.IsList a xs
def itN(t:Bool):String:=match t with|true=>"tuple_iterator" | false=>"list_iterator"
theorem nx_B{prog:aK}{w:aV}{i a:ai}(t:Bool):NxS prog w i a (ITB t i a) (SQB t a):=by cases t;exact zsq;exact zu_
section
variable{X:Cx}{pins:qO}{σ:St}{H:Hp}{s:ax}
theorem Inv.seqB{t:Bool}{a:ai}{xs:List V}(I:Inv X pins σ H s)(h:SqB t X.K H a xs):∃its:List ah,Vals xs its/\SQB t a s.heap (bm its)/\fo xs<=sizeLine:=by cases t;obtain⟨its,r,p,z⟩:=I.list h;exact⟨its,r,p.isList,z⟩;obtain⟨its,r,p,z⟩:=I.tuple h;exact⟨its,r,p,z⟩
theorem Inv.injB{t:Bool}{a:ai}{xs l:List V}(I:Inv X pins σ H s)(h:SqB t X.K H a xs)(h':SqB t X.K H a l):xs=l:=by cases t;exact I.list_inj h h';exact I.tuple_inj h h'
theorem Inv.turnedL{h':bq}{t':Nat}(ch:List ai)(I:Inv X pins σ H s)(k:∀b o,b∉ch->bi s.heap b=ao o->bi h' b=ao o)(f:∀b∈ch,FpOk X pins H b):Inv X pins σ H { s with heap:=h',toks:=t' }:=by
 have l:∀b u,H b=ao u->b∉ch:=λb u e z=>by rw[(f b z).1]at e;cases e
 refine I.step (g':=ju s) (d':=jB s) (ch:=ch) (λb hb=>⟨(f b hb).2.2.2.1,(f b hb).2.1,(f b hb).2.2.2.2.1,(f b hb).2.2.2.2.2⟩) (λb o _ _ hc e _=>k b o hc e) (λb o _ _ hc e _=>⟨o.slots,k b o hc e⟩) (λ_ _ _ _ n=>n) (λb o hc e=>⟨o,k b o hc e⟩) (λ_ _ e=>e) (λ_ _ _ e=>e)
  (λ_ _ e=>e) (λm ⟨o,G,C,x,r⟩=>⟨o,G,C,k _ o (λz=>(f _ z).2.1 rfl) x,r⟩) (λb u e=>(I.hok b u e).stay (λc v hc q=>k c v ?_ q) (λ_ q=>q) (λ_ _ q=>q) λ_ _ _ q=>q) I.bare
 rcases hc with z|z;rw[z];exact l b u e;exact l c _ z
variable{prog:aK}{w:aV}{A:bw}{E:qV}
theorem zvV{t:Bool}{a:ai}{xs:Array ah}{Q:qV}(h:SQB t a s.heap xs)(o:Q (bQ s.heap.objs.size) { s with heap:=ee s.heap { cls:=bU (itN t),data:=fm #[bQ a,rL 0 0] } }):wpAny (model prog w) A (pyIter (bQ a)) Q E s:=by cases t;exact ft h o;exact l8 h o
theorem SQB.push{t:Bool}{a:ai}{xs:Array ah}{h:bq}(x:SQB t a h xs)(o:Obj):SQB t a (ee h o) xs:=by cases t;exact Bz x o;exact AJ x o
abbrev zA(h:bq)(t:Bool)(a:ai):bq:=ee h { cls:=bU (itN t),data:=fm #[bQ a,rL 0 0] }
abbrev zB(h:bq)(t u:Bool)(a b:ai):bq:=ee (zA h t a) { cls:=bU (itN u),data:=fm #[bQ b,rL 0 0] }
abbrev zC(h:bq)(t u:Bool)(a b:ai):bq:=ee (zB h t u a b) { cls:=bU "tuple",data:=im #[bQ h.objs.size,bQ (zA h t a).objs.size] }
abbrev zD(h:bq)(t u:Bool)(a b:ai):bq:=ee (zC h t u a b) { cls:=bU "tuple",data:=im #[kJ,kJ] }
abbrev zE(h:bq)(t u:Bool)(a b:ai):bq:=ee (zD h t u a b) { cls:=bU "zip",data:=fm #[kJ,nJ dy,nJ dy,bQ (zB h t u a b).objs.size,bQ (zC h t u a b).objs.size] }
theorem zpN(t u:Bool)(a b:ai)(xs x:Array ah) :
  Meets (fw.«zip.__new__» ⟨[bU "zip",bQ a,bQ b],[]⟩) (λ_ R s=>SQB t a s.heap xs/\SQB u b s.heap x/\R (.ok (jA (bQ (zD s.heap t u a b).objs.size))) { s with heap:=zE s.heap t u a b }) :=
 .of_wp λprog w A R s h=>by obtain⟨v,g,d,tk,os⟩:=s;obtain⟨G,I,h⟩:=h;have J:=sub_zip;have C:SQB t a (xT ⟨v,g,d,tk,os⟩) xs:=G;have L2:SQB u b (xT ⟨ee v { cls:=bU (itN t),data:=fm #[bQ a,rL 0 0] },g,d,tk,os⟩) x:=SQB.push I _;wp_walk using zvV C,zvV L2;exact⟨_,rfl,h⟩
theorem ITB.new{t:Bool}{i a:ai}{h:bq}(e:bi h i=ao { cls:=bU (itN t),data:=fm #[bQ a,rL 0 0] }):ITB t i a 0 h:=by cases t;exact⟨_,e,rfl,rfl⟩;exact⟨_,e,rfl,rfl⟩
theorem ztw{t u:Bool}{a b:ai}{xs J:Array ah}{Q:qV}(R:SQB t a s.heap xs)(S:SQB u b s.heap J)
  (h:∀h',ZSt (be s.heap.objs+4) (be s.heap.objs+2) (be s.heap.objs+3) s.heap.objs.size (be s.heap.objs+1) (ITB t s.heap.objs.size a) (ITB u (be s.heap.objs+1) b) kJ 0 h'->be h'.objs=be s.heap.objs+5 ->
   (∀c o,bi s.heap c=ao o->bi h' c=ao o)->Q (bQ (be s.heap.objs+4)) { s with heap:=h' }) :
  wpAny (model prog w) A (call (bU "zip") [bQ a,bQ b]) Q E s:=by
 refine callType_new F.called_zip (by decide) (F.typeCall_zip_2 _ _) (F.newCall_zip_2 _ _) (λobj=>F.args_object_init_3 obj _ _) F.entry_zip_new (zpN t u a b xs J) ⟨R,S,?_⟩;have l:(zA s.heap t a).objs.size=be s.heap.objs+1:=eS ..;have C:(zB s.heap t u a b).objs.size=be s.heap.objs+2:=by rw[eS,l]
 have v:(zC s.heap t u a b).objs.size=be s.heap.objs+3:=by rw[eS,C]
 have I:(zD s.heap t u a b).objs.size=be s.heap.objs+4:=by rw[eS,v]
 have N:(zE s.heap t u a b).objs.size=be s.heap.objs+5:=by rw[eS,I]
 have G:bi (zE s.heap t u a b) (zD s.heap t u a b).objs.size=ao _:=aB _ rfl;have L:bi (zE s.heap t u a b) (zC s.heap t u a b).objs.size=ao _:=aj _ (aB _ rfl);have g3:bi (zE s.heap t u a b) (zB s.heap t u a b).objs.size=ao _:=aj _ (aj _ (aB _ rfl));have g2:bi (zE s.heap t u a b) (zA s.heap t a).objs.size=ao _:=aj _ (aj _ (aj _ (aB _ rfl)));have g1:bi (zE s.heap t u a b) s.heap.objs.size=ao _:=aj _ (aj _ (aj _ (aj _ (aB _ rfl))));show _/\_;rw[C,v,I]at G;rw[l,C]at g3;rw[v]at L;rw[l]at g2;rw[I];refine⟨⟨_,G,rfl⟩,h _ ⟨G,g3,⟨_,_,L⟩,.new g1,.new g2⟩ N λc o x=>?_⟩;iterate 5 refine aj _ ?_
 exact x
end
def Itz(t u:Bool)(K:qF)(a b:ai):It :=
 ⟨λi H=>∃xs l x y,SqB t K H a xs/\SqB u K H b l/\xs[i]?=ao x/\l[i]?=ao y,
  λi H v H'=>∃p x y,H p=bj/\v=.ref p/\(∀xs,SqB t K H a xs->xs[i]?=ao x)/\(∀l,SqB u K H b l->l[i]?=ao y)/\H'=upd H p (.tup [x,y]),
  λi H=>∃xs l,SqB t K H a xs/\SqB u K H b l/\(fo xs<=i\/fo l<=i)⟩
theorem zoX{P:aK}{w:aV}{K:qF}{Y:List bg}{x1:_}{pos:Pos}{t u:Bool}{z TI TO i1 C a b:ai}(D:ZAp z TI TO i1 C a b) :
  Turn P w K (i4 Y x1 pos) (Itz t u K a b) [z,TI,TO,i1,C] z (λi h=>ZSt z TI TO i1 C (ITB t i1 a) (ITB u C b) kJ i h) where
 mem:=by simp
 obj:=λi h st c hc=>by obtain⟨J,ti,⟨S,R,to⟩,j1,G⟩:=st;simp only[ay,aS,or_false]at hc;rcases hc with rfl|rfl|rfl|rfl|rfl;exact⟨_,J,λv y=>by cases y⟩;exact⟨_,ti,λv y=>by cases y⟩;exact⟨_,to,λv y=>by cases y⟩;exact(nx_B (prog:=P) (w:=w) t).rcd _ _ j1;exact(nx_B (prog:=P) (w:=w) u).rcd _ _ G
 keep:=λi h h' st k=>by obtain⟨J,ti,⟨S,R,to⟩,j1,G⟩:=st;exact⟨k _ (by simp) _ J,k _ (by simp) _ ti,⟨S,R,k _ (by simp) _ to⟩,(nx_B (prog:=P) (w:=w) t).keep _ _ _ j1 (k _ (by simp)),(nx_B (prog:=P) (w:=w) u).keep _ _ _ G (k _ (by simp))⟩
 item:=by
  intro X hP hw hK hc i pins s σ H E I hf st hg;subst hP hw hK;obtain⟨xs,ys,x,y,q1,q2,hx,hy⟩:=hg;obtain⟨its,r1,p1,z1⟩:=I.seqB q1;obtain⟨jts,r2,p2,z2⟩:=I.seqB q2;obtain⟨N,hux,rux⟩:=r1.get hx;obtain⟨L,huy,ruy⟩:=r2.get hy;refine ztP D (nx_B t) (nx_B u) st p1 p2 (x:=N) (y:=L) (by simpa using hux) (by simpa using huy) λh' Z pr sz kp=>?_;refine⟨_,rfl,?_⟩;refine wpAny_letOwnedTupleGo_zip (s:={ s with heap:=h' }) Z.zip λh2 z2' sb=>?_;obtain⟨⟨d1,d2,d3,d4,d5,d6,d7,d8,d9,d10⟩,_,_⟩:=zl9 D;have big:∀c∈[z,TI,TO,i1,C],c<be s.heap.objs:=λc hc=>by obtain⟨J,ti,⟨S,R,to⟩,j1,G⟩:=st;simp only[ay,aS,or_false]at hc;rcases hc with rfl|rfl|rfl|rfl|rfl;exact aE J;exact aE ti;exact aE to;obtain⟨o,e,_⟩:=(nx_B (prog:=X.prog) (w:=X.w) t).rcd _ _ j1;exact aE e;obtain⟨o,e,_⟩:=(nx_B (prog:=X.prog) (w:=X.w) u).rcd _ _ G;exact aE e
  have hp:H s.heap.objs.size=bj:=I.hok.fresh (aC _);have I1:Inv X pins σ (upd H s.heap.objs.size (.tup [x,y])) { s with heap:=ee s.heap { cls:=bU "tuple",data:=im #[N,L] } } :=
   I.laid (t':=eA s) (λb o e=>aj _ e) (aC _) (show JS X.prog X.w _ _ _ (.tup [x,y]) from⟨by show 2<=sizeLine;decide,[N,L],hH rux (hH ruy ja),IsTD.new _ _⟩)
  have U:∀c∈[z,TI,TO,i1,C],c≠be s.heap.objs:=λc hc=>aW (big c hc);have fu:∀c∈[z,TI,TO,i1,C],upd H s.heap.objs.size (.tup [x,y]) c=bj:=λc hc=>by rw[Ju (U c hc)];exact(hf c hc).1
  refine⟨.ref s.heap.objs.size,upd H s.heap.objs.size (.tup [x,y]),?_,rfl,⟨_,x,y,hp,rfl,λxs' h=>by rw[I.injB h q1];exact hx,λys' h=>by rw[I.injB h q2];exact hy,rfl⟩,?_,fu⟩;refine Inv.turnedL (s:={ s with heap:=ee s.heap { cls:=bU "tuple",data:=im #[N,L] } }) (t':=eA s) [z,TO,i1,C] I1 (λc o hc e=>?_) λc hc=>?_;simp only[ay,aS,or_false,not_or]at hc;refine sb.extBut _ _ hc.1 ?_;by_cases y:c=be s.heap.objs;subst y;have e':bi (ee s.heap { cls:=bU "tuple",data:=im #[N,L] }) s.heap.objs.size=ao _:=aB _ rfl;have e2:ao o=ao _:=b4 e.symm e';cases e2;exact pr;have e':bi s.heap c=ao o:=by have e3:bi (ee s.heap { cls:=bU "tuple",data:=im #[N,L] }) c=ao o:=e;rwa [fB _ _ _ y]at e3
  exact kp c o hc.1 hc.2.1 hc.2.2.1 hc.2.2.2 e';have m:c∈[z,TI,TO,i1,C]:=by simp only[ay,aS,or_false]at hc ⊢;rcases hc with h|h|h|h <;> simp[h]
  exact⟨fu c m,(hf c m).2⟩;obtain⟨J,ti,⟨S,R,to⟩,j1,G⟩:=Z;exact⟨z2',sb.extBut _ _ d1.symm ti,⟨S,R,sb.extBut _ _ d2.symm to⟩,(nx_B (prog:=X.prog) (w:=X.w) t).keep _ _ _ j1 λo e=>sb.extBut _ _ d3.symm e,(nx_B (prog:=X.prog) (w:=X.w) u).keep _ _ _ G λo e=>sb.extBut _ _ d4.symm e⟩
 done:=by intro X hP hw hK hc i pins s σ H E I hf st hg;subst hP hw hK;obtain⟨xs,ys,q1,q2,hx⟩:=hg;obtain⟨its,r1,p1,z1⟩:=I.seqB q1;obtain⟨jts,r2,p2,z2⟩:=I.seqB q2;have l1:=r1.length;have l2:=r2.length;refine ztO (I.ok.hd hc) D (nx_B t) (nx_B u) st p1 p2 (by rcases hx with h|h;exact dY (by simp;omega);exact sr (by simp;omega)) λh' kp=>⟨rfl,?_⟩;refine Inv.turnedL (t':=eA s) [z,TO,i1,C] I (λc o hc e=>?_) λc hc=>hf c ?_;simp only[ay,aS,or_false,not_or]at hc;exact kp c o hc.1 hc.2.1 hc.2.2.1 hc.2.2.2 e;simp only[ay,aS,or_false]at hc ⊢;rcases hc with h|h|h|h <;> simp[h]
 self:=λ_ _ _ _ _ st h=>r8 st.zip h
section
variable{X:Cx}{a b:bg}{elts:List bg}{x1:Nat}{p p' pos:Pos}
def iZip(K:qF)(v:TA):TI:=λσ H R=>v σ H λx l=>∃(t u:Bool) (c d:ai) (xs o:List V),x=[.ref c,.ref d]/\SqB t K l c xs/\SqB u K l d o/\R (Itz t u K c d) l
theorem SQB.lt{t:Bool}{c:ai}{xs:Array ah}{h:bq}(x:SQB t c h xs):c<be h.objs:=by cases t;obtain⟨o,e,_⟩:=x;exact aE e;obtain⟨o,e,_⟩:=x;exact aE e
theorem zrC{n:Nat}{c d:ai}(u:c<n)(o:d<n):ZAp (n+4) (n+2) (n+3) n (n+1) c d:=by
 have ne:∀(e:ai) (k:Nat),e<n->e≠n+k:=λe k h=>aW (aI h (cK _ _));refine⟨by simp,λe he=>?_⟩;have l:e<n:=by simp only[ay,aS,or_false]at he;rcases he with rfl|rfl;exact u;exact o
 simp only[ay,aS,or_false,not_or];exact⟨ne e 4 l,ne e 2 l,ne e 3 l,aW l,ne e 1 l⟩
theorem zuz{U:TA}(hg:Gl X "zip") (hm:X.mg "zip" = bj) (ha:PA X [a,b] U) (Z:starEach [a,b] X.env=[(dy,eval a X.env),(dy,eval b X.env)]) (v:starEach [b] X.env=[(dy,eval b X.env)]) :
  PI X (i4 elts x1 p') (f9 (bv "zip" p) [a,b] [] pos) (iZip X.K U):=by
 intro pins s σ H R I h;refine Call_ (YU I hg hm boot_zip (fJ (thn (ha pos pins s σ H _ I h) λus s1 ⟨vs,H1,o,Y,q1⟩=>?_) (by rw[Z,v]) (by rw[v];rfl)));obtain⟨t,u,c,d,xs,ys,rfl,J,G,q⟩:=q1;cases Y with
 | cons r x =>
  cases x with
  | cons r' x =>
   cases x;cases r;cases r';obtain⟨its,_,L,_⟩:=o.seqB J;obtain⟨jts,_,S,_⟩:=o.seqB G;refine ztw L S λh' st sz kp=>?_;refine r8 (s:={ s1 with heap:=h' }) st.zip ?_;refine⟨_,_,_,_,H1,rfl,o.kept (t':=eA s1) kp,zoX (zrC L.lt S.lt),st,λe he=>?_,q⟩;have ge:be s1.heap.objs<=e:=by simp only[ay,aS,or_false]at he;rcases he with rfl|rfl|rfl|rfl|rfl;exact cK _ _;exact cK _ _;exact cK _ _;exact aC _;exact cK _ _
   exact o.fpOk ge (o.hok.fresh ge)
theorem srcB{K:qF}{hd:Option ai}{P O:ai->Prop}{H:Hp}{v:V}{t:af}{ts:qD}(N:∀a,¬O a->P a)(r:Rep K hd O H v t)(h:t=lV ts\/t=sJ ts) :
  ∃(k:Bool) (q:ai) (x:List V),v=.ref q/\SqB k K H q x/\∀(G:ai->Prop) (C:Hp),(∀a o,H a=ao o->P a->C a=ao o)->(∀a o,H a=ao o->¬O a->¬G a)->SqB k K C q x/\Reps K hd G C x ts:=by
 have R:∀x,Reps K hd O H x ts->∀(G:ai->Prop) (C:Hp),(∀a o,H a=ao o->P a->C a=ao o)->(∀a o,H a=ao o->¬O a->¬G a)->Reps K hd G C x ts:=λx r G C I J =>
  r.mono (λa o ha z=>eZ λno=>J a o ha no z) λa o no ha=>I a o ha (N a no)
 rcases h with rfl|rfl;cases r with
 | @tup q x ds h o r=>exact⟨du,q,x,rfl,dY (dY h),λG C I J=>⟨dY (dY (I q _ h (N q o))),R x r G C I J⟩⟩
 | @tupS q x ds h r=>exact⟨du,q,x,rfl,h.sq,λG C I J=>⟨h.sq,R x r G C I J⟩⟩
 obtain⟨q,x,rfl,L,no,r⟩:=r.lstI;exact⟨dy,q,x,rfl,SqL.of L,λG C I J=>⟨SqL.of (I q _ L (N q no)),R x r G C I J⟩⟩
def zipD(xs o:qD):List af:=(xs.zip o).map λq=>lV [q.1,q.2]
def dZip(C db:DTE):DTA:=λl n R=>C l n λx u=>db l u λy v=>J0 x λxs=>J0 y λo=>R (zipD xs o) v
theorem zkF{t:af}{R:qD->Prop}(h:J0 t R):∃ts,(t=lV ts\/t=sJ ts)/\R ts:=by
 cases t with
 | list ts=>exact⟨ts,sr rfl,h⟩
 | tuple ts=>exact⟨ts,dY rfl,h⟩
 | _=>exact e9 h
theorem zrr{da db:DTE}(hm:X.mg "zip" = bj) (h:DE X a da) (h':DE X b db) (hg:Gl X "zip":=by rfl) (hs:starEach [a,b] X.env=[(dy,eval a X.env),(dy,eval b X.env)]:=by rfl) (G:starEach [b] X.env=[(dy,eval b X.env)]:=by rfl) :
  DI X (i4 elts x1 p') (f9 (bv "zip" p) [a,b] [] pos) (dZip da db):=by
 obtain⟨ta,pa,h⟩:=h;obtain⟨tb,pb,h'⟩:=h';refine⟨_,zuz hg hm (Ue pa (Ue pb UW G) (by rw[hs,G])) hs G,λC ρ σ H n Q R S hd hq=>?_⟩;refine h C ρ σ H n _ _ S hd λx n1 v H1 r1 e1 hn1 q1=>?_;have S1:=S.on e1 hn1;refine h' C ρ σ H1 n1 _ _ S1 r1 λy n2 w H2 Z e2 hn2 q2=>?_;have q1':=e2.rep S.hx q1;obtain⟨xs,hx,Z⟩:=zkF Z;obtain⟨ys,hy,Z⟩:=zkF Z;obtain⟨k1,c,vs,rfl,s1,f1⟩:=srcB (P:=λa=>¬Own C ρ σ a) (λ_ z=>z) q1' hx;obtain⟨k2,d,ws,rfl,s2,f2⟩:=srcB (P:=λa=>¬Own C ρ σ a) (λ_ z=>z) q2 hy;refine⟨k1,k2,c,d,vs,ws,rfl,s1,s2,hq _ n2 _ H2 Z (e1.trans e2) hn2 ?_⟩;intro O2 H3 h1 h2 h3;obtain⟨g1,U⟩:=f1 O2 H3 h1 h2;obtain⟨g2,Y⟩:=f2 O2 H3 h1 h2;refine⟨λi t I=>?_,?_⟩;unfold zipD at I;rw[bK]at I;cases ez:(xs.zip ys)[i]? with
 | none=>rw[ez]at I;cases I
 | some q =>rw[ez]at I;cases I;obtain⟨ex,ey⟩:=mI.mp ez;obtain⟨vx,L,rx⟩:=U.get ex;obtain⟨vy,J,ry⟩:=Y.get ey;refine⟨⟨vs,ws,vx,vy,g1,g2,L,J⟩,λv H4 hyd=>?_⟩;obtain⟨pp,x',y',hp,rfl,hx',hy',rfl⟩:=hyd;have e1:x'=vx:=aX ((hx' vs g1).symm.trans L);have e2:y'=vy:=aX ((hy' ws g2).symm.trans J);subst e1 e2;exact⟨Qf hp,.newT (λz=>h3 pp z hp) hp (.cons rx (.cons ry .nil))⟩
 refine⟨vs,ws,g1,g2,?_⟩;have:=U.length;have:=Y.length;unfold zipD;simp only[aG,lB];omega
variable{d da db:DTE}{dlo dhi:DTO}{ρ:En}{n:Nat}{Ro:Option Int->Nat->Prop}{Rl:qD->Nat->Prop}{xs ys:qD}{lo hi:Option Int}{Ql:qD->Prop}
theorem zwa(h:d ρ n λt l=>dlo ρ l λlo u=>dhi ρ u λhi o=>lSl t lo hi λz=>Rl z o):dSlL d dlo dhi ρ n Rl:=h
theorem znF(h:Ro bj n):zjY ρ n Ro:=h
theorem zsW(h:d ρ n λt l=>lInt t λi=>Ro (ao i) l):ztq d ρ n Ro:=h
theorem zyF(h:Ql (cutD xs lo hi)):lSl (sJ xs) lo hi Ql:=h
theorem zv7(h:da ρ n λx l=>db ρ l λy o=>J0 x λxs=>J0 y λys=>Rl (zipD xs ys) o):dZip da db ρ n Rl:=h
end
theorem znG{α:Type}{cs:List α}{f:α->Bool}{R:af->Prop}(h:R (dQ (cs.any f))):bAny [sJ (cs.map λb=>dQ (f b))] R:=by
 have e:(cs.map λb=>dQ (f b))=(cs.map f).map dQ:=by simp
 rw[e];refine⟨cs.map f,rfl,?_⟩;have u:(cs.map f).any id=cs.any f:=by simp[lR,ka]
 rw[u];exact h
theorem zy5{α:Type}{cs:List α}{f:α->Int}{R:af->Prop}(h:R (bu (cs.map f).sum)):bSum [sJ (cs.map λb=>bu (f b))] R:=by
 have e:(cs.map λb=>bu (f b))=(cs.map f).map bu:=by simp
 rw[e];exact⟨cs.map f,rfl,h⟩
theorem WG{cs:qD}{tg:DTG}{tt:DTT}{d:DTE}{ρ0:En}{n:Nat}{Rl:qD->Nat->Prop}(F:af->af)(u:fo cs<=16777216)
  (step:∀b∈cs,∀(K:qN) (X:Nat->Prop),K (F b) n->tg b ρ0 λl=>tt l n λc o=>if c=du then d l o K else X o) (fin:Rl (cs.map F) n):Qb tg tt d ρ0 cs [] n Rl:=by
 have:=Qt (cs:=cs) (D:=λt=>t) (tg:=tg) (tt:=tt) (d:=d) (ρ0:=ρ0) (n:=n) (Rl:=Rl) F u step fin;simpa using this
theorem zqv{ts:qD}:cutD ts (ao 1) bj=ts.tail:=by
 unfold cutD;rw[HT.zeY,show(ao (1:Int))=ao ((1:Nat):Int) from rfl,HT.zjm];cases ts with
 | nil=>simp
 | cons a l =>
  have:min 1 (fo (a::l))=1:=by simp
  rw[this];simp
theorem ztN{bs:qB}:zipD (pD bs) (pD bs).tail=(bs.zip bs.tail).map λq=>lV [prD q.1,prD q.2]:=by unfold zipD pD;rw[<- List.map_tail,List.zip_map];simp
theorem zk2{bits:Int}{bs:qB}:(∀q∈bs.zip bs.tail,eB q.1<=q.2.1)↔bs.Pairwise λa b=>eB a<=b.1:=by
 induction bs with
 | nil=>simp
 | cons a l o =>
  cases l with
  | nil=>simp
  | cons b l =>simp only[List.tail_cons,iQ,oR]at o ⊢;rw[o];constructor;rintro⟨v,u⟩;refine cx.mpr ⟨λc hc=>?_,u⟩;rcases ay.mp hc with rfl|hc;exact v;have:=(cx.mp u).1 c hc;have:=Qd b;omega;intro h;have h':=cx.mp h;exact⟨h'.1 b (jc _),h'.2⟩
class Stp (P:Prop)(Q:outParam Prop):Prop where
 go:Q->P
section
variable{t u tb:DTS}{D:JY}{ρ:En}{n i j:Nat}{d da db dc:DTE}{ds di:DTA}{c c':DTT}{g:G2}{g':G2}{gc:GC}{gd:GD}{tg:DTG}{tgs:DTGs}{R:qN}{Rb:Bool->Nat->Prop}{Rl:qD->Nat->Prop}{Re:En->Prop}{x y:af}{xs:qD}{fb:af->Bool}
instance zxc :Stp (sSeq t u D ρ n) ((t { D with nx:=u D } ρ n)):=⟨λh=>zvY h⟩
instance zt9 :Stp (VV D ρ n) ((D.nx ρ n)):=⟨λh=>zsR h⟩
instance zxd :Stp (sRet d D ρ n) ((d ρ n λt n'=>D.rt t n')):=⟨λh=>zvZ h⟩
instance zyg :Stp (sIf c t u D ρ n) ((c ρ n λb n1=>if b=du then t D ρ n1 else u D ρ n1)):=⟨λh=>zy6 h⟩
instance zxf :Stp (sAsg d tg D ρ n) ((d ρ n λt n'=>tg t ρ λρ'=>D.nx ρ' n')):=⟨λh=>zv1 h⟩
instance zxe :Stp (sFor di tg tb D ρ n) ((di ρ n λts n1=>forP tg tb D ts ρ n1)):=⟨λh=>zv0 h⟩
instance zzF :Stp (dC x ρ n R) ((R x n)):=⟨λh=>i_dC h⟩
instance zyi :Stp (dOp g da db ρ n R) ((da ρ n λx n1=>db ρ n1 λy n2=>g x y λz=>R z n2)):=⟨λh=>zy_ h⟩
instance zxq :Stp (dNew ds ρ n R) ((ds ρ n λts n'=>R (sJ ts) n')):=⟨λh=>zwe h⟩
instance zxk :Stp (dTup ds ρ n R) ((ds ρ n λts n1=>R (lV ts) n1)):=⟨λh=>zv9 h⟩
instance zxp :Stp (dNil ρ n Rl) ((Rl [] n)):=⟨λh=>zwd h⟩
instance zue :Stp (JZ d ds ρ n Rl) ((d ρ n λt n1=>ds ρ n1 λts n2=>Rl (t::ts) n2)):=⟨λh=>zsY h⟩
instance zyj :Stp (dFn gd ds ρ n R) ((ds ρ n λts n1=>gd ts n1 R)):=⟨λh=>zza h⟩
instance zxv :Stp (dFnL gd ds ρ n R) ((ds ρ n λts n1=>gd ts n1 λt n2=>Qg t=du/\R t n2)):=⟨λh=>zwj h⟩
instance ztM :Stp (Y1 gc ds ρ n R) ((ds ρ n λts n1=>gc ts λz=>R z n1)):=⟨λh=>zp9 h⟩
instance zxh :Stp (isiD fb d ρ n R) ((d ρ n λt n1=>lIsi fb t λz=>R z n1)):=⟨λh=>zv5 h⟩
instance zxx :Stp (dAnd c c' ρ n Rb) ((c ρ n λb n1=>if b=du then c' ρ n1 Rb else Rb dy n1)):=⟨λh=>zwl h⟩
instance zyh :Stp (dOr c c' ρ n Rb) ((c ρ n λb n1=>if b=du then Rb du n1 else c' ρ n1 Rb)):=⟨λh=>zy9 h⟩
instance zxo :Stp (dNot c ρ n Rb) ((c ρ n λb n1=>Rb (!b) n1)):=⟨λh=>zwc h⟩
instance zuf :Stp (zts da db ρ n R) ((da ρ n λt n1=>bolD t λb=>if b=du then db ρ n1 R else R (dQ dy) n1)):=⟨λh=>zs0 h⟩
instance zxn :Stp (dOrV da db ρ n R) ((da ρ n λt n1=>bolD t λb=>if b=du then R (dQ du) n1 else db ρ n1 R)):=⟨λh=>zwb h⟩
instance zud :Stp (ztr da ρ n R) ((da ρ n λt n1=>bolD t λb=>R (dQ (!b)) n1)):=⟨λh=>zsX h⟩
instance zxu :Stp (dIfE c da db ρ n R) ((c ρ n λb n1=>if b=du then da ρ n1 R else db ρ n1 R)):=⟨λh=>zwi h⟩
instance zxl :Stp (dTru d ρ n Rb) ((d ρ n λt n'=>truD t λb=>Rb b n')):=⟨λh=>zv_ h⟩
instance zxj :Stp (dYes ρ n Rb) ((Rb du n)):=⟨λh=>zv8 h⟩
instance zt7 :Stp (UQ tgs (lV xs) ρ Re) ((tgs xs ρ Re)):=⟨λh=>zsP h⟩
instance zt8 :Stp (UP [] ρ Re) ((Re ρ)):=⟨λh=>zsQ h⟩
instance ztK :Stp (QS tg tgs (x::xs) ρ Re) ((tg x ρ λρ'=>tgs xs ρ' Re)):=⟨λh=>zp6 h⟩
instance zt_ :Stp (Ui d ρ n Rb) ((d ρ n λt n'=>bolD t λb=>Rb b n')):=⟨λh=>zsT h⟩
instance zxw :Stp (dCat da db ρ n Rl) ((da ρ n λx n1=>db ρ n1 λy n2=>lCat x y λzs=>Rl zs n2)):=⟨λh=>zwk h⟩
instance zxt :Stp (dItL d ρ n Rl) ((d ρ n λt n'=>lLst t λts=>Rl ts n')):=⟨λh=>zwh h⟩
instance zxs :Stp (dItT d ρ n Rl) ((d ρ n λt n'=>lTup t λts=>Rl ts n')):=⟨λh=>zwg h⟩
instance zub :Stp (Zx d ρ n Rl) ((d ρ n λt n'=>lInt t λj=>(-(2 ^ 62)<=j/\j<2 ^ 62)/\Rl (QL 0 (ap j)) n')):=⟨λh=>zsV h⟩
instance zxr :Stp (dNeg d ρ n R) ((d ρ n λt n'=>lInt t λi=>R (bu (-i)) n')):=⟨λh=>zwf h⟩
instance ztL :Stp (Y2 g g' da db dc ρ n R) ((da ρ n λx n1=>db ρ n1 λy n2=>g x y λz=>bolD z λb=>if b=du then dc ρ n2 λw n3=>g' y w λz=>R z n3 else R (dQ dy) n2)):=⟨λh=>zp8 h⟩
instance zxg {b:Bool}{A B:Prop}:Stp (if (!b)=du then A else B) ((if b=du then B else A)):=⟨λh=>zv3 h⟩
end
section
variable{fb:Int->Int->Bool}{i j:Int}{R:af->Prop}{Rb:Bool->Prop}{xs ys:qD}{s t:Str}{a b:Bool}{u v:af}
instance zxb :Stp (oAdd (bu i) (bu j) R) ((R (bu (i+j)))):=⟨λh=>zvR h⟩
instance zxa :Stp (oAdd (cH s) (cH t) R) (((nN s+nN t<=16777216/\R (cH (s++t))))):=⟨λh=>zvQ h⟩
instance zw_ :Stp (oAdd (lV xs) (lV ys) R) (((fo xs+fo ys<=16777216/\R (lV (xs++ys))))):=⟨λh=>zvP h⟩
instance zyc :Stp (oEq (bu i) (bu j) R) ((R (dQ (decide (i=j))))):=⟨λh=>zy1 h⟩
instance zya :Stp (oEq (cH s) (cH t) R) ((R (dQ (decide (s=t))))):=⟨λh=>zyZ h⟩
instance zx_ :Stp (oEq (lV xs) (lV ys) R) (((Okd (lV xs)/\Okd (lV ys)/\R (dQ (dP (lV xs) (lV ys)))))):=⟨λh=>zyY h⟩
instance zyb :Stp (oEq (sJ xs) (sJ ys) R) (((Okd (sJ xs)/\Okd (sJ ys)/\R (dQ (dP (sJ xs) (sJ ys)))))):=⟨λh=>zy0 h⟩
instance zxX :Stp (oNe (bu i) (bu j) R) ((R (dQ (!decide (i=j))))):=⟨λh=>zyK h⟩
instance zxV :Stp (oNe (cH s) (cH t) R) ((R (dQ (!decide (s=t))))):=⟨λh=>zyI h⟩
instance zxU :Stp (oNe (lV xs) (lV ys) R) (((Okd (lV xs)/\Okd (lV ys)/\R (dQ (!PyData.eqv (lV xs) (lV ys)))))):=⟨λh=>zyH h⟩
instance zxW :Stp (oNe (sJ xs) (sJ ys) R) (((Okd (sJ xs)/\Okd (sJ ys)/\R (dQ (!PyData.eqv (sJ xs) (sJ ys)))))):=⟨λh=>zyJ h⟩
instance zx7 :Stp (oIs (dQ a) (dQ b) R) ((R (dQ (a == b)))):=⟨λh=>zyV h⟩
instance zx6 :Stp (oIs u fq R) ((R (dQ (isNone u)))):=⟨λh=>zyU h⟩
instance zt6 :Stp (oIsN u fq R) ((R (dQ (!isNone u)))):=⟨λh=>zsJ h⟩
instance zx9 :Stp (oIn u (lV xs) R) (((Okd u/\(∀t∈xs,Okd t)/\R (dQ (xs.any λt=>t.eqv u))))):=⟨λh=>zyX h⟩
instance ztH :Stp (ZN u (lV xs) R) (((Okd u/\(∀t∈xs,Okd t)/\R (dQ (!xs.any λt=>t.eqv u))))):=⟨λh=>zpZ h⟩
instance zx2 :Stp (oLtA (bu i) (bu j) R) ((R (dQ (decide (i<j))))):=⟨λh=>zyP h⟩
instance zx5 :Stp (oLeA (bu i) (bu j) R) ((R (dQ (decide (i<=j))))):=⟨λh=>zyS h⟩
instance zx4 :Stp (oLeA (cH s) (cH t) R) ((R (dQ (!decide (nK t.cps<nK s.cps))))):=⟨λh=>zyR h⟩
instance zw5 :Stp (oIx (lV (u::xs)) (bu 0) R) ((R u)):=⟨λh=>zvK h⟩
instance zw4 :Stp (oIx (lV (u::v::xs)) (bu 1) R) ((R v)):=⟨λh=>zvJ h⟩
instance zw3 {w:af}:Stp (oIx (lV (u::v::w::xs)) (bu 2) R) ((R w)):=⟨λh=>zvI h⟩
instance zw7 :Stp (oIx (sJ (u::xs)) (bu 0) R) ((R u)):=⟨λh=>Wh h⟩
instance zw6 :Stp (oIx (sJ (u::v::xs)) (bu 1) R) ((R v)):=⟨λh=>zrc h⟩
instance zwZ :Stp (truD (dQ a) Rb) ((Rb a)):=⟨λh=>zvB h⟩
instance zwY :Stp (truD (sJ xs) Rb) ((Rb (!(g5 xs)))):=⟨λh=>zvA h⟩
instance zye :Stp (bolD (dQ a) Rb) ((Rb a)):=⟨λh=>zy3 h⟩
instance zw2 :Stp (bLen [sJ xs] R) ((R (bu (fo xs)))):=⟨λh=>zvH h⟩
instance zw0 :Stp (bLen [lV xs] R) ((R (bu (fo xs)))):=⟨λh=>zvF h⟩
instance zw1 :Stp (bLen [cH s] R) (((nN s<=16777216/\R (bu (nN s))))):=⟨λh=>zvG h⟩
instance ztI {ns:List Int}:Stp (bLen [SCR ns] R) ((R (bu (fo ns)))):=⟨λh=>zp0 h⟩
instance zx0 :Stp (bMin [bu i,bu j] R) ((R (bu (if j<i then j else i)))):=⟨λh=>zyN h⟩
instance zx1 :Stp (bMax [bu i,bu j] R) ((R (bu (if j > i then j else i)))):=⟨λh=>zyO h⟩
instance zw8 :Stp (bInt [dQ a] R) ((R (bu (if a then 1 else 0)))):=⟨λh=>zvN h⟩
instance ztG :Stp (Wn [sJ xs] R) ((R (lV xs))):=⟨λh=>zpY h⟩
instance zt5 {Rl:qD->Prop}:Stp (J0 (sJ xs) Rl) ((Rl xs)):=⟨λh=>zsI h⟩
instance ztJ {Rl:qD->Prop}:Stp (J0 (lV xs) Rl) ((Rl xs)):=⟨λh=>zp2 h⟩
instance zyd {Q:qD->Prop}:Stp (lCat (sJ xs) (sJ ys) Q) (((fo xs+fo ys<=16777216/\Q (xs++ys)))):=⟨λh=>zy2 h⟩
instance zx3 {Q:qD->Prop}:Stp (lLst (sJ xs) Q) ((Q xs)):=⟨λh=>zyQ h⟩
instance zxQ {Q:qD->Prop}:Stp (lTup (lV xs) Q) ((Q xs)):=⟨λh=>zyD h⟩
instance zx8 {i:Int}{Q:Int->Prop}:Stp (lInt (bu i) Q) ((Q i)):=⟨λh=>zyW h⟩
instance zxY :Stp (oMul (bu i) (bu j) R) ((CMul i j)/\(R (bu (i*j)))):=⟨λh=>zyL h.1 h.2⟩
instance zxZ :Stp (oMod (bu i) (bu j) R) ((0<j)/\(R (bu (i % j)))):=⟨λh=>zyM h.1 h.2⟩
instance zw9 :Stp (UN (bu i) (bu j) R) ((Zy i j)/\(R (bu (i / j)))):=⟨λh=>zvO h.1 h.2⟩
instance zxT :Stp (oShl (bu i) (bu j) R) ((CPow i j)/\(R (bu (i*2 ^ ap j)))):=⟨λh=>zyG h.1 h.2⟩
instance zxR :Stp (oSub (bu i) (bu j) R) ((R (bu (i - j)))):=⟨λh=>zyE h⟩
instance zxP :Stp (oXor (bu i) (bu j) R) ((R (bu (bW i j)))):=⟨λh=>zyC h⟩
instance zyf :Stp (oAnd (bu i) (bu j) R) ((R (bu (hZ i j)))):=⟨λh=>zy4 h⟩
instance zzC :Stp (gB fb (bu i) (bu j) R) ((R (dQ (fb i j)))):=⟨λh=>j_gB h⟩
instance zpa :Stp (lIsi isInt (bu i) R) ((R (dQ du))):=⟨λh=>zjQ h⟩
instance zoT :Stp (lIsi isInt (dQ a) R) ((R (dQ du))):=⟨λh=>ziU h⟩
instance zo_ :Stp (lIsi isInt (cH s) R) ((R (dQ dy))):=⟨λh=>zjP h⟩
instance zmv :Stp (lIsi isInt (lV xs) R) ((R (dQ dy))):=⟨λh=>zho h⟩
instance zoR :Stp (lIsi isInt (sJ xs) R) ((R (dQ dy))):=⟨λh=>ziS h⟩
instance zoQ :Stp (lIsi isInt (fq) R) ((R (dQ dy))):=⟨λh=>ziR h⟩
instance zoS :Stp (lIsi isInt (sI []) R) ((R (dQ dy))):=⟨λh=>ziT h⟩
instance zoU :Stp (lIsi isBool (bu i) R) ((R (dQ dy))):=⟨λh=>ziV h⟩
instance zmw :Stp (lIsi isBool (dQ a) R) ((R (dQ du))):=⟨λh=>zhp h⟩
instance zo7 :Stp (lIsi isTup (bu i) R) ((R (dQ dy))):=⟨λh=>zjM h⟩
instance zoL :Stp (lIsi isTup (dQ a) R) ((R (dQ dy))):=⟨λh=>ziM h⟩
instance zo6 :Stp (lIsi isTup (cH s) R) ((R (dQ dy))):=⟨λh=>zjL h⟩
instance zmt :Stp (lIsi isTup (lV xs) R) ((R (dQ du))):=⟨λh=>zhm h⟩
instance zoJ :Stp (lIsi isTup (sJ xs) R) ((R (dQ dy))):=⟨λh=>ziK h⟩
instance zoI :Stp (lIsi isTup (fq) R) ((R (dQ dy))):=⟨λh=>ziJ h⟩
instance zoK :Stp (lIsi isTup (sI []) R) ((R (dQ dy))):=⟨λh=>ziL h⟩
instance zo9 :Stp (lIsi isStr (bu i) R) ((R (dQ dy))):=⟨λh=>zjO h⟩
instance zoP :Stp (lIsi isStr (dQ a) R) ((R (dQ dy))):=⟨λh=>ziQ h⟩
instance zo8 :Stp (lIsi isStr (cH s) R) ((R (dQ du))):=⟨λh=>zjN h⟩
instance zmu :Stp (lIsi isStr (lV xs) R) ((R (dQ dy))):=⟨λh=>zhn h⟩
instance zoN :Stp (lIsi isStr (sJ xs) R) ((R (dQ dy))):=⟨λh=>ziO h⟩
instance zoM :Stp (lIsi isStr (fq) R) ((R (dQ dy))):=⟨λh=>ziN h⟩
instance zoO :Stp (lIsi isStr (sI []) R) ((R (dQ dy))):=⟨λh=>ziP h⟩
end
section
variable{d da db:DTE}{dlo dhi:DTO}{ρ:En}{n:Nat}{Ro:Option Int->Nat->Prop}{Rl:qD->Nat->Prop}{xs ys:qD}{lo hi:Option Int}{Ql:qD->Prop}
instance zxm :Stp (dSlL d dlo dhi ρ n Rl) ((d ρ n λt n1=>dlo ρ n1 λlo n2=>dhi ρ n2 λhi n3=>lSl t lo hi λz=>Rl z n3)):=⟨λh=>zwa h⟩
instance zrM :Stp (zjY ρ n Ro) ((Ro bj n)):=⟨λh=>znF h⟩
instance zuc :Stp (ztq d ρ n Ro) ((d ρ n λt n'=>lInt t λi=>Ro (ao i) n')):=⟨λh=>zsW h⟩
instance zxi :Stp (dZip da db ρ n Rl) ((da ρ n λx n1=>db ρ n1 λy n2=>J0 x λxs=>J0 y λys=>Rl (zipD xs ys) n2)):=⟨λh=>zv7 h⟩
instance zxS :Stp (lSl (sJ xs) lo hi Ql) ((Ql (cutD xs lo hi))):=⟨λh=>zyF h⟩
instance zua {d:DTE}{ρ:En}{n:Nat}{Rl:qD->Nat->Prop}:Stp (ztp d ρ n Rl) ((d ρ n λt n1=>Yu t λts=>Rl ts n1)):=⟨λh=>zsU h⟩
variable{A B:Prop}
instance zzD:Stp (if du=du then A else B) A:=⟨λh=>iteT h⟩
instance zzE:Stp (if dy=du then A else B) B:=⟨λh=>iteF h⟩
end
class GetN (ρ:En)(i:Nat)(c:outParam (Option Cell)):Prop where
 e:ρ[i]?=ao c
class SetN (ρ:En)(i:Nat)(c:Option Cell)(ρ':outParam En):Prop where
 e:ce ρ i c=ρ'
instance{a0:Option Cell}{as:En}:GetN (a0::as) 0 a0:=⟨rfl⟩
instance{a0 c:Option Cell}{as:En}:SetN (a0::as) 0 c (c::as):=⟨rfl⟩
instance{a0 a1:Option Cell}{as:En}:GetN (a0::a1::as) 1 a1:=⟨rfl⟩
instance{a0 a1 c:Option Cell}{as:En}:SetN (a0::a1::as) 1 c (a0::c::as):=⟨rfl⟩
instance{a0 a1 a2:Option Cell}{as:En}:GetN (a0::a1::a2::as) 2 a2:=⟨rfl⟩
instance{a0 a1 a2 c:Option Cell}{as:En}:SetN (a0::a1::a2::as) 2 c (a0::a1::c::as):=⟨rfl⟩
instance{a0 a1 a2 a3:Option Cell}{as:En}:GetN (a0::a1::a2::a3::as) 3 a3:=⟨rfl⟩
instance{a0 a1 a2 a3 c:Option Cell}{as:En}:SetN (a0::a1::a2::a3::as) 3 c (a0::a1::a2::c::as):=⟨rfl⟩
instance{a0 a1 a2 a3 c:Option Cell}{as:En}{i:Nat}[h:GetN as i c]:GetN (a0::a1::a2::a3::as) (i+4) c:=⟨h.e⟩
instance{a0 a1 a2 a3 c:Option Cell}{as bs:En}{i:Nat}[h:SetN as i c bs]:SetN (a0::a1::a2::a3::as) (i+4) c (a0::a1::a2::a3::bs):=⟨by rw[<- h.e];rfl⟩
class NormE (ρ:En)(ρ':outParam En):Prop where
 e:ρ=ρ'
instance{a:Option Cell}{as:En}:NormE (a::as) (a::as):=⟨rfl⟩
instance{ρ ρ1 ρ2:En}{i:Nat}{c:Option Cell}[h:NormE ρ ρ1][k:SetN ρ1 i c ρ2]:NormE (ce ρ i c) ρ2:=⟨by rw[h.e];exact k.e⟩
class NoneN (as:En)(nn:outParam En):Prop where
 e:cG (fo as) bj=nn
instance:NoneN [] []:=⟨rfl⟩
instance{a:Option Cell}{as nn:En}[h:NoneN as nn]:NoneN (a::as) (bj::nn):=⟨by rw[aP,cJ,h.e]⟩
class StartN (N:List Str)(ts:qD)(ρ:outParam En):Prop where
 e:Qm N ts=ρ
instance:StartN [] [] []:=⟨rfl⟩
instance{x:Str}{N:List Str}{ρ:En}[h:StartN N [] ρ]:StartN (x::N) [] (bj::ρ):=⟨by have:=h.e;simp only[Qm,fL,fF,dh,wm]at this ⊢;rw[aP,cJ,this]⟩
instance{x:Str}{N:List Str}{t:af}{ts:qD}{ρ:En}[h:StartN N ts ρ]:StartN (x::N) (t::ts) (ao (.val t)::ρ):=⟨by have:=h.e;simp only[Qm]at this ⊢;rw[aU,aP,aP,eM,Nat.add_sub_add_right,this]⟩
theorem zlc{d:DTS}{D:JY}{n:Nat}{N:List Str}{ts:qD}{l:En}[e:StartN N ts l](h:d D l n):d D (Qm N ts) n:=dv e.e▸h
class CapN (is:List Nat)(ρ:En)(out:outParam En):Prop where
 e:(is.map λi=>capV (ρ.getD i bj))=out
class CapC (c:Option Cell)(c':outParam (Option Cell)):Prop where
 e:capV c=c'
instance{d:af}:CapC (ao (.val d)) (ao (.val d)):=⟨rfl⟩
instance{d:qD}:CapC (ao (.own d)) bj:=⟨rfl⟩
instance:CapC bj bj:=⟨rfl⟩
instance{ρ:En}:CapN [] ρ []:=⟨rfl⟩
instance{i:Nat}{is:List Nat}{ρ out:En}{c c':Option Cell}[g:GetN ρ i c][k:CapC c c'][h:CapN is ρ out]:CapN (i::is) ρ (c'::out):=⟨by have ge:=g.e;rw[aU,h.e,bE,ge,fc,k.e]⟩
class CompN (m:Nat)(capt:List Nat)(ρ:En)(ρ':outParam En):Prop where
 e:JV m capt ρ=ρ'
instance{x:Str}{capt:List Nat}{ρ out:En}[h:CapN capt ρ out]:CompN (fo [x]) capt ρ (bj::out):=⟨by unfold JV;rw[h.e];rfl⟩
instance{x y:Str}{capt:List Nat}{ρ out:En}[h:CapN capt ρ out]:CompN (fo [x,y]) capt ρ (bj::bj::out):=⟨by unfold JV;rw[h.e];rfl⟩
instance{x y z:Str}{capt:List Nat}{ρ out:En}[h:CapN capt ρ out]:CompN (fo [x,y,z]) capt ρ (bj::bj::bj::out):=⟨by unfold JV;rw[h.e];rfl⟩
instance{x y z u:Str}{capt:List Nat}{ρ out:En}[h:CapN capt ρ out]:CompN (fo [x,y,z,u]) capt ρ (bj::bj::bj::bj::out):=⟨by unfold JV;rw[h.e];rfl⟩
def SetK(i:Nat)(c:Option Cell)(K:En->Nat->Prop)(l:En)(n:Nat):Prop:=K (ce l i c) n
section
variable{t:DTS}{D:JY}{ρ ρ0 ρ':En}{n i j m:Nat}{d dj:DTE}{ds di:DTA}{tt:DTT}{tg:DTG}{R:qN}{Rl:qD->Nat->Prop}{Re:En->Prop}{x:af}{xs:qD}{f:Int->Int->Int}{capt:List Nat}{c:Option Cell}{K:En->Nat->Prop}{q:Int}
instance zzM [h:SetN ρ i c ρ']:Stp (SetK i c K ρ n) (K ρ' n):=⟨λk=>by unfold SetK;rw[h.e];exact k⟩
instance zzv:Stp (sSet i d D ρ n) (d ρ n λt n'=>SetK i (ao (.val t)) D.nx ρ n'):=⟨λh=>h⟩
instance zzw:Stp (sOwn i ds D ρ n) (ds ρ n λt n'=>SetK i (ao (.own t)) D.nx ρ n'):=⟨λh=>h⟩
instance zwW [h:SetN ρ i (ao (.val x)) ρ']:Stp (Qe i x ρ Re) (Re ρ'):=⟨λk=>by unfold Qe;rw[h.e];exact k⟩
instance zzI [h:GetN ρ i (ao (.val x))]:Stp (dVar i ρ n R) (R x n):=⟨λk=>zrh h.e k⟩
instance zzJ [h:GetN ρ i (ao (.own xs))]:Stp (dOwn i ρ n R) (R (sJ xs) n):=⟨λk=>zri h.e k⟩
instance zxA [h:GetN ρ i (ao (.own xs))]:Stp (Zj i d D ρ n) (d ρ n λt n'=>fo xs<16777216/\SetK i (ao (.own (xs++[t]))) D.nx ρ n'):=⟨λk=>zkJ h.e k⟩
instance zxy [h:GetN ρ i (ao (.own xs))][h':SetN ρ i (ao (.val (sJ xs))) ρ']:Stp (Ve i t D ρ n) (t D ρ' n):=⟨λk=>zkI h.e (by rw[h'.e];exact k)⟩
instance zzT [h:GetN ρ i (ao (.val (bu q)))]:Stp (sAug i f d D ρ n) (d ρ n λt n'=>lInt t λk=>SetK i (ao (.val (bu (f q k)))) D.nx ρ n'):=⟨λk=>zzb h.e k⟩
instance zzK [h:CompN m capt ρ ρ0]:Stp (dComp m capt di tg tt d ρ n Rl) (di ρ n λts n1=>Qb tg tt d ρ0 ts [] n1 Rl):=⟨λk=>zsZ (by rw[h.e];exact k)⟩
theorem zur{D:JY}{ρ:En}{i:Nat}{xs:qD}{x:af}{n:Nat}{j:Int}{k:Nat}(e:ixN (fo xs) j=ao k)(h:SetK i (ao (.own (ce xs k x))) D.nx ρ n) :
  (match ixN (fo xs) j with|some k=>D.nx (ce ρ i (ao (.own (ce xs k x)))) n|none=>False):=by rw[e];exact h
instance zzO [h:GetN ρ i (ao (.own xs))]:Stp (sPut i dj d D ρ n) (d ρ n λt n1=>U6 ρ i D dj t n1 xs):=⟨λk=>zy7 h.e k⟩
instance zzx:Stp (U6 ρ i D dj x n xs) (dj ρ n λj n2=>lInt j λj=>(match ixN (fo xs) j with|some k=>D.nx (ce ρ i (ao (.own (ce xs k x)))) n2|none=>False)):=⟨λh=>zv2 h⟩
end
theorem Qz{l:En}{i:Nat}:ce l i (l.getD i bj)=l:=by apply mP;intro j;by_cases h:i=j;subst h;by_cases hl:i<fo l;rw[fI hl,bE,aw hl];rfl;rw[dz (by simp;omega),dz (by omega)];rw[cq h]
section
variable{g:DTG}{tb:DTS}{D:JY}{ts:qD}{ρ:En}{n:Nat}
theorem zwy(C:Nat)(Inv:Nat->Option Cell->Nat->Prop){o:Option Cell->En}[N:∀a0,NormE (ce ρ C a0) (o a0)](h0:Inv 0 (ρ.getD C bj) n)
  (turn:∀(k:Nat) (t:af) (a0:Option Cell) (m:Nat) (K:En->Nat->Prop) (I:qN) (G:En->Nat->Prop),ts[k]?=ao t->Inv k a0 m->(∀u v,Inv (k+1) u v->K (o u) v)->(∀t m,D.rt t m->I t m)->(∀ρ m,D.nx ρ m->G ρ m)->g t (o a0) λl=>tb { nx:=K,rt:=I,bk:=G,ct:=K,xr:=D.xr } l m)
  (fin:∀a0 m,Inv (fo ts) a0 m->D.nx (o a0) m):forP g tb D ts ρ n:=by
 refine UZ (λk l m=>∃a0,l=(ce ρ C a0)/\Inv k a0 m) ⟨_,?_,h0⟩ ?_ ?_;rw[Qz];rintro k t l m K e ⟨a0,rfl,x⟩ hK;rw[(N a0).e];exact turn k t a0 m K D.rt D.nx e x (λu v h=>(N u).e▸hK _ _ ⟨u,rfl,h⟩) (λ_ _ h=>h) (λ_ _ h=>h);rintro l m ⟨a0,rfl,x⟩;rw[(N a0).e];exact fin a0 m x
theorem zrp(G i1:Nat)(Inv:Nat->Option Cell->Option Cell->Nat->Prop){o:Option Cell->Option Cell->En}[N:∀a0 a1,NormE (ce (ce ρ G a0) i1 a1) (o a0 a1)](h0:Inv 0 (ρ.getD G bj) (ρ.getD i1 bj) n)
  (turn:∀(k:Nat) (t:af) (a0 a1:Option Cell) (m:Nat) (K:En->Nat->Prop) (J:qN) (I:En->Nat->Prop),ts[k]?=ao t->Inv k a0 a1 m->(∀u v x,Inv (k+1) u v x->K (o u v) x)->(∀t m,D.rt t m->J t m)->(∀ρ m,D.nx ρ m->I ρ m)->g t (o a0 a1) λl=>tb { nx:=K,rt:=J,bk:=I,ct:=K,xr:=D.xr } l m)
  (fin:∀a0 a1 m,Inv (fo ts) a0 a1 m->D.nx (o a0 a1) m):forP g tb D ts ρ n:=by
 refine UZ (λk l m=>∃a0 a1,l=(ce (ce ρ G a0) i1 a1)/\Inv k a0 a1 m) ⟨_,_,?_,h0⟩ ?_ ?_;rw[Qz,Qz];rintro k t l m K e ⟨a0,a1,rfl,C⟩ hK;rw[(N a0 a1).e];exact turn k t a0 a1 m K D.rt D.nx e C (λu v x h=>(N u v).e▸hK _ _ ⟨u,v,rfl,h⟩) (λ_ _ h=>h) (λ_ _ h=>h);rintro l m ⟨a0,a1,rfl,C⟩;rw[(N a0 a1).e];exact fin a0 a1 m C
theorem zro(J i1 G:Nat)(Inv:Nat->Option Cell->Option Cell->Option Cell->Nat->Prop){o:Option Cell->Option Cell->Option Cell->En}[N:∀a0 a1 a2,NormE (ce (ce (ce ρ J a0) i1 a1) G a2) (o a0 a1 a2)](h0:Inv 0 (ρ.getD J bj) (ρ.getD i1 bj) (ρ.getD G bj) n)
  (turn:∀(k:Nat) (t:af) (a0 a1 a2:Option Cell) (m:Nat) (K:En->Nat->Prop) (R:qN) (L:En->Nat->Prop),ts[k]?=ao t->Inv k a0 a1 a2 m->(∀u v x C,Inv (k+1) u v x C->K (o u v x) C)->(∀t m,D.rt t m->R t m)->(∀ρ m,D.nx ρ m->L ρ m)->g t (o a0 a1 a2) λl=>tb { nx:=K,rt:=R,bk:=L,ct:=K,xr:=D.xr } l m)
  (fin:∀a0 a1 a2 m,Inv (fo ts) a0 a1 a2 m->D.nx (o a0 a1 a2) m):forP g tb D ts ρ n:=by
 refine UZ (λk l m=>∃a0 a1 a2,l=(ce (ce (ce ρ J a0) i1 a1) G a2)/\Inv k a0 a1 a2 m) ⟨_,_,_,?_,h0⟩ ?_ ?_;rw[Qz,Qz,Qz];rintro k t l m K e ⟨a0,a1,a2,rfl,I⟩ hK;rw[(N a0 a1 a2).e];exact turn k t a0 a1 a2 m K D.rt D.nx e I (λu v x C h=>(N u v x).e▸hK _ _ ⟨u,v,x,rfl,h⟩) (λ_ _ h=>h) (λ_ _ h=>h);rintro l m ⟨a0,a1,a2,rfl,I⟩;rw[(N a0 a1 a2).e];exact fin a0 a1 a2 m I
theorem znR(S i1 L J:Nat)(Inv:Nat->Option Cell->Option Cell->Option Cell->Option Cell->Nat->Prop){u:Option Cell->Option Cell->Option Cell->Option Cell->En}[N:∀a0 a1 a2 l,NormE (ce (ce (ce (ce ρ S a0) i1 a1) L a2) J l) (u a0 a1 a2 l)](h0:Inv 0 (ρ.getD S bj) (ρ.getD i1 bj) (ρ.getD L bj) (ρ.getD J bj) n)
  (turn:∀(k:Nat) (t:af) (a0 a1 a2 l:Option Cell) (m:Nat) (K:En->Nat->Prop) (Y:qN) (U:En->Nat->Prop),ts[k]?=ao t->Inv k a0 a1 a2 l m->(∀x C G v I,Inv (k+1) x C G v I->K (u x C G v) I)->(∀t m,D.rt t m->Y t m)->(∀ρ m,D.nx ρ m->U ρ m)->g t (u a0 a1 a2 l) λo=>tb { nx:=K,rt:=Y,bk:=U,ct:=K,xr:=D.xr } o m)
  (fin:∀a0 a1 a2 l m,Inv (fo ts) a0 a1 a2 l m->D.nx (u a0 a1 a2 l) m):forP g tb D ts ρ n:=by
 refine UZ (λk o m=>∃a0 a1 a2 l,o=(ce (ce (ce (ce ρ S a0) i1 a1) L a2) J l)/\Inv k a0 a1 a2 l m) ⟨_,_,_,_,?_,h0⟩ ?_ ?_;rw[Qz,Qz,Qz,Qz];rintro k t o m K e ⟨a0,a1,a2,l,rfl,R⟩ hK;rw[(N a0 a1 a2 l).e];exact turn k t a0 a1 a2 l m K D.rt D.nx e R (λx C G v I h=>(N x C G v).e▸hK _ _ ⟨x,C,G,v,rfl,h⟩) (λ_ _ h=>h) (λ_ _ h=>h);rintro o m ⟨a0,a1,a2,l,rfl,R⟩;rw[(N a0 a1 a2 l).e];exact fin a0 a1 a2 l m R
theorem zwx(Z i1 U S R:Nat)(Inv:Nat->Option Cell->Option Cell->Option Cell->Option Cell->Option Cell->Nat->Prop){v:Option Cell->Option Cell->Option Cell->Option Cell->Option Cell->En}[N:∀a0 a1 a2 o l,NormE (ce (ce (ce (ce (ce ρ Z a0) i1 a1) U a2) S o) R l) (v a0 a1 a2 o l)](h0:Inv 0 (ρ.getD Z bj) (ρ.getD i1 bj) (ρ.getD U bj) (ρ.getD S bj) (ρ.getD R bj) n)
  (turn:∀(k:Nat) (t:af) (a0 a1 a2 o l:Option Cell) (m:Nat) (K:En->Nat->Prop) (RT:qN) (BK:En->Nat->Prop),ts[k]?=ao t->Inv k a0 a1 a2 o l m->(∀C G I x J L,Inv (k+1) C G I x J L->K (v C G I x J) L)->(∀t m,D.rt t m->RT t m)->(∀ρ m,D.nx ρ m->BK ρ m)->g t (v a0 a1 a2 o l) λu=>tb { nx:=K,rt:=RT,bk:=BK,ct:=K,xr:=D.xr } u m)
  (fin:∀a0 a1 a2 o l m,Inv (fo ts) a0 a1 a2 o l m->D.nx (v a0 a1 a2 o l) m):forP g tb D ts ρ n:=by
 refine UZ (λk u m=>∃a0 a1 a2 o l,u=(ce (ce (ce (ce (ce ρ Z a0) i1 a1) U a2) S o) R l)/\Inv k a0 a1 a2 o l m) ⟨_,_,_,_,_,?_,h0⟩ ?_ ?_;rw[Qz,Qz,Qz,Qz,Qz];rintro k t u m K e ⟨a0,a1,a2,o,l,rfl,Y⟩ hK;rw[(N a0 a1 a2 o l).e];exact turn k t a0 a1 a2 o l m K D.rt D.nx e Y (λC G I x J L h=>(N C G I x J).e▸hK _ _ ⟨C,G,I,x,J,rfl,h⟩) (λ_ _ h=>h) (λ_ _ h=>h);rintro u m ⟨a0,a1,a2,o,l,rfl,Y⟩;rw[(N a0 a1 a2 o l).e];exact fin a0 a1 a2 o l m Y
theorem zp7{i j:Nat}{u:DTS}{D:JY}{I nn C G:En}{n:Nat}{ns:List Int}{k:Int}[ej:GetN (ao (.val (SCR ns))::I) j (ao (.val (bu k)))][e1:NoneN I nn][e2:SetN (ao (.val (SCR ns))::nn) j (ao (.val (bu k))) C][e3:SetN C i (ao (.val HAND)) G](S:fo ns<=63)(Y:0<=k)(U:k<=100)
  (h:∀(N:En->Nat->Prop) (R:qN) (J L:En->Nat->Prop),(∀x m,D.nx (JW x) n->N x m)->(∀b m,D.rt (dQ b) n->R (dQ b) m)->(∀x m,D.bk (JW x) n->J x m)->(∀x m,D.ct (JW x) n->L x m) ->
   u { nx:=N,rt:=R,bk:=J,ct:=L } G 0):Yr i j u D (ao (.val (SCR ns))::I) n:=by
 refine zsS (ρd:=ao (.val (SCR ns))::nn) rfl ej.e S Y U ?_ ?_;show ao (Cell.val (SCR ns))::cG (fo (ao (Cell.val (SCR ns))::I) - 1) bj=_;rw[aP,Nat.add_sub_cancel,e1.e];rw[e2.e,e3.e];exact h _ _ _ _ (λ_ _ h=>h) (λb _ h=>⟨b,rfl,h⟩) (λ_ _ h=>h) (λ_ _ h=>h)
theorem zmb{c:DTT}{tb:DTS}{D:JY}{ρ:En}{n:Nat}(Inv:Nat->En->Nat->Prop){m:Nat}(h0:Inv m ρ n)
  (turn:∀m ρ n (K:En->Nat->Prop) (C:qN) (v:En->Nat->Prop),Inv m ρ n->(∀o l u,o<m->Inv o l u->K l u)->(∀t m,D.rt t m->C t m)->(∀ρ m,D.nx ρ m->v ρ m) ->
   c ρ n λb x=>if b=du then tb { nx:=K,rt:=C,bk:=v,ct:=K,xr:=D.xr } ρ x else v ρ x):zmx c tb D ρ n :=
 zhE Inv h0 λm ρ n h=>turn m ρ n (λl u=>∃o,o<m/\Inv o l u) D.rt D.nx h (λo _ _ a b=>⟨o,a,b⟩) (λ_ _ h=>h) (λ_ _ h=>h)
end
open Builtin Builtin.Str
def cutS(x:Str)(lo hi:Option Int):Str:=⟨bm ((x.cps.toList.drop (HT.sIx (nN x) 0 lo)).take (HT.sIx (nN x) (nN x) hi - HT.sIx (nN x) 0 lo))⟩
theorem Ww(n d:Nat)(i:Int):((HT.sIx n d (ao i):Nat):Int)=max 0 (min (if i<0 then i+(n:Int) else i) (n:Int)):=by simp only[HT.sIx];by_cases h:i<0;simp only[h,if_true] <;> lia;simp only[h,if_false] <;> lia
theorem zt0(lo hi:Option Int)(n:Nat):strSliceIndices lo hi 1 n=sliceRange ((HT.sIx n 0 lo:Nat):Int) ((HT.sIx n n hi:Nat):Int) 1:=by
 have o:((HT.sIx n 0 bj:Nat):Int)=0:=by simp[HT.sIx]
 have l:((HT.sIx n n bj:Nat):Int)=n:=by simp[HT.sIx]
 cases lo with
 | none =>
  cases hi with
  | none=>rw[o,l];rfl
  | some j=>rw[o,Ww];rfl
 | some i =>
  cases hi with
  | none=>rw[l,Ww];rfl
  | some j=>rw[Ww,Ww];rfl
theorem zmo(x:Str)(lo hi:Option Int):se x lo hi=cutS x lo hi:=by
 have e:strSliceIndices lo hi 1 (nN x)=(dw (HT.sIx (nN x) (nN x) hi - HT.sIx (nN x) 0 lo)).map (HT.sIx (nN x) 0 lo+·):=by rw[zt0,tW]
 have u:(strSliceIndices lo hi 1 (nN x)).filterMap (x.cps[·]?)=(x.cps.toList.drop (HT.sIx (nN x) 0 lo)).take (HT.sIx (nN x) (nN x) hi - HT.sIx (nN x) 0 lo):=by rw[e,xC]
 unfold se;split;rename_i h;have o:fo (strSliceIndices lo hi 1 (nN x))=nN x:=by simpa using h
 rw[e,aG,km]at o;unfold cutS;have v:HT.sIx (nN x) (nN x) hi<=nN x:=by
  cases hi with
  | none=>simp[HT.sIx]
  | some i=>simp only[HT.sIx];split <;> lia
 have z:HT.sIx (nN x) 0 lo=0\/nN x=0:=by lia
 have:(x.cps.toList.drop (HT.sIx (nN x) 0 lo)).take (HT.sIx (nN x) (nN x) hi - HT.sIx (nN x) 0 lo)=nK x.cps:=by
  have sz:fo x.cps.toList=nN x:=by simp[nN]
  rcases z with z|z;rw[z,mF,df (by lia)];have:nK x.cps=[]:=gL.mp (by lia);rw[this];simp
 rw[this];rw[u];rfl
section
variable{X:Cx}
theorem zgJ{v:ah}{p:Option Int}(h:mW v p):∃l:Option (Int×Tok),v=partValue l/\l.map (·.1)=p:=by
 cases h with
 | none=>exact⟨bj,rfl,rfl⟩
 | int i t=>exact⟨ao (i,t),rfl,rfl⟩
def rSlS:V->Option Int->Option Int->Hp->VK->Prop:=λx lo hi H Q=>∃z,x=.str z/\nN z<=sizeLine/\Q (.str (cutS z lo hi)) H
theorem zt3:SlR X rSlS:=by intro pins s σ H x v R S lo hi sl Q I G J pl N h;obtain⟨z,rfl,L,q⟩:=h;obtain⟨t,rfl⟩:=G;obtain⟨l,rfl,rfl⟩:=zgJ pl;obtain⟨u,rfl,rfl⟩:=zgJ N;have C:s.heap.IsSlice sl l u bj:=J;refine⟨"str",_,F.slot_str_getitem.lookup,tV _ _ _,wpAny_getItem_str_slice (l:=l) (u:=u) (st:=bj) C rfl (post_val_or_str ?_)⟩;have e:(if (((bj:Option (Int×Tok)).map (·.1)).getD 1 == 1&&fo (slicePicked z l u bj) == nN z)=du then z else⟨bm ((slicePicked z l u bj).filterMap (z.cps[·]?))⟩)=se z (l.map (·.1)) (u.map (·.1)):=rfl;rw[e];refine⟨ba (Txt.slice_le z _ _) L,λt' k=>⟨.str (se z (l.map (·.1)) (u.map (·.1))),H,I.tok _,⟨_,rfl⟩,?_⟩⟩;rw[zmo];exact q
def oSlA(t:af)(lo hi:Option Int)(R:af->Prop):Prop:=match t with
 | lV ts=>R (lV (cutD ts lo hi))
 | cH x=>nN x<=16777216/\R (cH (cutS x lo hi))
 | _=>False
def dSlA(d:DTE)(dl u:DTO):DTE:=λl n R=>d l n λt o=>dl l o λlo v=>u l v λhi x=>oSlA t lo hi λz=>R z x
variable{e a b:bg}{d da db:DTE}{lo hi:Option bg}{dlo dhi:DTO}{pos p2:Pos}
theorem WU(h:DL X e d)(U:DP X lo dlo)(hu:DP X hi dhi):DE X (ed e (.Slice lo hi bj p2) pos) (dSlA d dlo dhi):=by
 obtain⟨ta,pa,h⟩:=h;obtain⟨tl,pl,U⟩:=U;obtain⟨tu,pu,hu⟩:=hu;refine⟨_,zkm (SlR.or (SlR.or zt2 zrI) zt3) pa pl pu,λC Y σ H n Q R S hd hq=>?_⟩;refine h C Y σ H n _ _ S hd λt n1 v H1 r1 N h1 q1=>?_;have S1:=S.on N h1;refine U C Y σ H1 n1 _ _ S1 r1 λlo n2 H2 r2 x h2=>?_;have S2:=S1.on x h2;refine hu C Y σ H2 n2 _ _ S2 r2 λhi n3 H3 G I J=>?_;have S3:=S2.on I J;have Z:=(x.trans I).repT S.hx q1;cases t with
 | tuple ts =>obtain⟨a,o,rfl,hs,rs⟩:=Z.tupI;by_cases w:HT.sIx (fo o) 0 lo=0/\HT.sIx (fo o) (fo o) hi=fo o;refine dY (sr ⟨a,o,rfl,hs,w,hq _ n3 _ H3 G (N.trans (x.trans I)) J ?_⟩);rw[zl2 (by rw[<- rs.length];exact w)];exact Z.rep (by intro _ z;cases z);refine dY (dY ⟨a,o,rfl,hs,w,λp L=>hq _ n3 _ _ G (N.trans (x.trans (I.trans (ExtE.new L)))) (J.same (Qf L)) ?_⟩);exact .newT (S3.free L) L (zkY rs lo hi)
 | str z =>rw[Z.strI];exact sr ⟨z,rfl,G.1,hq _ n3 _ H3 G.2 (N.trans (x.trans I)) J (.str _)⟩
 | _=>exact e9 G
def repS(x:Str)(n:Int):Str:=⟨(cG (ap n) (nK x.cps)).flatten.toArray⟩
theorem zi1(x:Array Nat):∀(n:Nat) (acc:Array Nat),(cG n x).foldl (·++·) acc=bm (nK acc++(cG n (nK x)).flatten)
 | 0,acc=>by simp
 | n+1,acc=>by rw[cJ,gY,zi1 x n,cJ,mT];simp
theorem zsf:OpR X (binaryOp .Mult) (λx y H Q=>∃i j,x=.str i/\y=.int j/\-100000<=j/\j<=100000/\nN i<=100/\Q (.str (repS i j)) H):=by
 intro pins s σ H x y v u Q I G J h;obtain⟨i,j,rfl,rfl,j0,j1,hi,q⟩:=h;obtain⟨t,rfl⟩:=G;obtain⟨t',rfl⟩:=J;have S:decide (j < -(2 ^ 63:Int))=dy:=decide_eq_false (by lia);have L:decide (j>=2 ^ 63)=dy:=decide_eq_false (by lia);have C:∀n:Nat,n<=100000->nN i*n<=10000000:=λn R=>Nat.mul_le_mul hi R;refine P.mul_str (by rw[S,L];rfl) (λN _ Z=>?_) (λN _=>?_) ?_;have Y:(100:Int)<=(2 ^ 63 - 1) / j:=by apply Int.le_ediv_of_mul_le (by lia);lia
 lia;have:=C (ap j) (by lia);unfold tooLong;exact decide_eq_false (by have:sizeLine=16777216:=rfl;lia);by_cases c1:j<1;rw[if_pos c1];have e:repS i j=lW:=by unfold repS;rw[show ap j=0 by lia];rfl
 rw[e]at q;exact⟨by decide,.str lW,H,I.tok _,⟨_,rfl⟩,q⟩;rw[if_neg c1];by_cases c2:(j == 1||nN i == 0)=du;rw[if_pos c2];have e:repS i j=i:=by
  unfold repS;rw[iL,beq_iff_eq,beq_iff_eq]at c2;rcases c2 with c2|c2;subst c2;simp;have z:nK i.cps=[]:=gL.mp (by simpa[nN] using c2);have U:i.cps=#[]:=by have:=congrArg List.toArray z;simpa using this
  rw[z];have:(cG (ap j) ([]:List Nat)).flatten=[]:=by simp
  rw[this,<- U]
 rw[e]at q;exact⟨.str i,H,I,⟨_,rfl⟩,q⟩;rw[if_neg c2];have e:repS i j=⟨(cG (ap j) i.cps).foldl (·++·) #[]⟩:=by unfold repS;rw[zi1];simp
 rw[e]at q;refine⟨?_,.str _,H,I.tok _,⟨_,rfl⟩,q⟩;have:=C (ap j) (by lia);show(⟨(cG (ap j) i.cps).foldl (·++·) #[]⟩:Str).length<=sizeLine;rw[<- e];unfold repS nN;rw[aD,List.length_flatten,List.map_replicate,List.sum_replicate_nat,bN];have e3:sizeLine=16777216:=rfl;have e4:ap j*be i.cps=nN i*ap j:=by rw[nT];rfl
 lia
def VZ:G2
 | bu i,bu j,R=>CMul i j/\R (bu (i*j))
 | cH i,bu j,R=>-100000<=j/\j<=100000/\nN i<=100/\R (cH (repS i j))
 | _,_,_=>False
theorem zsg:OpR X (binaryOp .Mult) (λx y H Q=>(rI CMul λi j=>.int (i*j)) x y H Q\/∃i j,x=.str i/\y=.int j/\-100000<=j/\j<=100000/\nN i<=100/\Q (.str (repS i j)) H):=OpR.or Q9 zsf
theorem zs3:Gp2 X (λx y H Q=>(rI CMul λi j=>.int (i*j)) x y H Q\/∃i j,x=.str i/\y=.int j/\-100000<=j/\j<=100000/\nN i<=100/\Q (.str (repS i j)) H) VZ:=by intro hd O H x y t u Q R dom o v g C;unfold VZ at g;split at g;rw[o.intI,v.intI];exact dY ⟨_,_,rfl,rfl,g.1,C _ _ H g.2 (Same.refl _) (.int _)⟩;rw[o.strI,v.intI];exact sr ⟨_,_,rfl,rfl,g.1,g.2.1,g.2.2.1,C _ _ H g.2.2.2 (Same.refl _) (.str _)⟩;exact e9 g
theorem ztm(ha:DL X a da)(hb:DL X b db):DE X (jj a .Mult b pos) (dOp VZ da db):=Q7 zsg zs3 ha hb
end
def Its(z:Str):It:=⟨λi _=>i<be z.cps,λi H x H'=>H'=H/\∃c,z.cps[i]?=ao c/\x=.str ⟨#[c]⟩,λi _=>be z.cps<=i⟩
theorem zoY{P:aK}{w:aV}{K:qF}{tg:bg}(z:Str)(t:Tok)(it:ai)(T:String)(J:T = "str_ascii_iterator" \/ T = "str_iterator"):Turn P w K tg (Its z) [it] it (λi h=>h.IsStrIter it T z t i) where
 mem:=by simp
 obj:=λi h st b hb=>by
  have e:b=it:=by simpa using hb
  subst e;obtain⟨o,e,c,d⟩:=st;exact⟨o,e,λv z=>by rw[d]at z;cases z⟩
 keep:=λi h h' st k=>by obtain⟨o,e,r⟩:=st;exact⟨o,k it (by simp) o e,r⟩
 item:=by
  intro X S hw U hc i pins s σ H E I hf st C;subst S hw U;obtain⟨f0,f1,f2,R,f4,N⟩:=hf it (by simp);have C:i<be z.cps:=C;have G:z.cps[i]?=ao z.cps[i]:=by simp[C]
  have fin:∀h',h'.IsStrIter it T z t (i+1)->gn it s.heap h'->∃u,ao (kI ⟨#[z.cps[i]]⟩ s.toks)=ao u /\
    wpAny (model X.prog X.w) X.A (letOwnedTupleGo tg (bQ it) u) (λ_ s2=>∃x H',Inv X pins σ H' s2/\RelV x u/\(Its z).yld i H x H'/\s2.heap.IsStrIter it T z t (i+1)/\∀b∈[it],H' b=bj) E { s with heap:=h',toks:=eA s+1 }:=by
   intro h' L sb;have Z:Inv X pins σ H { s with heap:=h',toks:=eA s+1 }:=I.turned (t':=eA s+1) (λb o hb e=>b4 (sb.2 b hb) e) f0 f1 R f4 N;obtain⟨o,e,c,d⟩:=id L;have ne:(T = "enumerate")=False:=by rcases J with rfl|rfl <;> decide
   refine⟨_,rfl,ZF (s:={ s with heap:=h',toks:=eA s+1 }) (n:=T) e c d (by rcases J with rfl|rfl <;> decide) ⟨.str ⟨#[z.cps[i]]⟩,H,Z,⟨_,rfl⟩,⟨rfl,_,G,rfl⟩,L,λb hb=>(hf b hb).1⟩⟩
  rcases J with rfl|rfl;exact wpAny_pyNext_ascii_item st G fin;exact wpAny_pyNext_wide_item st G fin
 done:=by
  intro X S hw U hc i pins s σ H E I hf st C;subst S hw U;obtain⟨f0,f1,f2,R,f4,N⟩:=hf it (by simp);have C:be z.cps<=i:=C;have G:z.cps[i]?=bj:=by simp[C]
  rcases J with rfl|rfl;exact wpAny_pyNext_ascii_end (I.ok.hd hc) st G λh' Y=>⟨rfl,I.turned (t':=eA s) (λb o hb e=>Y b o hb e) f0 f1 R f4 N⟩;exact wpAny_pyNext_wide_end (I.ok.hd hc) st G λh' Y=>⟨rfl,I.turned (t':=eA s) (λb o hb e=>Y b o hb e) f0 f1 R f4 N⟩
 self:=λ_ _ _ _ _ st h=>by rcases J with rfl|rfl;exact wpAny_pyIter_striter_ascii st h;exact wpAny_pyIter_striter_wide st h
section
variable{X:Cx}{tg iter:bg}{d:DTE}
def iStr(l:TE):TI:=λσ H R=>l σ H λx o=>∃z,x=.str z/\R (Its z) o
theorem zuB{l:bg}{G:TE}(J:PE X l G):PI X tg l (iStr G):=by
 intro pins s σ H R I h;refine thn (J pins s σ H _ I h) λv s1 u=>?_;obtain⟨x,S,C,N,U⟩:=u;obtain⟨z,rfl,q⟩:=U;obtain⟨t,rfl⟩:=N;have key:∀T,(T = "str_ascii_iterator" \/ T = "str_iterator")->PIE X pins σ tg R (bQ s1.heap.objs.size) { s1 with heap:=ee s1.heap { cls:=bU T,data:=fm #[kI z t,rL 0 0] } }:=by
  intro T L;refine⟨be s1.heap.objs,[be s1.heap.objs],_,_,S,rfl,C.kept (t':=eA s1) λb o e=>aj _ e,zoY z t _ T L,⟨_,aB _ rfl,rfl,rfl⟩,λb hb=>?_,q⟩;have e:b=be s1.heap.objs:=by simpa using hb
  subst e;exact C.fpOk (aC _) (C.hok.fresh (aC _))
 cases ha:z.cps.all (·<128);exact wpAny_pyIter_wide ha (key _ (sr rfl));exact wpAny_pyIter_ascii ha (key _ (dY rfl))
def sgnD(z:Str):List af:=z.cps.toList.map λc=>cH ⟨#[c]⟩
theorem zvX{K:qF}{hd:Option ai}{P O:ai->Prop}{H:Hp}{z:Str}:ItOk K hd P O H (Its z) (sgnD z):=by
 intro J R _ _ _;have sz:fo z.cps.toList=be z.cps:=by simp
 refine⟨λi t o=>?_,by show be z.cps<=fo (sgnD z);unfold sgnD;rw[aG];lia⟩;unfold sgnD at o;rw[bK]at o;cases ec:z.cps.toList[i]? with
 | none=>rw[ec]at o;cases o
 | some c =>
  rw[ec]at o;cases o;obtain⟨hi,I⟩:=aq.mp ec;have u:i<be z.cps:=by lia
  have v:z.cps[i]?=ao c:=by rw[<- cf];exact ec
  refine⟨u,λx L G=>?_⟩;obtain⟨rfl,N,C,rfl⟩:=G;rw[v]at C;cases C;exact⟨Same.refl _,.str _⟩
def lStr:af->(Str->Prop)->Prop
 | cH z,R=>R z
 | _,_=>False
def dItS(d:DTE):DTA:=λo n R=>d o n λt l=>lStr t λz=>R (sgnD z) l
theorem zwE(h:DE X iter d):DI X tg iter (dItS d):=by
 obtain⟨I,pa,h⟩:=h;refine⟨_,zuB pa,λC l σ H n Q R S hd x=>?_⟩;refine h C l σ H n _ _ S hd λt o v H' r G u q=>?_;cases t with
 | str z =>rw[q.strI];exact⟨z,rfl,x _ o _ H' r G u zvX⟩
 | _=>exact e9 r
variable{a b:bg}{rest:List bg}{ta tb:TE}{da db:DTE}{pos:Pos}
def tOrA(K:qF)(ta tb:TE):TE:=λσ H Q=>ta σ H λx l=>∃k,TruV K x l k/\if k=du then Q x l else tb σ l Q
theorem zuH(ha:PE X a ta)(hb:PE X (f7 .Or (b::rest) pos) tb):PE X (f7 .Or (a::b::rest) pos) (tOrA X.K ta tb):=by
 intro pins s σ H Q I h;refine BoolOp_or (thn (ha pins s σ H _ I h) λv s1 C=>?_);obtain⟨x,N,S,G,u⟩:=C;obtain⟨k,e,u⟩:=u;refine thn (zqL pins s1 σ N x v (λc H'=>c=k/\H'=N) S G ⟨k,e,rfl,rfl⟩) λc s2 R=>?_;obtain⟨J,L,rfl,rfl⟩:=R;cases c with
 | false=>exact hb pins s2 σ J Q L u
 | true=>exact⟨x,J,L,G,u⟩
def dOrA(da db:DTE):DTE:=λo n R=>da o n λt l=>truD t λb=>if b=du then R t l else db o l R
theorem zwI(h:DE X a da)(h':DE X (f7 .Or (b::rest) pos) db):DE X (f7 .Or (a::b::rest) pos) (dOrA da db):=by
 obtain⟨ta,pa,h⟩:=h;obtain⟨tb,U,h'⟩:=h';refine⟨_,zuH pa U,λC I σ H n Q R S hd L=>?_⟩;refine h C I σ H n _ _ S hd λt G v u r x J N=>?_;refine zqM (Q:=λk u=>if k=du then Q v u else tb σ u Q) (dY N) r λb hb=>?_;cases b with
 | true=>exact iteT (L _ G _ u hb x J N)
 | false=>exact iteF (h' C I σ u G Q R (S.on x J) hb λt n2 v Z r Y h2 q2=>L t n2 v Z r (x.trans Y) h2 q2)
end
section
variable{ρ:En}{n:Nat}{d da db:DTE}{dlo dhi:DTO}{R:qN}{Rl:qD->Nat->Prop}{Q:af->Prop}{xs:qD}{lo hi:Option Int}{x:Str}{j:Int}
instance zzP:Stp (dOrA da db ρ n R) (da ρ n λt n1=>truD t λb=>if b=du then R t n1 else db ρ n1 R):=⟨λh=>h⟩
instance zzN:Stp (dSlA d dlo dhi ρ n R) (d ρ n λt n1=>dlo ρ n1 λlo n2=>dhi ρ n2 λhi n3=>oSlA t lo hi λz=>R z n3):=⟨λh=>h⟩
instance zzt:Stp (oSlA (lV xs) lo hi Q) (Q (lV (cutD xs lo hi))):=⟨λh=>h⟩
instance zzu:Stp (oSlA (cH x) lo hi Q) (nN x<=16777216/\Q (cH (cutS x lo hi))):=⟨λh=>h⟩
instance zzA:Stp (VZ (cH x) (bu j) Q) (-100000<=j/\j<=100000/\nN x<=100/\Q (cH (repS x j))):=⟨λh=>h⟩
instance zzQ:Stp (dItS d ρ n Rl) (d ρ n λt n'=>lStr t λz=>Rl (sgnD z) n'):=⟨λh=>h⟩
instance zzB {Rs:Str->Prop}:Stp (lStr (cH x) Rs) (Rs x):=⟨λh=>h⟩
end
mutual
def plnD:af->Bool
 | sI []=>true
 | sI _=>false
 | lV ts=>decide (fo ts<=1000000)&&Uj ts
 | sJ ts=>decide (fo ts<=1000000)&&Uj ts
 | cH x=>decide (nN x<=1000000)
 | _=>true
def Uj:qD->Bool
 | []=>true
 | t::ts=>plnD t&&Uj ts
end
def PlnD(d:af):Prop:=plnD d=true
theorem zfp:∀{ts:qD},Uj ts=du↔∀t∈ts,PlnD t
 | []=>by simp[Uj]
 | t::ts=>by rw[Uj,aF,zfp (ts:=ts)];constructor;rintro⟨a,b⟩ u l;rcases ay.mp l with rfl|l;exact a;exact b u l;intro h;exact⟨h t (by simp),λu l=>h u (by simp[l])⟩
theorem PlnD.tup{ts:qD}(h:PlnD (lV ts)):fo ts<=1000000/\∀t∈ts,PlnD t:=by unfold PlnD plnD at h;rw[aF,decide_eq_true_iff,zfp]at h;exact h
theorem PlnD.str{x:Str}(h:PlnD (cH x)):nN x<=1000000:=by unfold PlnD plnD at h;exact decide_eq_true_iff.mp h
theorem zkk{ts:qD}(l:fo ts<=1000000)(h:∀t∈ts,PlnD t):PlnD (lV ts):=by unfold PlnD plnD;rw[aF,decide_eq_true_iff,zfp];exact⟨l,h⟩
theorem zkl{x:Str}(h:nN x<=1000000):PlnD (cH x):=by unfold PlnD plnD;exact decide_eq_true h
theorem zpt{i:Int}:PlnD (bu i):=by unfold PlnD plnD;rfl
theorem zps:∀t∈([]:qD),PlnD t:=λt h=>nomatch h
theorem zfq{x:af}{xs:qD}(h:PlnD x)(h':∀t∈xs,PlnD t):∀t∈x::xs,PlnD t:=λt l=>by rcases ay.mp l with rfl|l;exact h;exact h' t l
theorem PlnD.pln{d:af}(h:PlnD d):Pln d:=by
 cases d with
 | dict l =>
  cases l with
  | nil=>exact UB
  | cons a b=>cases a with|mk x y=>simp[PlnD,plnD]at h
 | none=>exact UD
 | bool=>exact Ug
 | int=>exact Uf
 | str=>exact Ur
 | list=>exact UC
 | tuple=>exact Uw
def IsNm(s:Str):Prop:=1<=nN s/\nN s<=8/\∀c∈nK s.cps,97<=c/\c<=122
def nmS(s:Str):Bool:=decide (1<=nN s)&&decide (nN s<=8)&&s.cps.toList.all λc=>decide (97<=c)&&decide (c<=122)
theorem zsv{s:Str}:nmS s=du↔IsNm s:=by unfold nmS IsNm;simp only[aF,decide_eq_true_iff,bM,and_assoc]
def nmD:af->Bool
 | cH s=>nmS s
 | _=>false
theorem QC(s:Str):fo s.cps.toList=nN s:=by simp[nN]
theorem zm7{a b:Nat}:(([a]:List Nat)<[b])↔a<b:=by
 constructor;intro h;cases h with
 | rel h=>exact h
 | cons h=>cases h
 intro h;exact .rel h
theorem zsD{a c:Nat}:(!decide (([c]:List Nat)<[a]))=decide (a<=c):=by rw[<- decide_not];exact decide_eq_decide.mpr (by rw[zm7];lia)
theorem zj5(a b:Str):(a++b).cps.toList=nK a.cps++nK b.cps:=by show(a.cps++b.cps).toList=_;simp
theorem Str.ext'{a b:Str}(h:nK a.cps=nK b.cps):a=b:=by
 cases a with|mk a =>
 cases b with|mk b =>
 have:a=b:=Array.toList_inj.mp h;rw[this]
theorem zvL{x:Str}{i:Int}{k c:Nat}{R:af->Prop}(l:nN x<=16777216)(hi:i=(k:Int))(e:x.cps.toList[k]?=ao c)(h:R (cH ⟨#[c]⟩)):oIx (cH x) (bu i) R:=by subst hi;have a:atI (nK x.cps) (k:Int)=ao c:=Bd.zfY (by lia) (by simpa using e);show nN x<=16777216/\(match atI (nK x.cps) (k:Int) with|some c=>R (cH ⟨#[c]⟩)|none=>False);rw[a];exact⟨l,h⟩
theorem letters{k:Nat}(h:k<26):(aa "abcdefghijklmnopqrstuvwxyz").cps.toList[k]?=ao (97+k):=by
 have:∀i:Fin 26,(aa "abcdefghijklmnopqrstuvwxyz").cps.toList[i.val]?=ao (97+i.val):=by decide +kernel
 exact this ⟨k,h⟩
theorem zfR{x:Str}{i:Int}{k:Nat}(h:i=(k:Int)):(cutS x bj (ao i)).cps.toList=x.cps.toList.take k:=by subst h;unfold cutS;rw[HT.zeY,HT.zjm];simp only[mF,wm];rw[<- QC x];simp[List.take_eq_take_iff]
theorem zi5{x:Str}{i:Int}{k:Nat}(h:i=(k:Int))(l:k<=nN x):(cutS x (ao i) bj).cps.toList=x.cps.toList.drop k:=by subst h;unfold cutS;rw[HT.zeY,HT.zjm,fD l];show(List.take _ (List.drop k (nK x.cps)))=_;rw[df (by rw[dN,QC];lia)]
def OkK(k:Nat)(t:af):Prop:=t.canLay0=du/\t.depth<=k
theorem OkK.okd{k:Nat}{t:af}(h:OkK k t)(l:k<=60:=by decide):Okd t:=⟨h.1,ba h.2 l⟩
theorem zso{i:Int}:OkK 0 (bu i):=⟨by simp[bX],by simp[eC]⟩
theorem zpF:OkK 0 fq:=⟨by simp[bX],by simp[eC]⟩
theorem zjB{s:Str}(h:bX (cH s)=du):OkK 0 (cH s):=⟨h,by simp[eC]⟩
theorem OkK.mono{k o:Nat}{t:af}(h:OkK k t)(l:k<=o):OkK o t:=⟨h.1,ba h.2 l⟩
theorem zjC{k:Nat}:∀{ts:qD},(∀t∈ts,OkK k t)->bL ts=du/\cm ts<=k
 | [],_=>⟨by simp[bL],by simp[cm]⟩
 | t::ts,h=>by obtain⟨a,b⟩:=zjC (ts:=ts) λu l=>h u (by simp[l]);have c:=h t (by simp);refine⟨by simp[bL,c.1,a],?_⟩;have:=c.2;simp only[cm];lia
theorem znb{k:Nat}{ts:qD}(h:∀t∈ts,OkK k t):OkK (k+1) (lV ts):=by obtain⟨a,b⟩:=zjC h;exact⟨by simpa only[bX] using a,by simp only[eC];lia⟩
theorem zsn{k:Nat}{ts:qD}(h:∀t∈ts,OkK k t):OkK (k+1) (sJ ts):=by obtain⟨a,b⟩:=zjC h;exact⟨by simpa only[bX] using a,by simp only[eC];lia⟩
theorem zu8{b:Int×Int}:OkK 1 (prD b):=znb λt l=>by simp only[ay,aS,or_false]at l;rcases l with rfl|rfl <;> exact zso
theorem zsu{s:Str}(h:IsNm s):OkK 0 (cH s):=zjB (by simp only[bX];show(s.cps.all (·<0x110000))=du;rw[<- Array.all_toList,bM];intro c hc;have:=h.2.2 c hc;exact decide_eq_true (by lia))
theorem zqg{xs:qD}:dP (sJ xs) (sJ [])=g5 xs:=by
 cases xs with
 | nil=>rfl
 | cons a b=>rfl
theorem U4{α:Type}{cs:List α}{D:α->af}{tg:DTG}{tt:DTT}{d:DTE}{ρ0:En}{n:Nat}{Rl:qD->Nat->Prop}(p:α->Bool)(F:α->af)(G:fo cs<=16777216)
  (step:∀b∈cs,∀(K:qN) (X:Nat->Prop),(p b=du->K (F b) n)->(p b=dy->X n)->tg (D b) ρ0 λo=>tt o n λc C=>if c=du then d o C K else X C) (fin:Rl ((cs.filter p).map F) n):Qb tg tt d ρ0 (cs.map D) [] n Rl:=by
 refine Z0 (λj acc m=>m=n/\acc=((cs.take j).filter p).map F) ⟨rfl,rfl⟩ ?_ ?_;rintro j x acc m K u ⟨rfl,rfl⟩ hK;rw[bK]at u;cases eb:cs[j]? with
 | none=>rw[eb]at u;cases u
 | some b =>
  rw[eb]at u;cases u;obtain⟨J,I⟩:=aq.mp eb;have tk:cs.take (j+1)=cs.take j++[b]:=by rw[dW,eb];rfl
  refine step b (aQ eb) _ _ (λv=>⟨?_,hK _ _ ⟨rfl,?_⟩⟩) (λv=>hK _ _ ⟨rfl,?_⟩);have:=g7 p (cs.take j);simp at this ⊢;lia;rw[tk,pL,dM];simp[v];rw[tk,pL,dM];simp[v]
 rintro acc m ⟨rfl,rfl⟩;rw[aG,ff];exact fin
theorem zpk{x:Str}{n:Int}:(repS x n).cps.toList=(cG (ap n) (nK x.cps)).flatten:=rfl
theorem zvM{xs:qD}{r:Int}{R:af->Prop}(u:0<=r)(v:r<fo xs)(h:∀x∈xs,R x):oIx (sJ xs) (bu r) R:=by
 have o:ap r<fo xs:=by omega
 rw[YE (Bd.zfY u (aw o))];exact h _ (dO o)
theorem zqw{ts:qD}:cutD ts bj (ao (-1))=ts.take (fo ts - 1):=by
 unfold cutD;have e:HT.sIx (fo ts) (fo ts) (ao (-1))=fo ts - 1:=by
  have:HT.sIx (fo ts) (fo ts) (ao (-1))=if (-1:Int)<0 then((-1:Int)+(fo ts:Int)).toNat else min (ap (-1:Int)) (fo ts):=by first|rfl|(unfold HT.sIx;rfl)|(simp[HT.sIx];done)
  rw[this,if_pos (by decide)];omega
 rw[HT.zeY,e];simp
def U2(g:DTG)(tt:DTT)(o:DTA)(g2:DTG)(l:DTT)(u:DTE)(ρ0:En)(xs acc:qD)(n:Nat)(R:qD->Nat->Prop):Prop:=cGo g tt (tdN o g2 l (tdL u)) ρ0 xs acc n R
def zoe(m:Nat)(capt:List Nat)(v:DTA)(g:DTG)(tt:DTT)(o:DTA)(g2:DTG)(l:DTT)(C:DTE):DTA:=λu n R=>v u n λts x=>U2 g tt o g2 l C (JV m capt u) ts [] x R
section
variable{X:Cx}{scope:fS}{own:List Str}{capt:List Nat}{elt tg iter tg2 it2:bg}{ifs Mc:List bg}{pos:Pos}{di di2:DTA}{is is2:List Nat}{g g2:DTG}{tt tt2:DTT}{te:DTE}
theorem zkT(hc:X.calm=du)(S:JB scope own capt X)(hi:DIL X tg iter di)
  (hg:Fam X scope own capt λY=>DG Y tg is g) (u:∀i∈is,i<fo own) (ht:Fam X scope own capt λY=>DTs Y ifs tt) (G:Fam X scope own capt λY=>DI Y tg2 it2 di2) (v:Fam X scope own capt λY=>DG Y tg2 is2 g2) (l:∀i∈is2,i<fo own/\i∉is) (J:Fam X scope own capt λY=>DTs Y Mc tt2)
  (he:Fam X scope own capt λY=>DE Y elt te)
  (hs:Fsi X iter:=by intro _;rfl) (I:∀(C:ai) (x:ah),foldedSetIterable it2 (compEnvC scope (ownCl X scope C) C X.env) x=pure x:=by intro _ _;rfl) :
  DN X (i3 elt [⟨tg,iter,ifs,0⟩,⟨tg2,it2,Mc,0⟩] scope pos) (zoe (fo own) capt di g tt di2 g2 tt2 te):=by
 obtain⟨ge,p,_,sp⟩:=zhA (e:=i3 elt [⟨tg,iter,ifs,0⟩,⟨tg2,it2,Mc,0⟩] scope pos) VO zrz hc S ⟨zjS,⟨_,rfl⟩,λ_ _ _=>rfl,λ_=>⟨_,rfl⟩,λ_ _=>⟨_,rfl⟩⟩ zq9 hi hg u ht (zs1 VO zjS hc rfl (λ_ _ _=>rfl) G v J I (zrj he)) l hs;exact⟨ge,p,λC N σ H n Q R St hd hq=>sp C N σ H n Q R St hd λacc Z H' D r e h hD _ ⟨ys,U,rs⟩=>hq acc Z D ys H' r e h hD U rs⟩
variable{ρ ρ0:En}{n m:Nat}{Rl:qD->Nat->Prop}
instance zym [h:CompN m capt ρ ρ0]:Stp (zoe m capt di g tt di2 g2 tt2 te ρ n Rl) (di ρ n λts n1=>U2 g tt di2 g2 tt2 te ρ0 ts [] n1 Rl):=⟨λk=>by unfold zoe;rw[h.e];exact k⟩
end
abbrev Run:=Int×Int
def NR(rs:List Run):Prop:=(∀r∈rs,r.1<r.2)/\rs.Pairwise λa b=>a.2<b.1
def mR(x:Int)(rs:List Run):Prop:=∃r∈rs,r.1<=x/\x<r.2
def mB(x:Int)(bs:qB):Prop:=∃b∈bs,b.1<=x/\x<eB b
theorem J7{x:Int}{r:Run}{rs:List Run}:mR x (r::rs)↔(r.1<=x/\x<r.2)\/mR x rs:=by unfold mR;constructor;rintro⟨s,o,h⟩;rcases ay.mp o with rfl|o;exact dY h;exact sr ⟨s,o,h⟩;rintro(h|⟨s,o,h⟩);exact⟨r,by simp,h⟩;exact⟨s,by simp[o],h⟩
theorem Qq{x:Int}:¬mR x []:=λ⟨_,h,_⟩=>nomatch h
theorem QZ{x:Int}{rs ss:List Run}:mR x (rs++ss)↔mR x rs\/mR x ss:=by unfold mR;constructor;rintro⟨s,o,h⟩;rcases au.mp o with o|o;exact dY ⟨s,o,h⟩;exact sr ⟨s,o,h⟩;rintro(⟨s,o,h⟩|⟨s,o,h⟩);exact⟨s,by simp[o],h⟩;exact⟨s,by simp[o],h⟩
theorem zjH{x:Int}{b:Int×Int}{bs:qB}:mB x (b::bs)↔(b.1<=x/\x<eB b)\/mB x bs:=by unfold mB;constructor;rintro⟨s,o,h⟩;rcases ay.mp o with rfl|o;exact dY h;exact sr ⟨s,o,h⟩;rintro(h|⟨s,o,h⟩);exact⟨b,by simp,h⟩;exact⟨s,by simp[o],h⟩
theorem ZY{x:Int}:¬mB x []:=λ⟨_,h,_⟩=>nomatch h
theorem ZW{x:Int}{bs cs:qB}:mB x (bs++cs)↔mB x bs\/mB x cs:=by unfold mB;constructor;rintro⟨s,o,h⟩;rcases au.mp o with o|o;exact dY ⟨s,o,h⟩;exact sr ⟨s,o,h⟩;rintro(⟨s,o,h⟩|⟨s,o,h⟩);exact⟨s,by simp[o],h⟩;exact⟨s,by simp[o],h⟩
theorem znj{x:Int}{bs cs:qB}(h:bs.Perm cs):mB x bs↔mB x cs:=by unfold mB;constructor;rintro⟨s,l,q⟩;exact⟨s,h.mem_iff.mp l,q⟩;rintro⟨s,l,q⟩;exact⟨s,h.mem_iff.mpr l,q⟩
theorem NR.tail{r:Run}{rs:List Run}(h:NR (r::rs)):NR rs:=⟨λs l=>h.1 s (by simp[l]),(cx.mp h.2).2⟩
theorem NR.ahead{r:Run}{rs:List Run}(h:NR (r::rs)){x:Int}(hx:mR x rs):r.2<x:=by obtain⟨s,l,u,o⟩:=hx;have:=(cx.mp h.2).1 s l;lia
theorem NR.uniq:∀{rs ss:List Run},NR rs->NR ss->(∀x,mR x rs↔mR x ss)->rs=ss
 | [],[],_,_,_=>rfl
 | [],s::ss,_,h,e=>by exfalso;have:=h.1 s (by simp);exact Qq ((e s.1).mpr (J7.mpr (dY ⟨aL _,this⟩)))
 | r::rs,[],h,_,e=>by exfalso;have:=h.1 r (by simp);exact Qq ((e r.1).mp (J7.mpr (dY ⟨aL _,this⟩)))
 | r::rs,s::ss,hr,hs,e=>by
  have u:=hr.1 r (by simp);have s1:=hs.1 s (by simp);have a:∀x,mR x (r::rs)->r.1<=x:=λx hx=>by rcases J7.mp hx with z|z;exact z.1;have:=hr.ahead z;lia
  have b:∀x,mR x (s::ss)->s.1<=x:=λx hx=>by rcases J7.mp hx with z|z;exact z.1;have:=hs.ahead z;lia
  have v:r.1=s.1:=by have:=b r.1 ((e r.1).mp (J7.mpr (dY ⟨aL _,u⟩)));have:=a s.1 ((e s.1).mpr (J7.mpr (dY ⟨aL _,s1⟩)));lia
  have nr:¬mR r.2 (r::rs):=λz=>by rcases J7.mp z with y|y;lia;have:=hr.ahead y;lia
  have ns:¬mR s.2 (s::ss):=λz=>by rcases J7.mp z with y|y;lia;have:=hs.ahead y;lia
  have C:r.2=s.2:=by rcases fA r.2 s.2 with z|z|z;exact absurd ((e r.2).mpr (J7.mpr (dY ⟨by lia,z⟩))) nr;exact z;exact absurd ((e s.2).mp (J7.mpr (dY ⟨by lia,z⟩))) ns
  have o:r=s:=gK v C;subst o;rw[NR.uniq hr.tail hs.tail λx=>?_];have ex:=e x;rw[J7,J7]at ex;constructor;intro z;have:=hr.ahead z;rcases ex.mp (sr z) with y|y;lia;exact y;intro z;have:=hs.ahead z;rcases ex.mpr (sr z) with y|y;lia;exact y
def Q5(lo hi:Int)(h:Nat):Prop:=lo % 2 ^ h=0/\(2:Int) ^ h<=hi - lo/\¬(lo % 2 ^ (h+1)=0/\(2:Int) ^ (h+1)<=hi - lo)
theorem zei{a b:Nat}(h:a<=b):((2:Int) ^ a)∣2 ^ b:=⟨2 ^ (b - a),by rw[<- fP];congr 1;lia⟩
theorem Ux{a b:Nat}(h:a<=b):(2:Int) ^ a<=2 ^ b:=by
 obtain⟨c,e⟩:=zei h;have pa:=Bd.JE a;have l:=Bd.JE b;have pc:0<c:=by rcases fA c 0 with z|z|z;have:=ix pa z;lia;subst z;lia;exact z
 rw[e];have:=cZ (show(1:Int)<=c by lia) (show(0:Int)<=2 ^ a by lia);lia
theorem Yn{lo:Int}{a b:Nat}(h:a<=b)(e:lo % 2 ^ b=0):lo % 2 ^ a=0:=by have d:((2:Int) ^ b)∣lo:=bH e;exact eN (vd (zei h) d)
theorem Q5.uniq{lo hi:Int}{h g:Nat}(a:Q5 lo hi h)(b:Q5 lo hi g):h=g:=by rcases dD h g with z|z|z;exfalso;exact a.2.2 ⟨Yn (show h+1<=g by lia) b.1,bT (Ux (show h+1<=g by lia)) b.2.1⟩;exact z;exfalso;exact b.2.2 ⟨Yn (show g+1<=h by lia) a.1,bT (Ux (show g+1<=h by lia)) a.2.1⟩
def Jz:Int->Int->List (Int×Int)->Prop
 | lo,hi,[]=>lo=hi
 | lo,hi,b::r=>lo<hi/\b.1=lo/\0<=b.2/\Q5 lo hi (ap b.2)/\Jz (lo+2 ^ ap b.2) hi r
theorem Jz.le:∀{bs:qB}{lo hi:Int},Jz lo hi bs->lo<=hi
 | [],_,_,h=>by have:_=_:=h;lia
 | b::r,lo,hi,h=>by have:=h.1;lia
theorem Jz.uniq:∀{bs cs:qB}{lo hi:Int},Jz lo hi bs->Jz lo hi cs->bs=cs
 | [],[],_,_,_,_=>rfl
 | [],c::cs,lo,hi,h,k=>by have:lo=hi:=h;have:=k.1;lia
 | b::bs,[],lo,hi,h,k=>by have:lo=hi:=k;have:=h.1;lia
 | b::bs,c::cs,lo,hi,h,k=>by
  obtain⟨R,L,I,v,l⟩:=h;obtain⟨N,G,J,u,o⟩:=k;have e:=v.uniq u;have C:b.2=c.2:=by lia
  have x:b=c:=gK (by lia) C;subst x;rw[Jz.uniq l o]
theorem Jz.mem:∀{bs:qB}{lo hi:Int},Jz lo hi bs->∀x,mB x bs↔lo<=x/\x<hi
 | [],lo,hi,h,x=>by have:lo=hi:=h;exact⟨λz=>absurd z ZY,λz=>by omega⟩
 | b::r,lo,hi,h,x=>by obtain⟨G,u,v,C,o⟩:=h;have:=Jz.mem o x;have l:=Jz.le o;have p:=Bd.JE (ap b.2);rw[zjH,this];unfold eB;rw[u];omega
theorem Jz.blk{bits:Int}(G:0<=bits):∀{bs:qB}{lo hi:Int},Jz lo hi bs->0<=lo->hi<=2 ^ ap bits->Bks bits bs
 | [],_,_,_,_,_=>λb hb=>nomatch hb
 | b::r,lo,hi,h,l0,l1=>by
  obtain⟨S,L,C,x,u⟩:=h;have p:=Bd.JE (ap b.2);have l:=Jz.le u;have J:=Jz.blk G u (by lia) l1;intro c hc;rcases ay.mp hc with rfl|hc;have hb:ap c.2<=ap bits:=by rcases gP (ap bits) (ap c.2) with z|z;exfalso;have:=Ux (show ap bits+1<=ap c.2 by lia);have R:=Bd.JE (ap bits);rw[cB]at this;have:=x.2.1;lia;exact z
  obtain⟨k,v⟩:=bH x.1;have I:0<=k:=by rcases lS k 0 with z|z;have:=ix p z;lia;exact z
  refine⟨C,by lia,k,I,by rw[L,v,c9],?_⟩;have e:(2:Int) ^ ap bits=2 ^ ap (bits - c.2)*2 ^ ap c.2:=by rw[<- fP];congr 1;lia
  have up:k*2 ^ ap c.2<2 ^ ap (bits - c.2)*2 ^ ap c.2:=by rw[<- e,c9,<- v];lia
  exact mG up (by lia);exact J c hc
theorem Jz.in:∀{bs:qB}{lo hi:Int},Jz lo hi bs->∀b∈bs,lo<=b.1/\eB b<=hi
 | [],_,_,_=>λb hb=>nomatch hb
 | b::r,lo,hi,h=>by obtain⟨G,v,x,C,o⟩:=h;have p:=Bd.JE (ap b.2);have u:=Jz.in o;have l:=Jz.le o;intro c hc;rcases ay.mp hc with rfl|hc;unfold eB;rw[v];lia;have:=u c hc;lia
theorem Jz.pw:∀{bs:qB}{lo hi:Int},Jz lo hi bs->bs.Pairwise λa b=>eB a<=b.1
 | [],_,_,_=>mO
 | b::r,lo,hi,h=>by obtain⟨G,v,x,C,u⟩:=h;refine .cons (λc hc=>?_) (Jz.pw u);have:=Jz.in u c hc;unfold eB;rw[v];lia
theorem zhY:∀{bs:qB}{lo hi:Int}{k:Nat},Jz lo hi bs->lo % 2 ^ k=0->hi - lo<2 ^ k->fo bs<=k
 | [],_,_,_,_,_,_=>cR _
 | b::r,lo,hi,k,h,d,l=>by
  obtain⟨G,C,v,o,u⟩:=h;have x:ap b.2<k:=by rcases gP (ap b.2) k with z|z;exact z;have:=Ux z;have:=o.2.1;lia
  have up:¬(2:Int) ^ (ap b.2+1)<=hi - lo:=λz=>o.2.2 ⟨Yn (show ap b.2+1<=k by lia) d,z⟩;rw[cB]at up;have:=zhY (k:=ap b.2) u (by rw[rD,o.1];simp) (by lia);rw[aP];lia
theorem zhX{K:Nat}:∀{bs:qB}{lo hi:Int}{k:Nat},Jz lo hi bs->lo % 2 ^ k=0->hi - lo<2 ^ K->k<=K->fo bs<=(K - k)+K
 | [],_,_,_,_,_,_,_=>cR _
 | b::r,lo,hi,k,h,d,l,hkK=>by
  obtain⟨G,J,C,o,u⟩:=h;have p:=Bd.JE (ap b.2);have I:ap b.2<K:=by rcases gP (ap b.2) K with z|z;exact z;have:=Ux z;have:=o.2.1;lia
  rw[aP];by_cases up:(2:Int) ^ (ap b.2+1)<=hi - lo;have nd:¬lo % 2 ^ (ap b.2+1)=0:=λz=>o.2.2 ⟨z,up⟩;have L:k<=ap b.2:=by rcases gP (ap b.2) k with z|z;exact absurd (Yn (show ap b.2+1<=k by lia) d) nd;exact z
  have d':(lo+2 ^ ap b.2) % 2 ^ (ap b.2+1)=0:=by
   obtain⟨q,eq⟩:=bH o.1;have v:(2:Int) ^ (ap b.2+1)=2 ^ ap b.2*2:=cB _ _;rw[v]at nd ⊢;have odd:q % 2=1:=by rcases tq q with z|z;exfalso;obtain⟨t,x⟩:=bH z;apply nd;apply eN;exact⟨t,by rw[eq,x,eP]⟩;exact z
   apply eN;refine⟨(q+1) / 2,?_⟩;have:q+1=2*((q+1) / 2):=by lia
   rw[eq,eP,<- this,sN,kY]
  have:=zhX (K:=K) (k:=ap b.2+1) u d' (by lia) (by lia);lia;rw[cB]at up;have:=zhY (k:=ap b.2) u (by rw[rD,o.1];simp) (by lia);lia
theorem Jz.len{bs:qB}{lo hi:Int}(h:Jz lo hi bs)(l:0<=lo)(o:hi<=2 ^ 64):fo bs<=130:=by have:=zhX (K:=65) (k:=0) h (by simp) (by have e:(2:Int) ^ 65=2*2 ^ 64:=(by decide);omega) (by decide);omega
theorem zkL{lo hi:Int}(h:lo<hi):∃g,Q5 lo hi g:=by
 have key:∀(d k:Nat),lo % 2 ^ k=0->(2:Int) ^ k<=hi - lo->ap (hi - lo)<2 ^ (k+d)->∃g,Q5 lo hi g:=by
  intro d;induction d with
  | zero =>
   intro k _ b c;exfalso;have:((2 ^ k:Nat):Int)=(2:Int) ^ k:=by rw[gZ];rfl
   rw[Nat.add_zero]at c;lia
  | succ d l =>intro k a b c;by_cases z:lo % 2 ^ (k+1)=0/\(2:Int) ^ (k+1)<=hi - lo;exact l (k+1) z.1 z.2 (by rw[show k+1+d=k+(d+1) by lia];exact c);exact⟨k,a,b,z⟩
 refine key (ap (hi - lo)) 0 (by simp) (by simp;lia) ?_;rw[fM];exact Nat.lt_two_pow_self
theorem zmm:∀(n:Nat) (lo hi:Int),ap (hi - lo)<=n->lo<=hi->∃bs,Jz lo hi bs:=by
 intro n;induction n with
 | zero =>intro lo hi h l;exact⟨[],by show lo=hi;lia⟩
 | succ n u =>intro lo hi h l;by_cases z:lo<hi;obtain⟨g,G⟩:=zkL z;have p:=Bd.JE g;have:=G.2.1;obtain⟨bs,B⟩:=u (lo+2 ^ g) hi (by lia) (by lia);exact⟨(lo,(g:Int))::bs,z,rfl,by show(0:Int)<=(g:Int);lia,by simpa using G,by simpa using B⟩;exact⟨[],by show lo=hi;lia⟩
def PatS:List Run->List (Int×Int)->Prop
 | [],ps=>ps=[]
 | r::rs,ps=>∃a b,ps=a++b/\Jz r.1 r.2 a/\PatS rs b
theorem PatS.uniq:∀{rs:List Run}{ps l:qB},PatS rs ps->PatS rs l->ps=l
 | [],_,_,h,k=>by rw[show _=[] from h,show _=[] from k]
 | r::rs,_,_,h,k=>by obtain⟨a,b,rfl,v,o⟩:=h;obtain⟨c,d,rfl,u,x⟩:=k;rw[v.uniq u,PatS.uniq o x]
theorem PatS.mem:∀{rs:List Run}{ps:qB},PatS rs ps->∀x,mB x ps↔mR x rs
 | [],_,h,x=>by cases(show _=[] from h);exact⟨λz=>absurd z ZY,λz=>absurd z Qq⟩
 | r::rs,_,h,x=>by obtain⟨a,b,rfl,o,l⟩:=h;rw[ZW,J7,o.mem x,PatS.mem l x]
theorem PatS.blk{bits:Int}(l:0<=bits):∀{rs:List Run}{ps:qB},PatS rs ps->(∀r∈rs,0<=r.1/\r.2<=2 ^ ap bits)->Bks bits ps
 | [],_,h,_=>by cases(show _=[] from h);exact λb hb=>nomatch hb
 | r::rs,_,h,w=>by obtain⟨a,b,rfl,x,u⟩:=h;have o:=w r (by simp);intro c hc;rcases au.mp hc with hc|hc;exact x.blk l o.1 o.2 c hc;exact PatS.blk l u (λs v=>w s (by simp[v])) c hc
theorem PatS.in:∀{rs:List Run}{ps:qB},PatS rs ps->∀b∈ps,∃r∈rs,r.1<=b.1/\eB b<=r.2
 | [],_,h=>by cases(show _=[] from h);exact λb hb=>nomatch hb
 | r::rs,_,h=>by obtain⟨a,b,rfl,u,l⟩:=h;intro c hc;rcases au.mp hc with hc|hc;exact⟨r,by simp,u.in c hc⟩;obtain⟨s,o,q⟩:=PatS.in l c hc;exact⟨s,by simp[o],q⟩
theorem PatS.pw:∀{rs:List Run}{ps:qB},PatS rs ps->NR rs->ps.Pairwise λa b=>eB a<=b.1
 | [],_,h,_=>by cases(show _=[] from h);exact mO
 | r::rs,_,h,nr=>by obtain⟨a,b,rfl,u,o⟩:=h;rw[bP];refine⟨u.pw,PatS.pw o nr.tail,λx hx y C=>?_⟩;have:=u.in x hx;obtain⟨s,v,q⟩:=PatS.in o y C;have:=(cx.mp nr.2).1 s v;lia
theorem PatS.len:∀{rs:List Run}{ps:qB},PatS rs ps->(∀r∈rs,0<=r.1/\r.2<=2 ^ 64)->fo ps<=130*fo rs
 | [],_,h,_=>by cases(show _=[] from h);simp
 | r::rs,_,h,w=>by obtain⟨a,b,rfl,v,o⟩:=h;have l:=w r (by simp);have:=v.len l.1 l.2;have:=PatS.len o λs u=>w s (by simp[u]);rw[aO,aP];lia
def CanP(S:Int->Prop)(ps:qB):Prop:=∃rs,NR rs/\(∀x,mR x rs↔S x)/\PatS rs ps
theorem CanP.uniq{S T:Int->Prop}{ps l:qB}(h:CanP S ps)(k:CanP T l)(e:∀x,S x↔T x):ps=l:=by
 obtain⟨rs,I,C,u⟩:=h;obtain⟨ss,G,o,v⟩:=k;have:rs=ss:=I.uniq G λx=>by rw[C,o,e]
 subst this;exact u.uniq v
theorem CanP.mem{S:Int->Prop}{ps:qB}(h:CanP S ps)(x:Int):mB x ps↔S x:=by obtain⟨rs,u,o,l⟩:=h;rw[l.mem,o]
theorem CanP.ptc{S:Int->Prop}{ps:qB}{bits:Int}(C:0<=bits)(h:CanP S ps)(w:∀x,S x->0<=x/\x<2 ^ ap bits):Ptc bits ps:=by obtain⟨rs,v,u,o⟩:=h;refine⟨o.blk C λr l=>?_,o.pw v⟩;have lt:=v.1 r l;have a:=w r.1 ((u _).mp ⟨r,l,aL _,lt⟩);have b:=w (r.2 - 1) ((u _).mp ⟨r,l,by lia,by lia⟩);lia
section
variable{X:Cx}{a:bg}{da:DTE}{ρ:En}{n:Nat}{R:qN}
theorem zng:MtR X "int.bit_length" (λx xs H Q=>∃i,x=.int i/\xs=[]/\Q (.int (gE i)) H):=by intro pins s σ H x xs v us Q I l rs h;obtain⟨i,rfl,rfl,q⟩:=h;obtain⟨t,rfl⟩:=l;cases rs;exact call_int_bit_length ⟨.int _,H,I.tok _,⟨_,rfl⟩,q⟩
def zof(d:DTE):DTE:=λρ n R=>d ρ n λt l=>lInt t λi=>R (bu (gE i)) l
theorem zi4{o x:Pos}(h:DL X a da)(G:attributeBase a "bit_length" X.env (eval a X.env)=eval a X.env:=by rfl) (J:(o.endLine == jh x)=du:=by rfl):DE X (f9 (jq a "bit_length" o) [] [] x) (zof da):=by
 obtain⟨ta,pa,h⟩:=h;refine⟨_,zuM PySem.F.plainAttrs_int slot_int_bit_length type_int_bit_length zng pa G J,λC ρ σ H n Q R S hd U=>?_⟩;refine h C ρ σ H n _ _ S hd λt I v N r Z L Y=>?_;cases t with
 | int i =>rw[Y.intI];exact⟨rfl,i,rfl,rfl,U _ I _ N r Z L (.int _)⟩
 | _=>exact e9 r
instance zxz:Stp (zof da ρ n R) (da ρ n λt n1=>lInt t λi=>R (bu (gE i)) n1):=⟨λh=>h⟩
end
theorem zfB{i:Int}(h:0<i):(gE i:Int) - 1=(i.toNat.log2:Int):=by
 unfold gE;have:(i == 0)=dy:=by simp;lia
 rw[this];have e:i.natAbs=ap i:=by lia
 rw[e];simp
theorem znp{i:Int}(h:0<i):(2:Int) ^ i.toNat.log2<=i:=by
 have:=Nat.log2_self_le (n:=ap i) (by lia);have e:((2 ^ i.toNat.log2:Nat):Int)=(2:Int) ^ i.toNat.log2:=by rw[gZ];rfl
 lia
theorem znk{i:Int}(h:0<i):i<(2:Int) ^ (i.toNat.log2+1):=by
 have:=Nat.lt_log2_self (n:=ap i);have e:((2 ^ (i.toNat.log2+1):Nat):Int)=(2:Int) ^ (i.toNat.log2+1):=by rw[gZ];rfl
 lia
theorem znr(t:Nat):∀x:Nat,x % 2 ^ t=0->¬x % 2 ^ (t+1)=0->x - (x &&& (x - 1))=2 ^ t:=by
 induction t with
 | zero =>
  intro x _ h;have I:x % 2=1:=by
   have:¬x % 2=0:=by simpa using h
   lia
  have e:x &&& (x - 1)=x - 1:=by
   apply oS;intro i;rw[n8];cases i with
   | zero =>
    have:(x - 1).testBit 0=dy:=by rw[nF];simp;lia
    rw[this,ko]
   | succ i =>
    have:x / 2=(x - 1) / 2:=by lia
    rw[ip,ip,this,Bool.and_self]
  rw[e];simp;omega
 | succ t v =>
  intro x o C;have ev:x % 2=0:=by have:2∣2 ^ (t+1):=⟨2 ^ t,by rw[nU,nT]⟩;exact ku (Nat.dvd_trans this (kA o))
  have hx:x=2*(x / 2):=by lia
  have u:(x / 2) % 2 ^ t=0:=by
   obtain⟨q,e⟩:=kA o;apply ku;refine⟨q,?_⟩;rw[nU]at e;have:x=2*(2 ^ t*q):=by rw[e];rw[nT (2 ^ t) 2,ve]
   lia
  have l:¬(x / 2) % 2 ^ (t+1)=0:=λz=>by obtain⟨q,e⟩:=kA z;apply C;apply ku;refine⟨q,?_⟩;rw[nU,nT (2 ^ (t+1)) 2,ve,<- e];exact hx
  have:=v (x / 2) u l;have e:x &&& (x - 1)=2*(x / 2 &&& (x / 2 - 1)):=by
   apply oS;intro i;rw[n8];cases i with
   | zero =>
    have a:x.testBit 0=dy:=by rw[nF];simp;omega
    rw[a,cz,nF];simp
   | succ i =>
    have G:0<x / 2:=by rcases Nat.eq_zero_or_pos (x / 2) with z|z;rw[z]at l;simp at l;exact z
    have b:(x - 1) / 2=x / 2 - 1:=by lia
    rw[ip,ip,ip,b,Nat.mul_div_cancel_left _ (by decide:0<2),n8]
  rw[e,nU];have le:(x / 2 &&& (x / 2 - 1))<=x / 2:=tw;lia
theorem ztE{b:Int}(h:0<b){t:Nat}(v:b % 2 ^ t=0)(u:¬b % 2 ^ (t+1)=0):hZ b (-b)=2 ^ t:=by
 have e:hZ b (-b)=b - ((ap b &&& (ap b - 1):Nat):Int):=by
  have h0:decide (0<=b)=du:=decide_eq_true (by lia);have l:decide (0<=-b)=dy:=decide_eq_false (by lia);show(match decide (0<=b),decide (0<=-b) with
   | true,du=>((ap b &&& ap (-b):Nat):Int)
   | true,dy=>b - ((ap b &&& ap (gM (-b)):Nat):Int)
   | false,du=>(-b) - ((ap (-b) &&& ap (gM b):Nat):Int)
   | false,dy=>gM ((ap (gM b)|||ap (gM (-b)):Nat):Int))=_
  rw[h0,l];have:ap (gM (-b))=ap b - 1:=by
   have:gM (-b)=b - 1:=by show -(-b) - 1=b - 1;lia
   rw[this];lia
  rw[this]
 have cast:∀k:Nat,b % (2:Int) ^ k=((ap b % 2 ^ k:Nat):Int):=λk=>by rw[Int.natCast_emod,gZ,Int.toNat_of_nonneg (by lia)];rfl
 rw[cast]at v u;have:=znr t (ap b) (by lia) (by lia);have le:(ap b &&& (ap b - 1))<=ap b:=tw;rw[e];have x:((2 ^ t:Nat):Int)=(2:Int) ^ t:=by rw[gZ];rfl
 omega
theorem zxC{b:Int}(h:0<b):∃t:Nat,b % 2 ^ t=0/\¬b % 2 ^ (t+1)=0:=by obtain⟨g,G⟩:=zkL (lo:=b) (hi:=b+b+1) (by lia);refine⟨g,G.1,λz=>?_⟩;have d:=bH z;have:=Int.le_of_dvd h d;exact G.2.2 ⟨z,by lia⟩
theorem zkE{xs:qD}{x:af}:ixN (fo (xs++[x])) (-1)=ao (fo xs):=by unfold ixN;simp;lia
theorem zkC{xs:qD}{x:af}{Q:af->Prop}(h:Q x):oIx (sJ (xs++[x])) (bu (-1)) Q:=by
 have e:atI (xs++[x]) (-1)=ao x:=by unfold atI;rw[zkE];simp
 rw[YE e];exact h
end L2
namespace Bd
open PySem L2
def ppD(xs:List (af×af)):List af:=xs.map λp=>lV [p.1,p.2]
def oD(os:List ((Int×Int)×Str)):List af:=os.map λp=>lV [prD p.1,cH p.2]
theorem UU{os:List ((Int×Int)×Str)}:fo (oD os)=fo os:=by simp[oD]
def Shr(bits:Int)(os:List ((Int×Int)×Str)):Prop:=Ptc bits (os.map (·.1))/\∀p∈os,IsNm p.2
theorem Yp(os:List ((Int×Int)×Str)):oD os=ppD (os.map λp=>(prD p.1,cH p.2)):=by unfold oD ppD;rw[bS];rfl
theorem Wu:∀{xs l:List (af×af)},ppD xs=ppD l->xs=l
 | [],[],_=>rfl
 | [],_::_,h=>by cases h
 | _::_,[],h=>by cases h
 | (a,b)::xs,(c,d)::l,h=>by simp only[ppD,aU,eh,gW,and_true]at h;obtain⟨⟨rfl,rfl⟩,h⟩:=h;rw[Wu h]
def apB(a b:Int×Int):Prop:=eB a<=b.1\/eB b<=a.1
def okPr(p q:(Int×Int)×Str):Prop:=p.2=q.2\/apB p.1 q.1
def Agr(os l:List ((Int×Int)×Str)):Prop:=∀p∈os,∀q∈l,okPr p q
abbrev Deal:=Int×List ((Int×Int)×Str)×List ((Int×Int)×Str)
def dlD(d:Deal):af:=lV [bu d.1,lV (oD d.2.1),lV (oD d.2.2)]
def Dl(d:Deal):Prop:=1<=d.1/\d.1<=64/\Shr d.1 d.2.1/\Shr d.1 d.2.2/\Agr d.2.1 d.2.2
theorem znd:∀{os l:List ((Int×Int)×Str)},oD os=oD l->os=l
 | [],[],_=>rfl
 | [],_::_,h=>by cases h
 | _::_,[],h=>by cases h
 | ((a,b),c)::os,((a',b'),c')::l,h=>by simp only[oD,aU,eh,gW,su,PyData.str.injEq,and_true]at h;obtain⟨⟨⟨rfl,rfl⟩,rfl⟩,h⟩:=h;rw[znd h]
def nD(l:List Str):List af:=l.map cH
theorem zvd{o:List Str}:fo (nD o)=fo o:=by simp[nD]
theorem zne{os:List ((Int×Int)×Str)}{k:Nat}{t:af}(h:(oD os)[k]?=ao t):∃p,os[k]?=ao p/\t=lV [lV [bu p.1.1,bu p.1.2],cH p.2]:=by
 unfold oD at h;rw[bK]at h;cases e:os[k]? with
 | none=>rw[e]at h;cases h
 | some p=>rw[e]at h;cases h;exact⟨p,rfl,rfl⟩
end Bd
namespace L2
open PySem PySem.Spec PyProof.Rows
section
variable{X:Cx}{tg iter:bg}{d:DTE}
def iSeq(K:qF)(o:TE):TI:=λσ H R=>o σ H λx l=>∃a,x=.ref a/\(((∃xs,SqL K l a xs)/\R (Itl K a) l)\/((∃xs,SqT K l a xs)/\R (Itt K a) l))
theorem zuC{l:bg}{L:TE}(S:PE X l L):PI X tg l (iSeq X.K L):=by
 intro pins s σ H R I h;refine thn (S pins s σ H _ I h) λv s1 C=>?_;obtain⟨x,N,u,Y,J⟩:=C;obtain⟨a,e,J⟩:=J;subst e;cases Y;rcases J with⟨⟨xs,G⟩,q⟩|⟨⟨xs,G⟩,q⟩;obtain⟨its,U,p,Z⟩:=u.list G;refine ft p.isList ?_;refine⟨be s1.heap.objs,[be s1.heap.objs],_,_,N,rfl,u.kept (t':=eA s1) λb o e=>aj _ e,zhO a _,⟨_,aB _ rfl,rfl,rfl⟩,λb hb=>?_,q⟩;have e:b=be s1.heap.objs:=by simpa using hb
 subst e;exact u.fpOk (aC _) (u.hok.fresh (aC _));obtain⟨its,U,p,Z⟩:=u.tuple G;refine l8 (show s1.heap.IsTuple a (bm its) from p) ?_;refine⟨be s1.heap.objs,[be s1.heap.objs],_,_,N,rfl,u.kept (t':=eA s1) λb o e=>aj _ e,zgi a _,⟨_,aB _ rfl,rfl,rfl⟩,λb hb=>?_,q⟩;have e:b=be s1.heap.objs:=by simpa using hb
 subst e;exact u.fpOk (aC _) (u.hok.fresh (aC _))
def dItA(d:DTE):DTA:=λo n R=>d o n λt l=>J0 t λts=>R ts l
theorem zn6(h:DE X iter d):DI X tg iter (dItA d):=by
 obtain⟨U,pa,h⟩:=h;refine⟨_,zuC pa,λC x σ H n Q R S hd J=>?_⟩;refine h C x σ H n _ _ S hd λt G v H' r L I q=>?_;cases t with
 | tuple ts =>obtain⟨p,u,rfl,o,it⟩:=zrd (P:=λa=>¬Own C x σ a) (λ_ z=>z) q;exact⟨p,rfl,sr ⟨⟨u,o⟩,J ts G _ H' r L I it⟩⟩
 | list ts =>obtain⟨p,u,rfl,o,no,N⟩:=q.lstI;exact⟨p,rfl,dY ⟨⟨u,SqL.of o⟩,J ts G _ H' r L I (Wp o no (λ_ z=>z) N)⟩⟩
 | _=>exact e9 r
variable{ρ:En}{n:Nat}{Rl:qD->Nat->Prop}
instance zzS:Stp (dItA d ρ n Rl) (d ρ n λt n'=>J0 t λts=>Rl ts n'):=⟨λh=>h⟩
end
theorem UG{bits:Int}{p q:Int×Int}(P:IsBk bits p.1 p.2)(Q:IsBk bits q.1 q.2){x:Int}(u:p.1<=x/\x<eB p)(o:q.1<=x/\x<eB q):(p.1<=q.1/\eB q<=eB p/\q.2<=p.2)\/(q.1<=p.1/\eB p<=eB q/\p.2<=q.2):=by unfold eB at *;rcases wB (ap q.2) (ap p.2) with l|l;rcases zja P.n Q.n l with z|z|z;left;have:=(zjT P.n Q.n).mp z;have:=P.1;have:=Q.1;omega;omega;omega;rcases zja Q.n P.n l with z|z|z;right;have:=(zjT Q.n P.n).mp z;have:=P.1;have:=Q.1;omega;omega;omega
theorem zj3{bits i h:Int}(B:IsBk bits i h):i % 2 ^ ap h=0:=by obtain⟨_,_,k,_,rfl,_⟩:=B;exact rE _ _
theorem Jz.great:∀{bs:qB}{lo hi:Int},Jz lo hi bs->∀b∈bs,Q5 b.1 hi (ap b.2)/\lo<=b.1
 | [],_,_,_=>λb hb=>nomatch hb
 | b::r,lo,hi,h=>by obtain⟨x,o,v,u,l⟩:=h;have p:=Bd.JE (ap b.2);intro c hc;rcases ay.mp hc with rfl|hc;rw[o];exact⟨u,aL _⟩;have:=Jz.great l c hc;exact⟨this.1,by lia⟩
theorem Jz.max{bits:Int}(Y:0<=bits){bs:qB}{lo hi:Int}(S:Jz lo hi bs)(l0:0<=lo)(l1:hi<=2 ^ ap bits){p q:Int×Int}(v:p∈bs)(Q:IsBk bits q.1 q.2)(w:lo<=q.1/\eB q<=hi)(i:q.1<=p.1/\eB p<=eB q):q=p:=by
 have B:=S.blk Y l0 l1;have P:=B p v;have pp:=Bd.JE (ap p.2);have pq:=Bd.JE (ap q.2);have nest:=UG P Q (x:=p.1) ⟨aL _,by unfold eB;lia⟩ ⟨i.1,by unfold eB at *;lia⟩;have hle:p.2<=q.2:=by
  rcases nest with⟨a,b,c⟩|⟨a,b,c⟩;have u:p.1=q.1:=by lia
  have I:eB p=eB q:=by lia
  unfold eB at I;rcases lS q.2 p.2 with z|z;have p0:=P.1;have q0:=Q.1;have:=Ux (show ap q.2+1<=ap p.2 by lia);rw[cB]at this;lia;exact z;exact c
 have p0:=P.1;have q0:=Q.1;by_cases e:p.2=q.2;have u:(2:Int) ^ ap p.2=2 ^ ap q.2:=by rw[e]
 have:q.1=p.1:=by unfold eB at *;lia
 exact gK this e.symm;exfalso;have J:ap p.2+1<=ap q.2:=by lia
 have dq:=zj3 Q;have R:=Yn J dq;have G:=(S.great p v).1;by_cases ev:p.1 % 2 ^ (ap p.2+1)=0;apply G.2.2;refine⟨ev,?_⟩;obtain⟨a,l⟩:=bH ev;have de:eB q % 2 ^ (ap p.2+1)=0:=by unfold eB;rw[rD,R,eN (zei J)];simp
 obtain⟨c,L⟩:=bH de;have lt:p.1<eB q:=by have:=i.2;unfold eB at *;lia
 rw[l,L]at lt;have pos:=Bd.JE (ap p.2+1);have ac:a<c:=mJ lt (by lia);have:=cZ (show a+1<=c by lia) (show(0:Int)<=2 ^ (ap p.2+1) by lia);rw[sN,kY,<- l,<- L]at this;lia;have Md:(p.1 - 2 ^ ap p.2) % 2 ^ (ap p.2+1)=0:=by
  obtain⟨k,ek⟩:=bH (zj3 P);have I:(2:Int) ^ (ap p.2+1)=2 ^ ap p.2*2:=cB _ _;rw[I]at ev ⊢;have odd:k % 2=1:=by rcases tq k with z|z;exfalso;obtain⟨t,et⟩:=bH z;apply ev;apply eN;exact⟨t,by rw[ek,et,eP]⟩;exact z
  apply eN;refine⟨(k - 1) / 2,?_⟩;have:k - 1=2*((k - 1) / 2):=by lia
  rw[ek,eP,<- this,Int.mul_sub,kY]
 have lowq:q.1<=p.1 - 2 ^ ap p.2:=by
  obtain⟨a,l⟩:=bH Md;obtain⟨c,L⟩:=bH R;have pos:=Bd.JE (ap p.2+1);have I:(2:Int) ^ (ap p.2+1)=2 ^ ap p.2*2:=cB _ _;have lt:q.1<p.1 - 2 ^ ap p.2+2 ^ (ap p.2+1):=by lia
  rw[l,L]at lt;have:(2:Int) ^ (ap p.2+1)*c<2 ^ (ap p.2+1)*(a+1):=by rw[sN,kY];exact lt
  have ca:=mJ this (by lia);have:=cZ (show c<=a by lia) (show(0:Int)<=2 ^ (ap p.2+1) by lia);rw[<- l,<- L]at this;exact this
 obtain⟨c,hc,c1,c2⟩:=(S.mem (p.1 - 2 ^ ap p.2)).mpr ⟨by lia,by have:=S.in p v;unfold eB at this;lia⟩;have C:=B c hc;have pc:=Bd.JE (ap c.2);have cp:eB c<=p.1:=by obtain⟨i1,h1,rfl⟩:=bh hc;obtain⟨U,h2,rfl⟩:=bh v;rcases dD i1 U with z|z|z;exact aJ.mp S.pw i1 U h1 h2 z;subst z;lia;have:=aJ.mp S.pw U i1 h2 h1 z;unfold eB at this;lia
 have LB:IsBk bits (p.1 - 2 ^ ap p.2) (p.2+1):=by
  have hq1:=Q.2.1;obtain⟨a,l⟩:=bH Md;have u:ap (p.2+1)=ap p.2+1:=by lia
  have pos:=Bd.JE (ap p.2+1);have a0:0<=a:=by rcases lS a 0 with z|z;have:=ix pos z;have:=(Q.bounds Y).1;lia;exact z
  refine⟨by lia,by lia,a,a0,by rw[u,l,c9],?_⟩;have e:(2:Int) ^ ap bits=2 ^ ap (bits - (p.2+1))*2 ^ (ap p.2+1):=by rw[<- fP];congr 1;lia
  have up:a*2 ^ (ap p.2+1)<2 ^ ap (bits - (p.2+1))*2 ^ (ap p.2+1):=by rw[<- e,c9,<- l];have:=(P.bounds Y).2;lia
  exact mG up (by lia)
 have u:ap (p.2+1)=ap p.2+1:=by lia
 have n3:=UG (p:=c) (q:=(p.1 - 2 ^ ap p.2,p.2+1)) C LB (x:=p.1 - 2 ^ ap p.2) ⟨c1,c2⟩ ⟨aL _,by show _<_+2 ^ ap (p.2+1);have:=Bd.JE (ap (p.2+1));lia⟩;have eL:eB (p.1 - 2 ^ ap p.2,p.2+1)=p.1+2 ^ ap p.2:=by show p.1 - 2 ^ ap p.2+2 ^ ap (p.2+1)=_;rw[u,cB];lia
 rcases n3 with⟨Z,z2,z3⟩|⟨Z,z2,z3⟩;lia;have Z:p.1 - 2 ^ ap p.2<=c.1:=Z;have z3:c.2<=p.2+1:=z3;have cb:c.1=p.1 - 2 ^ ap p.2:=by lia
 have c0:=C.1;have ch:c.2<=p.2:=by
  rcases lS p.2 c.2 with z|z;have:c.2=p.2+1:=by lia
  unfold eB at cp;rw[this,u,cB]at cp;lia;exact z
 have Gc:=(S.great c hc).1;apply Gc.2.2;refine⟨?_,?_⟩;rw[cb];exact Yn (show ap c.2+1<=ap p.2+1 by lia) Md;have:=Ux (show ap c.2+1<=ap p.2+1 by lia);have I:(2:Int) ^ (ap p.2+1)=2 ^ ap p.2*2:=cB _ _;have:=S.in p v;unfold eB at this;lia
theorem NR.one{rs:List Run}(nr:NR rs){a b:Int}(h:a<b)(w:∀x,a<=x->x<b->mR x rs):∃r∈rs,r.1<=a/\b<=r.2:=by obtain⟨r,l,v,L⟩:=w a (aL _) h;refine⟨r,l,v,?_⟩;rcases lS r.2 b with z|z;exfalso;obtain⟨s,u,I,C⟩:=w r.2 (by lia) z;obtain⟨i,hi,rfl⟩:=bh l;obtain⟨j,o,rfl⟩:=bh u;have J:=nr.1 _ l;have G:=nr.1 _ u;rcases dD i j with y|y|y;have:=aJ.mp nr.2 i j hi o y;lia;subst y;lia;have:=aJ.mp nr.2 j i o hi y;lia;exact z
theorem PatS.from:∀{rs:List Run}{ps:qB},PatS rs ps->∀p∈ps,∃r∈rs,∃bs,Jz r.1 r.2 bs/\p∈bs
 | [],_,h=>by cases(show _=[] from h);exact λb hb=>nomatch hb
 | s::rs,_,h=>by obtain⟨a,b,rfl,v,u⟩:=h;intro p l;rcases au.mp l with l|l;exact⟨s,by simp,a,v,l⟩;obtain⟨r,o,bs,B,hb⟩:=PatS.from u p l;exact⟨r,by simp[o],bs,B,hb⟩
theorem CanP.max{bits:Int}(J:0<=bits){S:Int->Prop}{ps:qB}(h:CanP S ps)(w:∀x,S x->0<=x/\x<2 ^ ap bits){p q:Int×Int}(G:p∈ps)(Q:IsBk bits q.1 q.2)(N:∀x,q.1<=x->x<eB q->S x)(i:q.1<=p.1/\eB p<=eB q):q=p:=by
 obtain⟨rs,nr,me,P⟩:=h;obtain⟨r,l,bs,B,hb⟩:=P.from p G;have lt:=nr.1 r l;have I:=w r.1 ((me _).mp ⟨r,l,aL _,lt⟩);have R:=w (r.2 - 1) ((me _).mp ⟨r,l,by lia,by lia⟩);have pin:=B.in p hb;have pp:=Qd p;obtain⟨s,L,s1,s2⟩:=nr.one (a:=q.1) (b:=eB q) (Qd q) λx o u=>(me x).mpr (N x o u);have v:r=s:=by obtain⟨i1,o,rfl⟩:=bh l;obtain⟨C,u,rfl⟩:=bh L;rcases dD i1 C with y|y|y;have:=aJ.mp nr.2 i1 C o u y;lia;subst y;rfl;have:=aJ.mp nr.2 C i1 u o y;lia
 subst v;exact B.max J I.1 (by lia) hb Q ⟨s1,s2⟩ i
theorem ziF:∀{ps bs:qB},(ps.Pairwise λa b=>eB a<=b.1)->(∀p∈ps,∃b∈bs,p.1<=b.1/\b.1<eB p)->fo ps<=fo bs
 | [],_,_,_=>cR _
 | p::ps,bs,pw,h=>by
  obtain⟨b,hb,C,x⟩:=h p (by simp);have l:=cx.mp pw;have:=ziF (ps:=ps) (bs:=bs.erase b) l.2 λq o=>by obtain⟨c,hc,u,v⟩:=h q (by simp[o]);refine⟨c,(List.mem_erase_of_ne ?_).mpr hc,u,v⟩;rintro rfl;have:=l.1 q o;lia
  have e:=List.length_erase_of_mem hb;have:=List.length_pos_of_mem hb;rw[aP];lia
theorem CanP.le{bits:Int}(l:0<=bits){bs ps:qB}(B:Bks bits bs)(h:CanP (λx=>mB x bs) ps):fo ps<=fo bs:=by
 have w:∀x,mB x bs->0<=x/\x<2 ^ ap bits:=λx ⟨b,hb,G,v⟩=>by have:=(B b hb).bounds l;unfold eB at v;omega
 have P:=h.ptc l w;refine ziF P.2 λp C=>?_;have pp:=Qd p;obtain⟨b,hb,G,v⟩:=(h.mem p.1).mp ⟨p,C,aL _,pp⟩;rcases UG (P.1 p C) (B b hb) (x:=p.1) ⟨aL _,pp⟩ ⟨G,v⟩ with z|z;exact⟨b,hb,z.1,by have:=Qd b;omega⟩;have:=h.max l w C (B b hb) (λx I J=>⟨b,hb,I,J⟩) ⟨z.1,z.2.1⟩;subst this;exact⟨b,hb,aL _,pp⟩
section
variable{Q:af->Prop}{s:Str}
theorem zm8:Okd fq:=zpF.okd
instance zzz:Stp (oNe (cH s) fq Q) (Okd (cH s)/\Q (dQ du)):=⟨λh=>⟨h.1,zm8,h.2⟩⟩
end
end L2
namespace Bd
open PySem L2
def QX(nm:af):Prop:=nm=fq\/∃s,nm=cH s/\IsNm s
def who(s:Str):af->Bool
 | cH t=>decide (s=t)
 | _=>false
def Jt(d:Deal)(nm:af):List (Int×Int):=(d.2.2.filter λp=>!who p.2 nm).map (·.1)
end Bd
namespace L2
open PySem PySem.Spec PyProof.Rows
section
variable{X:Cx}{a b o:bg}{d:DTE}{ds:DTA}{pos p:Pos}{x y:Str}
def zuh(i j:Nat)(ds:DTA)(d:DTE):DTS:=λD u n=>ds u n λts C=>d u C λt G=>Qg t=du/\D.nx (ce (ce u i (ao (.own ts))) j (ao (.val t))) G
theorem ztg{i j:Nat}{px py pt:Pos}{kt k2 pt2}(hc:X.calm=du)(hN:X.N.Nodup)(hi:X.N[i]?=ao x)(hj:X.N[j]?=ao y)(J:i≠j)
  (hx:X.env.scope.names.lookup x=ao .local) (hy:X.env.scope.names.lookup y=ao .local) (h:DN X a ds) (h':DE X b d)
  (R:starEach [a,b] X.env=(dy,eval a X.env)::starEach [b] X.env:=by rfl) (hs2:starEach [b] X.env=[(dy,eval b X.env)]:=by rfl)
  (hw:swappedStores [i4 [bv x px,bv y py] kt pt] (i4 [a,b] k2 pt2) X.env=pure (ao [x,y]):=by rfl)
  (hs:swapsWithSole [i4 [bv x px,bv y py] kt pt] (i4 [a,b] k2 pt2) pos.line X.env=pure dy:=by rfl) :
  DS X (ii [i4 [bv x px,bv y py] kt pt] (i4 [a,b] k2 pt2) pos) (zuh i j ds d):=by
 obtain⟨ta,pa,h⟩:=h;obtain⟨tb,pb,h'⟩:=h';refine⟨_,zuv hc hN hi hj J hx hy (Ue pa (Ue pb UW hs2) R) hw hs,λC G σ H n D D' S hd g=>?_⟩;refine h C G σ H n _ _ S hd λts n1 p vs H1 r1 e1 h1 L hp' q1=>?_;have S1:=S.on e1 h1;refine h' C G σ H1 n1 _ _ S1 r1 λt n2 v Y r2 I h2 q2=>?_;refine⟨_,_,rfl,?_⟩;have Z:C.hd≠ao p:=λz=>S.dom (dY (S.hx p z)) L;have q1':Reps X.K C.hd (λa=>Own C G σ a\/a=p) Y vs ts:=q1.mono (λ_ _ _ z=>z) λa o no ha=>I a o ha λz=>no (dY (dY (S.hx a z)));have SO:=S.putOwn (i:=i) (e1.trans I) h2 L (I p _ hp' Z) q1';have U:Rep X.K C.hd (Own C (ce G i (ao (.own ts))) (ce σ i (ao (.ref p)))) Y v t:=q2.up (λa ha=>SO.lst ha) r2.1;exact g.nx _ _ Y n2 r2.2 (SO.put U) ((zdu (e1.trans I) L).trans QT)
variable{ρ:En}{n i j:Nat}{D:JY}{t:af}
instance zzy:Stp (zuh i j ds d D ρ n) (ds ρ n λts n1=>d ρ n1 λt n2=>Qg t=du/\SetK i (ao (.own ts)) (λρ1 n1=>SetK j (ao (.val t)) D.nx ρ1 n1) ρ n2):=⟨λh=>h⟩
end
section
variable{X:Cx}{Q:af->Prop}{i j k:Int}
def min3(i j k:Int):Int:=if j<i then(if k<j then k else j) else(if k<i then k else i)
theorem zov(hc:X.calm=du):JX X (dL "min") (λxs H Q=>∃i j k,xs=[.int i,.int j,.int k]/\Q (.int (min3 i j k)) H):=by
 intro pins s σ H xs us Q I r h;obtain⟨i,j,k,rfl,q⟩:=h;cases r with
 | cons x r =>obtain⟨v,G,rfl,⟨t',rfl⟩,⟨C,rfl⟩⟩:=vals2 r;obtain⟨t,rfl⟩:=x;refine min_three_ints (I.ok.hd hc) λh' tk o=>⟨_,H,I.kept o,?_,q⟩;unfold min3;by_cases h1:j<i <;> by_cases h2:k<j <;> by_cases h3:k<i <;> simp only[h1,h2,h3,if_true,if_false] <;> exact⟨_,rfl⟩
def VQ:GC
 | [bu i,bu j,bu k],R=>R (bu (min3 i j k))
 | _,_=>False
theorem zs5:GpC X (λxs H Q=>∃i j k,xs=[.int i,.int j,.int k]/\Q (.int (min3 i j k)) H) VQ:=by
 intro hd O H xs ts Q R dom rs h x;unfold VQ at h;split at h;cases rs with
 | cons u rs =>obtain⟨v,w,rfl,l,o⟩:=zmE rs;rw[u.intI,l.intI,o.intI];exact⟨_,_,_,rfl,x _ _ H h (Same.refl H) (.int _)⟩
 exact e9 h
theorem zvE{R:af->Prop}(h:R (bu (min3 i j k))):VQ [bu i,bu j,bu k] R:=h
instance{R:af->Prop}:Stp (VQ [bu i,bu j,bu k] R) (R (bu (min3 i j k))):=⟨λh=>zvE h⟩
end
end L2
namespace L2
open PySem Bd
theorem zoB{bits i h:Int}(B:IsBk bits i h)(u:h<bits):IsBk bits (i / 2 ^ ap (h+1)*2 ^ ap (h+1)) (h+1)/\i / 2 ^ ap (h+1)*2 ^ ap (h+1)<=i/\i+2 ^ ap h<=i / 2 ^ ap (h+1)*2 ^ ap (h+1)+2 ^ ap (h+1):=by
 have h0:=B.1;have e:ap (h+1)=ap h+1:=by lia
 have l:(2:Int) ^ ap (h+1)=2*2 ^ ap h:=by rw[e,cB,c9]
 have a:=B.abt u;have p:=JE (ap h);have x:=zj3 B;have G:i / 2 ^ ap (h+1)*2 ^ ap (h+1)=i - i % (2*2 ^ ap h):=by rw[l];have:=Int.mul_ediv_add_emod i (2*2 ^ ap h);rw[c9]at this;lia
 rw[G,l];refine⟨a,?_,?_⟩;have:=gj i (show(2*2 ^ ap h:Int)≠0 by lia);lia;generalize (2:Int) ^ ap h=P at *;have m:=fW i (show(0:Int)<2*P by lia);have C:P∣i:=bH x;have v:P∣i % (2*P):=by rw[Int.emod_def];exact Int.dvd_sub C (vd ⟨2,by lia⟩ (Int.dvd_mul_right _ _))
 obtain⟨c,hc⟩:=v;have:c<2:=by by_cases z:c<2;exact z;have:=cZ (show(2:Int)<=c by lia) (bG p);lia
 have:P*c<=P*1:=cZ (by lia) (bG p);lia
theorem CanP.hold{bits:Int}(o:0<=bits){S:Int->Prop}{ps:qB}(h:CanP S ps)(w:∀x,S x->0<=x/\x<2 ^ ap bits){b:Int×Int}(B:IsBk bits b.1 b.2)(u:∀x,b.1<=x->x<eB b->S x):∃p∈ps,p.1<=b.1/\eB b<=eB p:=by have P:=h.ptc o w;have lt:=Qd b;obtain⟨p,l,v,C⟩:=(h.mem b.1).mpr (u b.1 (aL _) lt);rcases UG (P.1 p l) B (x:=b.1) ⟨v,C⟩ ⟨aL _,lt⟩ with z|z;exact⟨p,l,z.1,z.2.1⟩;have e:=h.max o w l B u ⟨z.1,z.2.1⟩;exact⟨p,l,by rw[e];exact aL _,by rw[e];exact aL _⟩
theorem zvg{o:List Run}{a:Nat}{p:Run}(e:o[a]?=ao p)(x:Int):mR x (o.take (a+1))↔mR x (o.take a)\/(p.1<=x/\x<p.2):=by rw[dW,e,QZ];constructor;rintro(z|⟨r,u,h⟩);exact dY z;cases av.mp u;exact sr h;rintro(z|z);exact dY z;exact sr ⟨p,by simp,z⟩
theorem zky{o:List Run}{a:Nat}{p:Run}(e:o[a]?=ao p){x:Int}(h:mR x o):mR x (o.take a)\/(p.1<=x/\x<p.2)\/∃r∈o.drop (a+1),r.1<=x:=by obtain⟨r,C,u,v⟩:=h;obtain⟨i,hi,rfl⟩:=bh C;have ha:=(aq.mp e).1;rcases dD i a with z|z|z;exact dY ⟨o[i],List.mem_take_iff_getElem.mpr ⟨i,by omega,rfl⟩,u,v⟩;subst z;rw[aw hi]at e;cases e;exact sr (dY ⟨u,v⟩);refine sr (sr ⟨o[i],?_,u⟩);rw[mK];exact⟨i - (a+1),by omega,by congr 1;omega⟩
theorem NR.beyond{l:List Run}(n:NR l){a:Nat}{p:Run}(e:l[a]?=ao p):∀r∈l.drop (a+1),p.2<r.1:=λr o=>by obtain⟨i,hi,rfl⟩:=mK.mp o;have ha:=(aq.mp e).1;have:=aJ.mp n.2 a (a+1+i) ha (by omega) (by omega);rw[aw ha]at e;cases e;exact this
structure ShI(as bs cs:List Run)(a b:Nat):Prop where
 nr:NR cs
 me:∀x,mR x cs↔mR x as/\mR x bs/\(mR x (as.take a)\/mR x (bs.take b))
 gp:∀c∈cs,∀r∈as.drop a,∀s∈bs.drop b,c.2<max r.1 s.1
 ln:fo cs<=a+b
def shr2(p q:Run):List Run:=if max p.1 q.1<min p.2 q.2 then[(max p.1 q.1,min p.2 q.2)] else[]
theorem zkx{p q:Run}{x:Int}:mR x (shr2 p q)↔(p.1<=x/\x<p.2)/\(q.1<=x/\x<q.2):=by unfold shr2;split;constructor;rintro⟨r,l,h⟩;cases av.mp l;dsimp only at h;omega;intro h;exact⟨_,av.mpr rfl,by dsimp only;omega,by dsimp only;omega⟩;exact⟨λz=>absurd z Qq,λz=>by omega⟩
theorem Wq{p q:Run}:∀c∈shr2 p q,c.1=max p.1 q.1/\c.2=min p.2 q.2/\c.1<c.2:=by unfold shr2;split;intro c hc;cases av.mp hc;exact⟨rfl,rfl,by assumption⟩;intro c hc;cases hc
theorem zke{p q:Run}:fo (shr2 p q)<=1:=by unfold shr2;split <;> simp
variable{as bs cs:List Run}{a b:Nat}
theorem ShI.zero:ShI as bs [] 0 0:=⟨⟨λr l=>(nomatch l),mO⟩,λx=>⟨λz=>absurd z Qq,λz=>by rcases z.2.2 with y|y;exact absurd y Qq;exact absurd y Qq⟩,λc hc=>(nomatch hc),aC _⟩
theorem WN{as:List Run}{a:Nat}{p:Run}(e:as[a]?=ao p):p∈as.drop a/\∀r∈as.drop (a+1),r∈as.drop a:=by obtain⟨h,rfl⟩:=aq.mp e;have e:=bO h;exact⟨by rw[e];exact cP,λr l=>by rw[e];exact cC _ l⟩
theorem ShI.nrx(h:ShI as bs cs a b){p q:Run}(u:as[a]?=ao p)(eq:bs[b]?=ao q):NR (cs++shr2 p q):=by refine⟨λr o=>?_,?_⟩;rcases au.mp o with z|z;exact h.nr.1 r z;exact(Wq r z).2.2;rw[bP];refine⟨h.nr.2,?_,λc hc d hd=>?_⟩;unfold shr2;split;exact cU _ _;exact mO;rw[(Wq d hd).1];exact h.gp c hc p (WN u).1 q (WN eq).1
theorem ShI.stepA(h:ShI as bs cs a b)(nb:NR bs)(na:NR as){p q:Run}(v:as[a]?=ao p)(eq:bs[b]?=ao q)(lt:p.2<q.2):ShI as bs (cs++shr2 p q) (a+1) b:=by have pa:p∈as:=aQ v;have J:q∈bs:=aQ eq;refine⟨h.nrx v eq,λx=>?_,λc hc r G s C=>?_,by have:=h.ln;have:=zke (p:=p) (q:=q);rw[aO];omega⟩;rw[QZ,h.me,zkx,zvg v];constructor;rintro(⟨o,u,I⟩|⟨o,u⟩);exact⟨o,u,h7 I (λy=>dY (dY y)) sr⟩;exact⟨⟨p,pa,o⟩,⟨q,J,u⟩,dY (sr o)⟩;rintro⟨o,u,(z|z)|z⟩;exact dY ⟨o,u,dY z⟩;rcases zky eq u with y|y|⟨s,C,y⟩;exact dY ⟨o,u,sr y⟩;exact sr ⟨z,y⟩;have:=nb.beyond eq s C;omega;exact dY ⟨o,u,sr z⟩;rcases au.mp hc with z|z;exact h.gp c z r ((WN v).2 r G) s C;have:=na.beyond v r G;have:=Wq c z;omega
theorem ShI.stepB(h:ShI as bs cs a b)(nb:NR bs)(na:NR as){p q:Run}(v:as[a]?=ao p)(eq:bs[b]?=ao q)(lt:¬p.2<q.2):ShI as bs (cs++shr2 p q) a (b+1):=by have pa:p∈as:=aQ v;have J:q∈bs:=aQ eq;refine⟨h.nrx v eq,λx=>?_,λc hc r G s C=>?_,by have:=h.ln;have:=zke (p:=p) (q:=q);rw[aO];omega⟩;rw[QZ,h.me,zkx,zvg eq];constructor;rintro(⟨o,u,I⟩|⟨o,u⟩);exact⟨o,u,h7 I dY (λy=>sr (dY y))⟩;exact⟨⟨p,pa,o⟩,⟨q,J,u⟩,sr (sr u)⟩;rintro⟨o,u,z|(z|z)⟩;exact dY ⟨o,u,dY z⟩;exact dY ⟨o,u,sr z⟩;rcases zky v o with y|y|⟨s,C,y⟩;exact dY ⟨o,u,dY y⟩;exact sr ⟨y,z⟩;have:=na.beyond v s C;omega;rcases au.mp hc with z|z;exact h.gp c z r G s ((WN eq).2 s C);have:=nb.beyond eq s C;have:=Wq c z;omega
theorem ShI.fin(h:ShI as bs cs a b)(e:fo as<=a\/fo bs<=b)(x:Int):mR x cs↔mR x as/\mR x bs:=by rw[h.me];refine⟨λz=>⟨z.1,z.2.1⟩,λz=>⟨z.1,z.2,?_⟩⟩;rcases e with e|e;exact dY (by rw[df e];exact z.1);exact sr (by rw[df e];exact z.2)
end L2
namespace L2
open PySem PySem.Spec PyProof.Rows
theorem zyB{P:aK}{w:aV}{k:Key}{u:ah}(r:RelV (kV k) u):(JJ P w).is k u=du:=by
 cases k with
 | inl i=>obtain⟨t,e⟩:=(show ∃t,u=rL i t from r);subst e;exact zjF P w i t
 | inr x=>obtain⟨t,e⟩:=(show ∃t,u=kI x t from r);subst e;exact zjE P w x t
theorem ziW{P:aK}{w:aV}:∀{u:List Key}{us:List ah},Vals (u.map kV) us->ItemsAre (JJ P w) u us
 | [],_,r=>by rw[fL]at r;cases r;exact .nil
 | k::u,_,r=>by
  rw[aU]at r;cases r with
  | cons h t=>exact .cons (zyB h) (ziW t)
abbrev KT(H:Hp):List (List Key×V)->List (List Key×ai×ah)->Prop:=cA λp q=>p.1=q.1/\H q.2.1=ao (.tup (p.1.map kV))/\RelV p.2 q.2.2
section
variable{X:Cx}{pins:qO}{σ:St}{H:Hp}{s:ax}{a:ai}
theorem Inv.big(I:Inv X pins σ H s):sysModules<be s.heap.objs:=by have h:mainGlobals<be s.heap.objs:=(I.mod.glob.keeps I.bk).lt;exact lK (by decide) h
theorem zto{h':bq}{t':Nat}{C:HO}(I:Inv X pins σ H s)(J:Mut (H a))(G:gn a s.heap h')(he:∃q,bi h' a=ao q)(new:JS X.prog X.w (upd H a C) h' a C) :
  Inv X pins σ (upd H a C) { s with heap:=h',toks:=t' } :=
 I.write (x:=a) (e:=a) J (dY rfl) (λb q hb z=>b4 (G.2 b hb) z) he new
end
def NoSl(i:bg):Prop:=∀l o,subscripted i dy l o=operate [l,o] (getItem l o)
theorem zmj{prog:aK}{w:aV}{A:bw}{E:qV}{s:ax}{env:Env}{value slice:bg}{pos:Pos}{T id:String}{Q:qV}
  (R:typeLookup (bU T) "__getitem__" = pure (ao (dL id))) (U:NoSl slice)
  (h:wpAny (model prog w) A (eval value env) (λo G=>wpAny (model prog w) A (eval slice env) (λi v=>v.TypeIs o T/\wpAny (model prog w) A (getItem o i) Q E v) E G) E s) :
  wpAny (model prog w) A (eval (ed value slice pos) env) Q E s:=by
 refine tU (c8 h (λo G L=>c8 L (λi v C=>?_) λ_ _ x=>x) λ_ _ x=>x);obtain⟨N,C⟩:=C;unfold subscriptTail;refine ae ?_;rw[getitemInPython_of_ne N.not_modules];refine ae (tx N R ?_);have fin:wpAny (model prog w) A (subscripted slice dy o i) (λr I=>wpAny (model prog w) A (letTemporaryGo value o r >>= λ_=>pure r) Q E I) E v:=by rw[U o i];exact wpAny_operating (c8 C (λr I J=>ae (wpAny_letTemporaryGo (ak J))) λ_ _ x=>x)
 first
  | exact ak (ae fin)
  | exact ae (ak (ae fin))
  | exact ae fin
end L2
namespace L2
open PySem PySem.Spec PyProof PyProof.Rows
abbrev KD:=List (Key×af)
section
variable{ks:KD}
instance{ks:KD}:CapC (ao (.dct ks)) (ao (.rdo ks)):=⟨rfl⟩
instance{ks:KD}:CapC (ao (.rdo ks)) (ao (.rdo ks)):=⟨rfl⟩
end
theorem zdq:entryFor table "dict.update.loop" = ao fw.«dict.update.loop»:=by kernel_rfl
theorem znu:typeLookup (bU "list") "keys" = pure bj:=by rw[lC,g8];kernel_rfl
theorem zs7:typeLookup (bU "list") "__getattr__" = pure bj:=by rw[lC,g8];kernel_rfl
section
variable{prog:aK}{w:aV}{A:bw}{E:qV}{s:ax}
theorem zhu{a:ai}{o:Obj}{u:Tok}{P:Fin->ax->Prop}(v:bi s.heap a=ao o)(hc:jo o=bU "list") (l:∃its n,io o=im its n) (hd:o.dict=bj) (C:A.handled=bj)
  (h:∀h' tk e,n9 s.heap h' e (bQ a) "keys" -> E (bQ e) { s with heap:=h',toks:=tk }):wpAny (model prog w) A (fw.«object.__getattribute__» ⟨[bQ a,kI "keys" u],[]⟩) P E s:=by
 obtain⟨x,g,d,tk,os⟩:=s;have I:∀(t:Nat),Shared.TypeIs ⟨x,g,d,t,os⟩ (bQ a) "list":=λ_=>⟨o,v,hc⟩;have G:=znu;unfold fw.«object.__getattribute__»
 repeat (any_goals (first|assumption|wp_step))
 rw[hc,G]
 repeat (any_goals (first|assumption|wp_step))
 obtain⟨its,n,l⟩:=l;rw[l];dsimp only;unfold instanceDict
 repeat (any_goals (first|assumption|wp_step))
 rw[hd]
 repeat (any_goals (first|assumption|wp_step))
 simp only[hc,fU,wD,if_true]
 repeat (any_goals (first|assumption|wp_step))
 rw[hc];dsimp only
 repeat (any_goals (first|assumption|wp_step))
 exact wpAny_raiseAttrError C h (attrMsg_fits (by decide +kernel) (by size_fits))
theorem zf8{a:ai}{o:Obj}{u:Tok}{R:tR->ax->Prop}(v:bi s.heap a=ao o)(hc:jo o=bU "list") (C:∃its n,io o=im its n) (hd:o.dict=bj) (x:A.handled=bj)
  (h:∀h' tk e,n9 s.heap h' e (bQ a) "keys" -> R (.error (bQ e)) { s with heap:=h',toks:=tk }):codeAny (model prog w) A (.call (dL "list.__getattribute__") ⟨[bQ a,kI "keys" u],[]⟩) R s :=
 k7 gA.plain F.entry_list_ga (gA.check _ _ _ _ _ _ _ _ (show s.TypeIs (bQ a) "list" from⟨_,v,hc⟩) (F.args_list_getattribute_2 _ _) (zhu v hc C hd x h))
theorem ziH{a:ai}{o:Obj}{u:Tok}{Q:qV}(l:bi s.heap a=ao o)(hc:jo o=bU "list") (G:∃its n,io o=im its n) (hd:o.dict=bj) (C:A.handled=bj)
  (h:∀h' tk e,n9 s.heap h' e (bQ a) "keys" -> E (bQ e) { s with heap:=h',toks:=tk }):wpAny (model prog w) A (getAttrBy (bQ a) (kI "keys" u) dy) Q E s:=by
 obtain⟨v,g,d,tk,os⟩:=s;have J:(⟨v,g,d,tk,os⟩:ax).TypeIs (bQ a) "list":=⟨o,l,hc⟩;have f2:=gA.lookup;have R:=gA.bind (bQ a);have f1:=pM;have L:=zs7
 repeat (any_goals (first|assumption|wp_step))
 refine zf8 l hc G hd C λh' x e hx=>?_;obtain⟨t',N,he⟩:=hx.there
 repeat (any_goals (first|assumption|wp_step))
 exact h _ _ _ hx
theorem zf9{a:ai}{o:Obj}{Q:Option ah->ax->Prop}(u:bi s.heap a=ao o)(hc:jo o=bU "list") (C:∃its n,io o=im its n) (hd:o.dict=bj) (x:A.handled=bj)
  (h:∀h' tk,(∀b l,bi s.heap b=ao l->bi h' b=ao l)->Q bj { s with heap:=h',toks:=tk }):wpAny (model prog w) A (getAttr? (bQ a) "keys") Q E s:=by
 unfold getAttr? getAttrBy?;obtain⟨G,g,d,tk,os⟩:=s;have f1:=pM
 repeat (any_goals (first|assumption|(with_reducible refine ziH u hc C hd x λh' v e hx=>?_)|wp_step))
 obtain⟨t',I,he⟩:=hx.there
 repeat (any_goals (first|assumption|wp_step))
 exact h _ _ hx.keeps
end
section
variable{Ky:Type}[DecidableEq Ky]
def KpH(d it:ai)(h h':bq):Prop:=∀b o,b≠d->b≠it->bi h b=ao o->bi h' b=ao o
end
def rkI:ah->Int
 | rL i _=>i
 | _=>0
section
variable{prog:aK}{w:aV}{A:bw}{E:qV}{s:ax}{Ky:Type}[DecidableEq Ky]
theorem zkH:∀(u:List ah),(∀v∈u,∃i t,v=rL i t)->∃ns,g9 u ns
 | [],_=>⟨[],.nil⟩
 | v::u,h=>by obtain⟨i,t,rfl⟩:=h v (by simp);obtain⟨ns,r⟩:=zkH u λv x=>h v (by simp[x]);exact⟨i::ns,.cons _ _ r⟩
theorem zlW{C:List ah}(I:∀v∈C,∃i t,v=rL i t):Kinds prog w A s rkI C:=λG=>by
 refine⟨oneType',λE Q q=>?_,λp q E Q mp N h=>?_⟩;obtain⟨x,l,rest,rfl⟩:∃x l rest,C=x::l::rest:=by
  match C,G with
  | [],G=>simp at G
  | [_],G=>simp at G
  | x::l::rest,_=>exact⟨x,l,rest,rfl⟩
 obtain⟨ns,r⟩:=zkH _ I;rw[keyKind_ints r];exact ak q;have mem:∀z∈nK (pairsOf C),z.1∈C:=λz R=>by
  have:z∈C.zip C:=by simpa[pairsOf] using R
  exact(dZ this).1
 obtain⟨i,t,S⟩:=I _ (mem p mp);obtain⟨j,u,J⟩:=I _ (mem q N);rw[S,J]at h ⊢;rw[keyLt'_oneType];exact oneLt_int h
end
theorem zij{α u:Type}{P:α->u->Prop}:∀{l:List α}{m:List u},fo l=fo m->(∀(j:Nat) a b,l[j]?=ao a->m[j]?=ao b->P a b)->cA P l m
 | [],[],_,_=>ja
 | a::l,b::m,h,k=>hH (k 0 a b rfl rfl) (zij (by simpa using h) λj a b x v=>k (j+1) a b x v)
 | [],_::_,h,_=>by simp at h
 | _::_,[],h,_=>by simp at h
theorem zmA{k:Nat}{A:bw}(r:Room k A):A.units+1<cLine:=by have:=r.un;lia
section
theorem zmD{K:qF}{hd:Option ai}{O:ai->Prop}{H:Hp}:∀u:List Int,Reps K hd O H (u.map V.int) (u.map bu)
 | []=>.nil
 | j::u=>.cons (.int _) (zmD u)
end
theorem zh5{a b c:Int}:0<=eE a b c:=by unfold eE;split;split;have:=iN (a:=b - a - 1) (b:=c) (by lia) (by lia);lia;lia;split;have:=iN (a:=a - b - 1) (b:=-c) (by lia) (by lia);lia;lia
theorem zld{a b c:Int}(I:-(2 ^ 60)<=a)(x:a<2 ^ 60)(v:-(2 ^ 60)<=b)(C:b<2 ^ 60)(l:-(2 ^ 29)<=c)(o:c<2 ^ 29)(h0:c≠0):o6 a b c=du:=by
 have G:eE a b c<2 ^ 62:=by unfold eE;split;split;have:=nG (a:=b - a - 1) c (by lia);lia;lia;split;have:=nG (a:=a - b - 1) (-c) (by lia);lia;lia
 have u:=zh5 (a:=a) (b:=b) (c:=c);unfold o6;simp only[tG,aF,iL,decide_eq_true_eq,beq_iff_eq];split <;> simp only[aF,decide_eq_true_eq] <;> lia
theorem QP{bits:Int}(v:0<=bits){bs:qB}(B:Bks bits bs){x:Int}(h:mB x bs):0<=x/\x<2 ^ ap bits:=by obtain⟨b,hb,C,l⟩:=h;have:=(B b hb).bounds v;unfold eB at l;lia
theorem UM{bits:Int}(u:0<=bits)(o:bits<=64){S:Int->Prop}{rs:qB}(nr:NR rs)(e:∀x,mR x rs↔S x)(w:∀x,S x->0<=x/\x<2 ^ ap bits):∀r∈rs,0<=r.1/\r.1<=r.2/\r.2<=2 ^ 64:=λr l=>by have lt:=nr.1 r l;have a:=w r.1 ((e _).mp ⟨r,l,aL _,lt⟩);have b:=w (r.2 - 1) ((e _).mp ⟨r,l,by lia,by lia⟩);have:=Bd.zdP (k:=ap bits) (by lia);lia
section
variable{prog:aK}{w:aV}{A:bw}
def PrT(prog:aK)(w:aV)(h:bq)(x:ah)(z:List Key×ai×ah):Prop:=∃p:ai,x=bQ p/\oC h p #[bQ z.2.1,z.2.2]/\kO (JJ prog w) h z.1 z.2.1
theorem V4{h:bq}{k:List Key}{a b:ai}{T:String}(r:kO (JJ prog w) h k a)(hb:∃o,bi h b=ao o/\jo o=bU T)(v:T ≠ "tuple"):a≠b:=by
 rintro rfl;obtain⟨o,_,_,e,c,_⟩:=r;obtain⟨x,u,l⟩:=hb;rw[e]at u;cases u;rw[c]at l;injection l with l
 exact v l.symm
theorem Wr{h h':bq}{k:List Key}{a:ai}(r:kO (JJ prog w) h k a)(kp:∀o,bi h a=ao o->bi h' a=ao o):kO (JJ prog w) h' k a:=by obtain⟨o,its,n,e,c⟩:=r;exact⟨o,its,n,kp o e,c⟩
theorem tup_ne{h:bq}{a b:ai}{xs:Array ah}{T:String}(r:oC h a xs)(hb:∃o,bi h b=ao o/\jo o=bU T)(v:T ≠ "tuple"):a≠b:=by
 rintro rfl;obtain⟨o,e,c,_⟩:=r;obtain⟨x,u,l⟩:=hb;rw[e]at u;cases u;rw[c]at l;injection l with l
 exact v l.symm
theorem zrs{h:bq}{d:ai}{xs:List (List Key×ai×ah)}(hd:h.DictOfH (tupleKind (JJ prog w)) d xs):∃o,bi h d=ao o/\jo o=bU "dict":=by obtain⟨o,v,u,l,hc,_⟩:=hd;exact⟨o,l,hc.1⟩
theorem zmd{A:bw}{xs:List ah}{kw:List (Str×ah)}:(A.under (jD "dict.update.loop" ⟨xs,kw⟩)).units=A.units+1:=by first|rfl|simp[Around.under,Code.cUnits,Code.frames,Code.isFrame]
variable{X:Cx}
theorem Wi{pins:qO}{σ:St}{H:Hp}{s:ax}{b:ai}{k:List Key}(I:Inv X pins σ H s)(h:SqT X.K H b (k.map kV)):kO (JJ X.prog X.w) s.heap k b:=by obtain⟨its,r,⟨o,e,c,n,d⟩,_⟩:=I.tuple h;exact⟨o,bm its,n,e,c,d,by simpa using ziW r⟩
end
end L2
namespace Bd
open PySem L2
theorem zqx{ts:qD}{lo hi:Option Int}{t:af}(h:t∈cutD ts lo hi):t∈ts:=by unfold cutD at h;exact gv (dI h)
theorem zqy{ts:qD}{lo hi:Option Int}:fo (cutD ts lo hi)<=fo ts:=by unfold cutD;rw[eF,dN];lia
end Bd
namespace Bd
open PySem L2
def Dq(K:qF)(mg:qM)(x:Str)(st:e8)(ps:List Str):Prop:=∃f fd,Def K mg x st ps f fd
def Fq(P:aK)(w:aV)(K:qF)(mg:qM)(base:bq)(x:Str)(st:e8)(ps:List Str)(k:Nat)(l:Sp):Prop:=∃f fd,Def K mg x st ps f fd/\FnOk P w K mg base CX0 k f fd ps l
end Bd
namespace L2
open PySem PySem.Spec PyProof.Rows
section
variable{X:Cx}{x:Str}{st:e8}{ps:List Str}{k n m:Nat}{g:GD}{e:bg}{es:List bg}{ds:DTA}{p pos:Pos}
theorem Jd(F:Bd.Fq X.prog X.w X.K X.mg X.base x st ps k (spD X.K m g))(u:Room n X.A)(h:DB X (e::es) ds)(J:k<=n:=by decide)(I:fo (e::es)=m:=by rfl)(v:Gl X x:=by rfl)
  (o:Ndb x:=by rfl):DE X (f9 (bv x p) (e::es) [] pos) (dFn g ds):=by
 obtain⟨f,fd,D,G⟩:=F;exact zzl D G (u.mono J) h I v o
theorem zwJ(F:Bd.Fq X.prog X.w X.K X.mg X.base x st ps k (spD X.K m g))(u:Room n X.A)(h:DBL X (e::es) ds)(J:k<=n:=by decide)(I:fo (e::es)=m:=by rfl)(v:Gl X x:=by rfl)
  (o:Ndb x:=by rfl):DE X (f9 (bv x p) (e::es) [] pos) (dFnL g ds):=by
 obtain⟨f,fd,D,G⟩:=F;exact zwK D G (u.mono J) h I v o
variable{hx s kx:Str}{p1 p2 p3 pos':Pos}{sts:List e8}{u:DTS}
theorem znX{i j:Nat}(F:Bd.Fq X.prog X.w X.K X.mg X.base hx st ps k (V7 X.K))(hr:Room n X.A)(hN:X.N.Nodup)(hi:X.N[i]?=ao x)(R:Loc (d0 X.env) x)(hu:DSs X sts u)(hk:k<=n:=by decide)(o:i≠0:=by decide)(J:j≠0:=by decide)(S:j≠i:=by decide)
  (h0:X.N[0]?=ao s:=by rfl) (hj:X.N[j]?=ao kx:=by rfl) (Y:Vis (d0 X.env) s:=by walk_at "V") (L:Vis (d0 X.env) kx:=by walk_at "V")
  (v:Ndb s:=by rfl) (Mv:Ncd s:=by rfl) (U:Ndb kx:=by rfl) (Z:Ncd kx:=by rfl) (hg:Gl X hx:=by rfl) (I:Ndb hx:=by rfl)
  (hs:swapsWith (f9 (bv hx p) [bv s p1,bv kx p2] [] p3) (ao (bv x pos')) pos.line X.env=pure dy:=by rfl) (hf:Fnl X x:=by walk_at "F") :
  DSs X (ii [bv x pos'] (f9 (bv hx p) [bv s p1,bv kx p2] [] p3) pos::sts) (Yr i j u):=by
 obtain⟨f,fd,D,G⟩:=F;exact zqk D G (hr.mono hk) hN hi R hu o J S h0 hj Y L v Mv U Z hg I hs hf
end
end L2
namespace Bd
open PySem L2
section
variable{h:bq}{x:Str}{st:e8}{ps:List Str}
abbrev BndA(x:Str)(st:e8)(ps:List Str):Prop:=∀(kV doc pm:ah) (an:Option ai) (cdv ct:ah) (us:List ah),fo us=fo ps->bindArgs (eR x x (QU st) (Qu st) (JT st) kJ kV doc pm an cdv ct) ⟨us,[]⟩=pure (ps.zip us)
theorem lenS{us:List ah}{n:Nat}(h:fo us=n+1):∃a t,us=a::t/\fo t=n:=by
 cases us with
 | nil=>cases h
 | cons a t=>exact⟨a,t,rfl,wF h⟩
theorem len1{us:List ah}(h:fo us=1):∃a,us=[a]:=by obtain⟨a,t,rfl,e⟩:=lenS h;exact⟨a,by rw[List.eq_nil_of_length_eq_zero e]⟩
theorem len2{us:List ah}(h:fo us=2):∃a b,us=[a,b]:=by obtain⟨a,t,rfl,e⟩:=lenS h;obtain⟨b,rfl⟩:=len1 e;exact⟨a,b,rfl⟩
theorem len3{us:List ah}(h:fo us=3):∃a b c,us=[a,b,c]:=by obtain⟨a,t,rfl,e⟩:=lenS h;obtain⟨b,c,rfl⟩:=len2 e;exact⟨a,b,c,rfl⟩
theorem len4{us:List ah}(h:fo us=4):∃a b c d,us=[a,b,c,d]:=by obtain⟨a,t,rfl,e⟩:=lenS h;obtain⟨b,c,d,rfl⟩:=len3 e;exact⟨a,b,c,d,rfl⟩
end
end Bd
namespace L2
open PySem PySem.Spec PyProof PyProof.Rows
section
variable{prog:aK}{w:aV}{A:bw}{E:qV}{s:ax}
theorem zjR{l:ai}{items:Array ah}{Q:List ah->ax->Prop}(I:oC s.heap l items)(N:A.handled=bj)(U:2<=be items)(Y:be items<=sizeLine)
  (h:∀(h':bq) (tk:Nat),(∀b o,bi s.heap b=ao o->bi h' b=ao o)->Q (items.toList.take 2++[bQ h'.objs.size]) { s with heap:=ee h' { cls:=bU "list",data:=im (bm (items.toList.drop 2)) },toks:=tk }) :
  wpAny (model prog w) A (unpackItems (bQ l) 3 (ao 2)) Q E s:=by
 have G:l≠be s.heap.objs:=by obtain⟨o,R,_⟩:=I;exact aW (aE R)
 unfold unpackItems;refine ae ?_;unfold notIterableAtAll;refine ae (tx I.typeIs slot_tuple_iter.lookup (ak ?_));simp only[bz,if_false];refine ae (cu (iter_tuple I ?_));refine ae (cu (draw_tuple G 2 0 _ _ ⟨_,aB _ rfl,rfl,rfl⟩ (I.push _) (by lia) λv hit L=>?_));have C:oC v l items:=(I.push _).extBut L.extBut G;have a1:∃o,bi v s.heap.objs.size=ao o:=by obtain⟨o,q,_⟩:=hit;exact⟨o,q⟩
 have a2:∃o,bi v l=ao o:=by obtain⟨o,q,_⟩:=C;exact⟨o,q⟩
 obtain⟨o1,a1⟩:=a1;obtain⟨o2,a2⟩:=a2;rw[mF];have fl:fo (items.toList.take 2)=2:=by rw[eF,bN];lia
 rw[if_neg (show ¬(fo (items.toList.take 2)<2) by lia)];refine ae (cu (PySem.W.kun_collect (s:={ s with heap:=v }) (T:="tuple_iterator") (sr (sr (sr rfl))) (Walks.tuple (A:=A.in1) N s.heap.objs.size l G items) (λj u st=>st.1.typeIs) (k:=2) U ⟨hit,C⟩ (aE a1) (aE a2) (λJ tk Z=>?_) Y));rw[if_neg (by lia)];show wpAny _ _ (newList ((items.toList.drop 2).take (fo (items.toList.drop 2) - (3 - 1 - 2))) >>= λd=>pure (items.toList.take 2++[d]++(items.toList.drop 2).drop (fo (items.toList.drop 2) - (3 - 1 - 2)))) _ _ _;have e1:(items.toList.drop 2).take (fo (items.toList.drop 2) - (3 - 1 - 2))=items.toList.drop 2:=df (by lia);have S:(items.toList.drop 2).drop (fo (items.toList.drop 2) - (3 - 1 - 2))=[]:=fN (by lia);rw[e1,S];refine ae (m6 (ak ?_) (by rw[dN,bN];lia));rw[cE];exact h J tk λb o q=>Z b o (aW (aE q)) (L.extBut b o (aW (aE q)) (aj _ q))
end
theorem zr9{xs:List V}{us:List ah}(r:Vals xs us):Vals (xs.drop 2) (us.drop 2):=by
 cases r with
 | nil=>exact ja
 | cons _ r=>cases r with
  | nil=>exact ja
  | cons _ r=>exact r
theorem zr8{xs:List V}{us:List ah}{v:V}{u:ah}(r:Vals xs us)(q:RelV v u):Vals (xs.take 2++[v]) (us.take 2++[u]):=by
 cases r with
 | nil=>exact hH q ja
 | cons a r=>cases r with
  | nil=>exact hH a (hH q ja)
  | cons b r=>exact hH a (hH b (hH q ja))
section
variable{X:Cx}{a b c:bg}{pos p3:Pos}{t:TGs}
def zzh(K:qF)(t:TGs):TG:=λv σ H Q=>∃a xs,v=.ref a/\SqT K H a xs/\2<=fo xs/\∀p,H p=bj->t (xs.take 2++[.ref p]) σ (upd H p (.lst (xs.drop 2))) Q
theorem zr0{k:Nat}(hc:X.calm=du)(h:PGs X [a,b,c] t)(R:fo (assignEach [a,b,jx c p3] X.env)=3:=by rfl)(C:(assignEach [a,b,jx c p3] X.env).findIdx? (·.1)=ao 2:=by rfl)
  (U:(assignEach [a,b,jx c p3] X.env).map (·.2)=(assignEach [a,b,c] X.env).map (·.2):=by rfl):PG X (i4 [a,b,jx c p3] k pos) (zzh X.K t):=by
 intro pins s σ H v u Q I r hw;obtain⟨q,xs,rfl,Y,Z,hw⟩:=hw;cases r;obtain⟨its,G,L,hz⟩:=I.tuple Y;have le:=G.length;rw[assign_Tuple];refine ae (fO ?_);unfold unpack;rw[R,C,U];refine ae (cu (zjR L (I.ok.hd hc) (by rw[aD];lia) (by rw[aD];lia) λh' tk kp=>?_));have J:Inv X pins σ H { s with heap:=h',toks:=tk }:=I.kept kp;have N:Inv X pins σ (upd H h'.objs.size (.lst (xs.drop 2))) { s with heap:=ee h' { cls:=bU "list",data:=im (bm (its.drop 2)) },toks:=tk }:=J.laid (t':=tk) (λb o q=>aj _ q) (aC _) ⟨by rw[dN];lia,its.drop 2,0,zr9 G,aB _ rfl⟩;exact h pins _ σ _ _ _ Q N (zr8 G (show RelV (.ref h'.objs.size) (bQ h'.objs.size) from rfl)) (hw _ (J.hok.fresh (aC _)))
end
section
variable{X:Cx}{e:bg}{x y z:Str}{pos px py pz p3 pt:Pos}{d:DTE}
def VW(t:af)(Q:af->af->qD->Prop):Prop:=match t with
 | lV (x::y::r)=>Q x y r
 | _=>False
def zug(i j k:Nat)(d:DTE):DTS:=λD C n=>d C n λt G=>VW t λx y r=>SetK i (ao (.val x)) (λo u=>SetK j (ao (.val y)) (λo u=>SetK k (ao (.val (sJ r))) D.nx o u) o u) C G
theorem ztf{i j k kt:Nat}(hc:X.calm=du)(G:X.N.Nodup)(hi:X.N[i]?=ao x)(hj:X.N[j]?=ao y)(hk:X.N[k]?=ao z)(hx:Loc (d0 X.env) x)(hy:Loc (d0 X.env) y)(hz:Loc (d0 X.env) z)(h:DE X e d)
  (fx:Fnl X x:=by walk_at "F") (fy:Fnl X y:=by walk_at "F") (fz:Fnl X z:=by walk_at "F")
  (hs:swapsWithSole [i4 [bv x px,bv y py,jx (bv z pz) p3] kt pt] e pos.line X.env=pure dy:=by rfl) (hw:swappedStores [i4 [bv x px,bv y py,jx (bv z pz) p3] kt pt] e X.env=pure bj:=by rfl) :
  DS X (ii [i4 [bv x px,bv y py,jx (bv z pz) p3] kt pt] e pos) (zug i j k d):=by
 obtain⟨ta,pa,h⟩:=h;refine⟨_,ZQ pa (zr0 hc (WF (Wt G hi hx fx) (WF (Wt G hj hy fy) (WF (Wt G hk hz fz) zmV)))) hs hw,λC L σ H n D D' S hd g=>?_⟩;refine h C L σ H n _ _ S hd λt n' v U r Z Y q=>?_;unfold VW at r;split at r;rename_i u w us;obtain⟨p,vs,rfl,h1,I⟩:=q.tupI;cases I with
 | cons ru I =>
  cases I with
  | @cons v2 d2 vr ds2 rw rs =>refine⟨p,_,rfl,h1,by simp,λq J=>?_⟩;have o:ExtE C.hd U (upd U q (.lst vr)):=ExtE.new J;have R:=S.on Z Y;have S2:=R.on o (Y.same (Qf J));have r3:Rep X.K C.hd (Own C L σ) _ (.ref q) (sJ us):=.lst J1 (R.free J) (o.reps S.hx rs);have T1:=S2.put (i:=i) (o.rep S.hx ru);have T2:=T1.put (i:=j) (Keep.rep QT S.hx (o.rep S.hx rw));have T3:=T2.put (i:=k) (Keep.rep (QT.trans QT) S.hx r3);exact⟨_,_,rfl,_,_,rfl,_,_,rfl,rfl,g.nx _ _ _ n' r T3 ((Z.keep.trans o.keep).trans ((QT.trans QT).trans QT))⟩
 exact e9 r
end
def StD(P:aK)(w:aV)(K:qF)(mg:qM)(x:Str)(C:List (Str×List Str)):Prop :=
 ∃(a:ai) (o:Obj) (l:Array eI) (G:Nat) (v:List (Str×ah)),mg x=ao (bQ a)/\(a == sysModules)=dy/\K.lookup a=ao o/\o.ExactDict/\io o=jt l G/\KeysOf (strKind P w) l/\Pairs (strKind P w) (nK l) v/\(v.map (·.1)).Nodup /\
  cA (λ(p:Str×List Str) (q:Str×ah)=>p.1=q.1/\∃b,q.2=bQ b/\StT K b (p.2.map V.str)) C v
def getT(l:List (Str×List Str))(z:Str):Option (List Str):=(l.find? λo=>decide (o.1=z)).map (·.2)
theorem zqd{K:qF}{l:List (Str×List Str)}{v:List (Str×ah)}(r:cA (λ(p:Str×List Str) (q:Str×ah)=>p.1=q.1/\∃b,q.2=bQ b/\StT K b (p.2.map V.str)) l v)(z:Str) :
  f6 (valueAt v z)=f6 (getT l z)/\∀u,getT l z=ao u->∃b,valueAt v z=ao (bQ b)/\StT K b (u.map V.str):=by
 induction r with
 | nil=>exact⟨rfl,λu h=>by cases h⟩
 | @cons p q ps qs h t ih =>
  obtain⟨x,b,I,C⟩:=h;by_cases e:q.1=z;have a1:valueAt (q::qs) z=ao q.2:=by simp[valueAt,eW,e]
  have a2:getT (p::ps) z=ao p.2:=by simp[getT,eW,b4 x e]
  rw[a1,a2];exact⟨rfl,λu G=>by cases G;exact⟨b,by rw[I],C⟩⟩;have a1:valueAt (q::qs) z=valueAt qs z:=by simp[valueAt,eW,e]
  have a2:getT (p::ps) z=getT ps z:=by simp[getT,eW,show ¬p.1=z from λJ=>e (b4 x.symm J)]
  rw[a1,a2];exact ih
section
variable{X:Cx}{e:bg}{x:Str}{pos p1:Pos}{d:DTE}{te:TE}{kvs:List (Str×List Str)}
theorem StD.at(h:StD X.prog X.w X.K X.mg x kvs):∃(a:ai) (l:List (Str×ah)),X.mg x=ao (bQ a)/\(a == sysModules)=dy/\(∀{pins σ H s},Inv X pins σ H s->s.heap.DictOf (strKind X.prog X.w) a l) /\
  ∀z,f6 (valueAt l z)=f6 (getT kvs z)/\∀u,getT kvs z=ao u->∃b,valueAt l z=ao (bQ b)/\StT X.K b (u.map V.str):=by
 obtain⟨a,o,J,G,l,N,Y,v,h4,R,U,C,L,Z⟩:=h;exact⟨a,l,N,Y,λI=>⟨o,J,G,I.kIn a o v,h4,R,U,C,L⟩,zqd Z⟩
def zxG(kvs:List (Str×List Str))(te:TE):TE:=λσ H Q=>te σ H λy u=>∃z,y=.str z/\Q (.bl (!(f6 (getT kvs z)))) u
theorem zr_(h:StD X.prog X.w X.K X.mg x kvs)(Y:Gl X x)(he:PE X e te)(hd:Ndb x:=by rfl):PC X .NotIn e (bv x p1) (zxG kvs te):=by obtain⟨a,Z,L,R,v,U⟩:=h.at;intro pins s σ H Q I hw;refine thn (he pins s σ H _ I hw) λJ s1 ⟨y,S,u,G,z,C,q⟩=>Vd u Y L ?_ hd;subst C;obtain⟨t,rfl⟩:∃t,J=kI z t:=G;refine wpAny_notIn_of (knd:=strKind X.prog X.w) (k:=z) (by show dS z (kI z t)=du;simp[dS]) R (v u).mapOf ?_;rw[(U z).1];exact⟨.bl _,S,u.tok _,rfl,q⟩
def zxH(kvs:List (Str×List Str))(K:qF)(te:TE):TE:=λσ H Q=>te σ H λy o=>∃z l,y=.str z/\getT kvs z=ao l/\∀b,StT K b (l.map V.str)->Q (.ref b) o
theorem zr2(h:StD X.prog X.w X.K X.mg x kvs)(Z:Gl X x)(he:PE X e te)(R:NoSl e)(hd:Ndb x:=by rfl):PE X (ed (bv x p1) e pos) (zxH kvs X.K te):=by obtain⟨a,vs,L,h2,o,Y⟩:=h.at;intro pins s σ H Q I hw;refine zmj mL.lookup R (Vd I Z L (thn (he pins s σ H _ I hw) λJ s1 ⟨y,U,l,G,z,v,C,g,q⟩=>?_) hd);subst C;obtain⟨t,rfl⟩:∃t,J=kI z t:=G;obtain⟨b,g1,g2⟩:=(Y z).2 v g;refine⟨(o l).typeIs,sy (knd:=strKind X.prog X.w) (k:=z) (by show dS z (kI z t)=du;simp[dS]) (o l).mapOf g1 ⟨.ref b,U,l.tok _,rfl,q b g2⟩⟩
def zwN(kvs:List (Str×List Str))(d:DTE):DTE:=λv n R=>d v n λy u=>lStr y λz=>R (dQ (!(f6 (getT kvs z)))) u
theorem ztd(h:StD X.prog X.w X.K X.mg x kvs)(he:DE X e d)(Z:Gl X x:=by rfl)(hd:Ndb x:=by rfl)(J:behindInMarks .NotIn (bv x p1)=dy:=by rfl):DT X (jg e [.NotIn] [bv x p1] pos) (Ui (zwN kvs d)):=by
 obtain⟨ta,pa,he⟩:=he;refine⟨_,zuu (zr_ h Z pa hd) J,λC G σ H n Q R S hd U=>?_⟩;refine he C G σ H n _ _ S hd λy u v L r Y l q=>?_;cases y with
 | str z=>exact⟨z,q.strI,_,rfl,U _ u L r Y l⟩
 | _=>exact e9 r
def dGGet(kvs:List (Str×List Str))(d:DTE):DTE:=λC n R=>d C n λy v=>lStr y λz=>∃o,getT kvs z=ao o/\R (lV (o.map cH)) v
theorem zg2{K:qF}{hd:Option ai}{O:ai->Prop}{H:Hp}:∀u:List Str,Reps K hd O H (u.map V.str) (u.map cH)
 | []=>.nil
 | k::u=>.cons (.str k) (zg2 u)
theorem ztn(h:StD X.prog X.w X.K X.mg x kvs)(he:DE X e d)(Z:Gl X x:=by rfl)(hd:Ndb x:=by rfl)(J:NoSl e:=by intro _ _;rfl):DE X (ed (bv x p1) e pos) (dGGet kvs d):=by
 obtain⟨ta,pa,he⟩:=he;refine⟨_,zr2 h Z pa J hd,λC I σ H n Q R S hd U=>?_⟩;refine he C I σ H n _ _ S hd λy G v L r Y l q=>?_;cases y with
 | str z =>obtain⟨o,g,r⟩:=r;exact⟨z,o,q.strI,g,λb hb=>U _ G _ L r Y l (.tupS hb (zg2 o))⟩
 | _=>exact e9 r
end
section
variable{i j k:Nat}{ρ:En}{n:Nat}{D:JY}{d:DTE}{x y:af}{r:qD}{R:qN}{kvs:List (Str×List Str)}
instance zzs:Stp (zug i j k d D ρ n) (d ρ n λt n'=>VW t λx y r=>SetK i (ao (.val x)) (λρ1 n1=>SetK j (ao (.val y)) (λρ1 n1=>SetK k (ao (.val (sJ r))) D.nx ρ1 n1) ρ1 n1) ρ n'):=⟨λh=>h⟩
instance zxO {Q:af->af->qD->Prop}:Stp (VW (lV (x::y::r)) Q) (Q x y r):=⟨λh=>h⟩
instance zzG:Stp (zwN kvs d ρ n R) (d ρ n λy n1=>lStr y λz=>R (dQ (!(f6 (getT kvs z)))) n1):=⟨λh=>h⟩
instance zzH:Stp (dGGet kvs d ρ n R) (d ρ n λy n1=>lStr y λz=>∃ks,getT kvs z=ao ks/\R (lV (ks.map cH)) n1):=⟨λh=>h⟩
end
def PtE(w:aV)(K:qF)(e:eI)(p:Str×List Str):Prop:=e.hash=hashStr w p.1/\(∃t,e.key=kI p.1 t)/\∃b,e.val=bQ b/\StT K b (p.2.map V.str)
theorem zus{P:aK}{w:aV}{K:qF}{x:List eI}{u:List (Str×List Str)}(r:cA (PtE w K) x u):∃v,Pairs (strKind P w) x v/\v.map (·.1)=u.map (·.1)/\(∀e∈x,∃k,(strKind P w).is k e.key=du/\e.hash=(strKind P w).hash k) /\
  cA (λ(p:Str×List Str) (q:Str×ah)=>p.1=q.1/\∃b,q.2=bQ b/\StT K b (p.2.map V.str)) u v:=by
 induction r with
 | nil=>exact⟨[],.nil,rfl,(λe h=>nomatch h),ja⟩
 | @cons e p x ps h t ih =>
  obtain⟨v,a1,a2,R,I⟩:=ih;obtain⟨L,⟨t,N⟩,b,G,S⟩:=h;have C:(strKind P w).is p.1 e.key=du:=by rw[N];show dS p.1 (kI p.1 t)=du;simp[dS]
  refine⟨(p.1,e.val)::v,.cons C rfl a1,by simp[a2],λJ he=>?_,hH ⟨rfl,b,G,S⟩ I⟩;rcases ay.mp he with rfl|he;exact⟨p.1,C,L⟩;exact R J he
theorem zt1{P:aK}{w:aV}{K:qF}{mg:qM}{x:Str}{l:List (Str×List Str)}{a:ai}{v:Array eI}{C:Nat}(L:mg x=ao (bQ a))(ha:(a == sysModules)=dy)(I:K.lookup a=ao ⟨bU "dict",bj,jt v C,#[]⟩)
  (r:cA (PtE w K) (nK v) l) (nd:(l.map (·.1)).Nodup):StD P w K mg x l:=by
 obtain⟨G,a1,a2,R,J⟩:=zus (P:=P) r;exact⟨a,_,v,C,G,L,ha,I,⟨rfl,rfl,rfl⟩,rfl,λe he=>R e (by simpa using he),a1,by rw[a2];exact nd,J⟩
section
def lIs(t:af)(R:List Int->Prop):Prop:=∃is:List Int,t=sJ (is.map bu)/\R is
variable{X:Cx}{e a:bg}{p pos:Pos}{d:DTE}
def zrv(d:DTE):DTA:=λu n R=>d u n λt o=>lIs t λis=>fo is<100000/\∀l:List Int,l.Perm is->l.Pairwise (·<=·)->R (l.map bu) o
theorem zqn(J:Room k X.A)(Z:X.mg "sorted" = bj) (h:DL X e d) (Y:starEach [e] X.env=[(dy,eval e X.env)]) (hg:Gl X "sorted":=by rfl):DN X (f9 (bv "sorted" p) [e] [] pos) (zrv d) :=
 zeB (L:=λt R=>lIs t λis=>fo is<100000/\∀x:List Int,x.Perm is->x.Pairwise (·<=·)->R (x.map bu)) (λt R ⟨is,S,o,q⟩=>by subst S;exact⟨Int,bu,λ_ u i=>∃t,u=rL i t,id,λ_=>rkI,is,rfl,zjj o,λ{_ _ _ _ _ _ v u a} ha I r rv=>by rw[r.intI]at rv;exact rv,λ⟨t,e⟩ _=>⟨⟨t,e⟩,by rw[e];rfl⟩,λ_ G=>zlW λv U=>by obtain⟨a,_,⟨t,e⟩,_⟩:=G v U;exact⟨a,t,e⟩,q⟩) J Z h Y hg
end
section
variable{X:Cx}
theorem Paired.flip{l:List ah}{m:List Nat}{f:Nat->V}(r:cA (λ(v:ah) (i:Nat)=>RelV (f i) v) l m):Vals (m.map f) l:=by
 induction r with
 | nil=>exact ja
 | cons a b u=>exact hH a u
theorem zl3(hc:X.calm=du):JX X (bU "list") (λxs H Q=>∃(p:ai) (lo hi:Int),xs=[.ref p]/\H p=ao (.rng lo hi)/\(-(2 ^ 60)<=lo/\lo<2 ^ 60/\-(2 ^ 60)<=hi/\hi<2 ^ 60/\hi - lo<=2 ^ 24) /\
  ∀l,H l=bj->Q (.ref l) (upd H l (.lst (((dw (ap (hi - lo))).map λ(i:Nat)=>lo+(i:Int)).map V.int)))):=by
 intro pins s σ H xs us Q I r h;obtain⟨p,lo,hi,rfl,J,⟨R,U,L,Y,b5⟩,q⟩:=h;obtain⟨u,rfl,S⟩:=r.one;cases(show u=bQ p from S);obtain⟨t,u,v,G⟩:=(show JS X.prog X.w H s.heap p (.rng lo hi) from I.hok p _ J);have sz:eE lo hi 1=(ap (hi - lo):Nat):=by rw[rangeSize_one];split <;> lia
 refine call_list_range (I.ok.hd hc) G (zld R U L Y (by decide) (by decide) (by decide)) sz (by lia) λh' tk acc c kp Z x=>?_;refine⟨.ref s.heap.objs.size,_,I.laid (a:=be s.heap.objs) (o:=.lst _) (t':=tk) kp (aC _) ⟨?_,nK acc,c,?_,by rw[Array.toArray_toList];exact Z⟩,rfl,q _ (I.hok.fresh (aC _))⟩;simp;rw[mN];lia;obtain⟨ha,hb⟩:=x;rw[bS];refine Paired.flip (zij (P:=λ(v:ah) (i:Nat)=>RelV (V.int (lo+(i:Int))) v) (m:=dw (ap (hi - lo))) (by rw[bN,ha,km]) λj v i C hi=>?_);rw[cf]at C;obtain⟨t,rfl⟩:=hb j v C;rw[lD (by have:=(Array.getElem?_eq_some_iff.mp C).1;lia)]at hi;cases hi;exact⟨t,by rw[kY]⟩
variable{ρ:En}{n:Nat}{Rl:qD->Nat->Prop}{d:DTE}
instance zxM:Stp (zrv d ρ n Rl) (d ρ n λt n1=>lIs t λis=>fo is<100000/\∀js:List Int,js.Perm is->js.Pairwise (·<=·)->Rl (js.map bu) n1):=⟨λh=>h⟩
end
section
variable{prog:aK}{w:aV}{A:bw}{E:qV}{s:ax}
theorem PrIn.tk{h:bq}{p:ai}{b k:Int}(x:PrIn h (bQ p) b k):kO (JJ prog w) h [kS b,kS k] p:=by obtain⟨a,o,t,t',n,u,v,C,G⟩:=x;cases u;exact⟨o,_,n,v,C,G,.cons (zfy b t) (.cons (zfy k t') .nil)⟩
theorem ztc{p q:ai}{b k l o:Int}(u:A.units<cLine)(x:PrIn s.heap (bQ p) b k)(y:PrIn s.heap (bQ q) l o):pI A s (bQ p) (bQ q) (decide (b=l/\k=o)):=λprog w E Q h=>by
 refine wpAny_eqBool_tuple (knd:=JJ prog w) u x.tk y.tk ?_;have:decide (([kS b,kS k]:List Key)=[kS l,kS o])=decide (b=l/\k=o):=by rw[decide_eq_decide];constructor;intro z;cases z;exact⟨rfl,rfl⟩;rintro⟨rfl,rfl⟩;rfl
 rw[this];exact h
theorem zsz{p q:ai}{b k v C:Int}(S:A.units<cLine)(x:PrIn s.heap (bQ p) b k)(y:PrIn s.heap (bQ q) v C):LtAt prog w A s dy (bQ p) (bQ q) (HT.lexLt [b,k] [v,C]):=λE Q h=>by obtain⟨a,o,t,t',n,Y,N,G,R⟩:=x;obtain⟨Z,J,u,u',I,f0,f1,f2,U⟩:=y;cases Y;cases f0;rw[vF];simp only[bz,if_false];refine ae (show wpAny (model prog w) A (compareOp .Lt (bQ p) (bQ q)) _ E s from HT.zen ⟨o,N,G,n,R⟩ ⟨J,f1,f2,I,U⟩ (.cons _ _ (.cons _ _ .nil)) (.cons _ _ (.cons _ _ .nil)) S ?_);exact cg h
theorem zsA{a b c d:Int}:HT.lexLt [a,b] [c,d]=decide (a<c\/(a=c/\b<d)):=by
 have e:HT.lexLt [a,b] [c,d]=if a=c then(if b=d then dy else decide (b<d)) else decide (a<c):=rfl
 rw[e];split;rename_i h;subst h;split;symm;rw[decide_eq_false_iff_not];lia;rw[decide_eq_decide];lia;rw[decide_eq_decide];lia
end
def zput(zs:ZT)(k:Int×Int)(b:ai)(v:V):ZT:=if (zs.any λz=>decide (z.1=k))=du then zs.map (λz=>if z.1=k then(z.1,z.2.1,v) else z) else zs++[(k,b,v)]
def putT(l:KT2)(k:Int×Int)(t:af):KT2:=if (l.any λz=>decide (z.1=k))=du then l.map (λz=>if z.1=k then(z.1,t) else z) else l++[(k,t)]
def valT(l:KT2)(k:Int×Int):Option af:=(l.find? λz=>decide (z.1=k)).map (·.2)
def kL(k:Int×Int):List Key:=[kS k.1,kS k.2]
theorem zny{k l:Int×Int}:kL k=kL l↔k=l:=by constructor;intro h;unfold kL at h;injection h with h1 h2;injection h2 with h2 _;injection h1 with h1;injection h2 with h2;exact gK h1 h2;rintro rfl;rfl
def ZX(z:(Int×Int)×ai×V)(x:List Key×ai×ah):Prop:=x.1=kL z.1/\x.2.1=z.2.1/\RelV z.2.2 x.2.2
theorem zqH{zs:ZT}{xs:List (List Key×ai×ah)}(r:cA ZX zs xs)(k:Int×Int):f6 (atKey xs (kL k))=zs.any λz=>decide (z.1=k):=by
 induction r with
 | nil=>rfl
 | @cons z x zs xs h t ih =>
  by_cases e:z.1=k;have:x.1=kL k:=by rw[h.1,e]
  simp[atKey,eW,this,e];have:¬x.1=kL k:=λu=>e (zny.mp (b4 h.1.symm u));have l:atKey (x::xs) (kL k)=atKey xs (kL k):=by simp[atKey,eW,this]
  rw[l,ih,kX,decide_eq_false e,vg]
theorem zqG{zs:ZT}{xs:List (List Key×ai×ah)}(r:cA ZX zs xs)(k:Int×Int){b:ai}{v:V}{u:ah}(C:RelV v u):cA ZX (zput zs k b v) (storedH xs (kL k) b u):=by
 unfold zput storedH;rw[zqH r k];by_cases e:(zs.any λz=>decide (z.1=k))=du;rw[if_pos e,if_pos e];clear e;induction r with
 | nil=>exact ja
 | @cons z x zs xs h t ih =>refine hH ?_ ih;unfold putAt;dsimp only;by_cases e:z.1=k;rw[if_pos e,if_pos (by rw[h.1,e])];exact⟨h.1,h.2.1,C⟩;rw[if_neg e,if_neg (λG=>e (zny.mp (b4 h.1.symm G)))];exact h
 rw[if_neg e,if_neg e];exact Paired.snoc r ⟨rfl,rfl,C⟩
theorem zl6{zs:ZT}{xs:List (List Key×ai×ah)}(r:cA ZX zs xs):xs.map (·.1)=(zs.map (·.1)).map kL:=by
 induction r with
 | nil=>rfl
 | cons h t l=>rw[aU,aU,aU,l,h.1]
theorem zku{l:qB}:(l.map kL).Nodup↔l.Nodup:=by
 induction l with
 | nil=>simp
 | cons a l v =>
  rw[aU,eU,eU,v];have:kL a∈l.map kL↔a∈l:=by constructor;intro h;obtain⟨b,hb,e⟩:=aA.mp h;rwa [<- zny.mp e];exact o7
  rw[this]
theorem zj8(zs:ZT)(k:Int×Int)(b:ai)(v:V):fo (zput zs k b v)<=fo zs+1:=by unfold zput;split;rw[aG];exact mS _;simp
section
variable{P:aK}{w:aV}
theorem zzk{z:(Int×Int)×ai×V}{x:List Key×ai×ah}(h:ZX z x):entZ z (entryOfKey (tupleKind (JJ P w)) x):=by obtain⟨u,o,l⟩:=h;refine⟨?_,?_,l⟩;show tupleKeyHash (JJ P w) x.1=_;rw[u];rfl;show bQ x.2.1=_;rw[o]
theorem zoW{zs:ZT}{u:List eI}(r:cA entZ zs u):∃xs:List (List Key×ai×ah),cA ZX zs xs/\u=xs.map (entryOfKey (tupleKind (JJ P w))):=by
 induction r with
 | nil=>exact⟨[],ja,rfl⟩
 | @cons z e zs u h t ih =>obtain⟨xs,C,G⟩:=ih;obtain⟨x,v,I⟩:=h;refine⟨(kL z.1,z.2.1,e.val)::xs,hH ⟨rfl,rfl,I⟩ C,?_⟩;rw[aU,<- G];congr 1;cases e;dsimp only at x v;rw[x,v];rfl
theorem zwA{zs:ZT}{xs:List (List Key×ai×ah)}(r:cA ZX zs xs):cA entZ zs (xs.map (entryOfKey (tupleKind (JJ P w)))):=by
 induction r with
 | nil=>exact ja
 | cons h t u=>exact hH (zzk h) u
variable{X:Cx}{pins:qO}{σ:St}{H:Hp}{s:ax}{a:ai}{zs:ZT}{ep:Nat}
theorem zqI(I:Inv X pins σ H s)(h:H a=ao (ZDO a zs ep))(N:∀z∈zs,SqT X.K H z.2.1 [.int z.1.1,.int z.1.2]):(a == sysModules)=dy/\fo zs<=sizeLine/\∃xs,cA ZX zs xs/\s.heap.DictOfH (tupleKind (JJ X.prog X.w)) a xs:=by obtain⟨⟨J,C,nd,o,G,g1,g2,g3,pr⟩,_⟩:=I.hok a _ h;obtain⟨xs,l,u⟩:=zoW (P:=X.prog) (w:=X.w) pr;refine⟨J,C,xs,l,o,G,ep,g1,g2,g3,u,λx hx=>?_,?_⟩;obtain⟨z,L,R,v,_⟩:=WZ l hx;have:=Wi (k:=kL z.1) I (N z L);rw[R,v];exact this;rw[zl6 l];exact zku.mpr nd
theorem zl7{H':Hp}{h':bq}{xs:List (List Key×ai×ah)}(L:(a == sysModules)=dy)(G:fo zs<=sizeLine)(r:cA ZX zs xs)(I:h'.DictOfH (tupleKind (JJ X.prog X.w)) a xs):∃ep,JS X.prog X.w H' h' a (ZDO a zs ep):=by obtain⟨o,l,ep,g1,g2,g3,R,_,u⟩:=I;refine⟨ep,⟨L,G,?_,o,l,g1,g2,g3,?_⟩,⟨o,g1⟩,?_⟩;rw[zl6 r]at u;exact zku.mp u;rw[R];exact zwA r;rintro S U ⟨J,v,x,o,l,C,N⟩ k;exact⟨J,v,x,o,l,k o C,N⟩
end
section
variable{K:qF}{hd:Option ai}{O:ai->Prop}{H:Hp}{zs:ZT}{ks:KT2}
theorem Jx.sq(r:Jx K hd O H zs ks):∀z∈zs,SqT K H z.2.1 [.int z.1.1,.int z.1.2]:=by
 intro z l;induction zs generalizing ks with
 | nil=>cases l
 | cons y zs v =>
  cases r with
  | cons G J r =>
   rcases ay.mp l with rfl|l;obtain⟨a,I,e,sq,C⟩:=G.tupI;cases e;cases C with
   | cons o u =>
    cases u with
    | cons x x4 =>cases x4;rw[o.intI,x.intI]at sq;exact sq
   exact v r l
theorem Jx.length(r:Jx K hd O H zs ks):fo zs=fo ks:=by
 induction zs generalizing ks with
 | nil=>cases r;rfl
 | cons y zs l =>
  cases r with
  | cons u o r=>rw[aP,aP,l r]
theorem Jx.keys(r:Jx K hd O H zs ks):zs.map (·.1)=ks.map (·.1):=by
 induction zs generalizing ks with
 | nil=>cases r;rfl
 | cons y zs l =>
  cases r with
  | cons u o r=>rw[aU,aU,l r]
theorem Jx.snoc{k:Int×Int}{q:ai}{v:V}{d:af}(h:Rep K hd O H (.ref q) (lV [bu k.1,bu k.2]))(x:Rep K hd O H v d){zs:ZT}{ks:KT2}(r:Jx K hd O H zs ks):Jx K hd O H (zs++[(k,q,v)]) (ks++[(k,d)]) :=
 r.ind (P:=λzs ks=>Jx K hd O H (zs++[(k,q,v)]) (ks++[(k,d)])) (.cons h x .nil) λa b _ r=>.cons a b r
theorem Jx.put(r:Jx K hd O H zs ks)(k:Int×Int){b:ai}{v:V}{t:af}(I:Rep K hd O H (.ref b) (lV [bu k.1,bu k.2]))(x:Rep K hd O H v t):Jx K hd O H (zput zs k b v) (putT ks k t):=by
 have G:(zs.any λz=>decide (z.1=k))=ks.any λz=>decide (z.1=k):=by
  have J:(zs.any λz=>decide (z.1=k))=(zs.map (·.1)).any λz=>decide (z=k):=by rw[lR];rfl
  have L:(ks.any λz=>decide (z.1=k))=(ks.map (·.1)).any λz=>decide (z=k):=by rw[lR];rfl
  rw[J,L,r.keys]
 unfold zput putT;rw[G];split;clear G;rename_i e;clear e;induction zs generalizing ks with
 | nil=>cases r;exact .nil
 | cons y zs C =>
  cases r with
  | @cons k' q v' d zs ks h1 h2 r =>rw[aU,aU];dsimp only;by_cases e:k'=k;rw[if_pos e,if_pos e];exact .cons h1 x (C r);rw[if_neg e,if_neg e];exact .cons h1 h2 (C r)
 exact Jx.snoc I x r
def lBlk(y:af)(R:Int×Int->Prop):Prop:=∃k:Int×Int,y=lV [bu k.1,bu k.2]/\R k
end
section
variable{prog:aK}{w:aV}{A:bw}{E:qV}
theorem PrT.keepL{h h':bq}{x:ah}{z:List Key×ai×ah}(d it:ai)(hd:∃o,bi h d=ao o/\jo o=bU "dict") (hi:∃o,bi h it=ao o/\jo o=bU "list_iterator") (r:PrT prog w h x z) (kp:KpH d it h h'):PrT prog w h' x z:=by obtain⟨p,e,l,tk⟩:=r;refine⟨p,e,?_,Wr tk λo=>kp _ o (V4 tk hd (by decide)) (V4 tk hi (by decide))⟩;have u:=tup_ne l hd (by decide);have v:=tup_ne l hi (by decide);obtain⟨o,g,c⟩:=l;exact⟨o,kp p o u v g,c⟩
theorem zkV{h h':bq}{d it:ai}{xs:List (List Key×ai×ah)}(hd:h.DictOfH (tupleKind (JJ prog w)) d xs)(hi:∃o,bi h it=ao o/\jo o=bU "list_iterator") (kp:∀b o,b≠it->bi h b=ao o->bi h' b=ao o) (u:d≠it):h'.DictOfH (tupleKind (JJ prog w)) d xs:=by obtain⟨o,G,C,v,hc,hd,he,l,I⟩:=hd;exact⟨o,G,C,kp d o u v,hc,hd,he,λx hx=>Wr (l x hx) λo e=>kp _ o (V4 (l x hx) hi (by decide)) e,I⟩
def mkX(xs ps:List (List Key×ai×ah)):List (List Key×ai×ah):=ps.foldl (λacc z=>storedH acc z.1 z.2.1 z.2.2) xs
theorem zji(xs:List (List Key×ai×ah))(k:List Key)(a:ai)(v:ah):fo (storedH xs k a v)<=fo xs+1:=by unfold storedH;split;rw[aG];exact mS _;simp
theorem zhF{d it l:ai}{items:Array ah}{res:ah}(hA:A.handled=bj)(hu:A.units+1<cLine)(L:d≠it)(nl:l≠d)(S:l≠it):∀(ps:List (List Key×ai×ah)) (i:Nat) (xs:List (List Key×ai×ah)) (s:ax) (t:Tok) {R:tR->ax->Prop},
  s.heap.IsList l items->s.heap.IsListIter it l i->s.heap.DictOfH (tupleKind (JJ prog w)) d xs->fo xs+fo ps<=sizeLine->cA (PrT prog w s.heap) (items.toList.drop i) ps ->
  (∀h' tk,KpH d it s.heap h'->h'.DictOfH (tupleKind (JJ prog w)) d (mkX xs ps)->R (.ok (jA res)) { s with heap:=h',toks:=tk }) ->
  codeAny (model prog w) A (jD "dict.update.loop" ⟨[bQ d,bQ it,rL i t,res],[]⟩) R s
 | [],i,xs,s,t,R,hl,hi,hd,hz,hp,h=>by
  have e:items[i]?=bj:=by generalize hq:items.toList.drop i=q at hp;cases hp;have:=List.drop_eq_nil_iff.mp hq;exact Array.getElem?_eq_none (by simpa using this)
  refine fE zdq ?_;show wpAny _ _ (pyNext (bQ it) >>= _) _ _ s;refine ae (oh hA hi hl e λh' hx=>?_);show wpAny _ _ (m8 d [] >>= λ_=>ret res) _ _ _;unfold m8;rw[i8];obtain⟨oi,gi,ci,_⟩:=id hi;exact ae (ak (ak (h h' s.toks (λb o _ n ho=>hx b o n ho) (zkV hd ⟨oi,gi,ci⟩ (λb o n e=>hx b o n e) L))))
 | (k,a,v)::ps,i,xs,s,t,R,hl,hi,hd,hz,hp,h=>by
  generalize hq:items.toList.drop i=q at hp;cases hp with
  | cons r rs =>
   rename_i x xs';have J:∃o,bi s.heap it=ao o/\jo o=bU "list_iterator":=by obtain⟨oi,gi,ci,_⟩:=id hi;exact⟨oi,gi,ci⟩
   obtain⟨p,rfl,tp,ki⟩:=r;have np:=tup_ne tp (zrs hd) (by decide);have npi:=tup_ne tp J (by decide);obtain⟨o,ho,oc,n,od⟩:=id tp;have Z:i<fo items.toList:=by by_cases z:i<fo items.toList;exact z;rw[fN (by lia)]at hq;cases hq
   rw[bO Z]at hq;obtain⟨e1,e2⟩:=iH hq;have e:items[i]?=ao (bQ p):=by rw[<- e1,<- cf];exact aw Z
   refine fE zdq ?_;show wpAny _ _ (pyNext (bQ it) >>= _) _ _ s;refine ae (nL hi hl e λN hi1 G=>?_);refine ae (cu ?_);have Y:bi N p=ao o:=b4 (G.2 p npi) ho;have hT:(⟨N,ju s,jB s,eA s,s.os⟩:ax).TypeIs (bQ p) "tuple":=⟨o,Y,oc⟩;refine ae (kB ?_);unfold wH;refine ae (fK hT ?_);rw[if_pos (by rfl)];refine ae (dJ Y od (ak ?_));show wpAny _ _ (holding [bQ a,v] (dictSet d (bQ a) v)) _ _ _;have kp1:KpH d it s.heap N:=λb C _ n hb=>b4 (G.2 b n) hb;have hd1:=zkV hd J (λb C n hb=>b4 (G.2 b n) hb) L;have ki1:kO (JJ prog w) N k a:=Wr ki λC hb=>b4 (G.2 a (V4 ki J (by decide))) hb;rw[aP]at hz;refine cu (pN (s:=⟨N,ju s,jB s,eA s,s.os⟩) (knd:=tupleKind (JJ prog w)) (by show Around.units _<cLine;rw[zmd];exact hu) ki1 hd1 (λh2 hd2 hs2=>?_) (by lia));have kp2:KpH d it N h2:=λb C n _ hb=>b4 (hs2.2 b n) hb;refine ak ⟨iT _ (by decide +kernel),?_⟩;have kp:KpH d it s.heap h2:=λb C U n2 hb=>kp2 b C U n2 (kp1 b C U n2 hb);refine zhF (items:=items) hA hu L nl S ps (i+1) (storedH xs k a v) _ 0 ?_ ?_ hd2 ?_ ?_ λh' tk kp' hd'=>?_;obtain⟨ol,hol,r⟩:=hl;exact⟨ol,kp l ol nl S hol,r⟩;obtain⟨oi,hoi,r⟩:=hi1;exact⟨oi,b4 (hs2.2 it (gN L)) hoi,r⟩;have:=zji xs k a v;lia;rw[e2];exact Paired.mapP rs λ_ _ r=>r.keepL d it (zrs hd) J kp;exact h h' tk (λb C U n2 hb=>kp' b C U n2 (kp b C U n2 hb)) hd'
theorem zfT{s:ax}{l:ai}{o:Obj}{its:Array ah}{n:Nat}{ps:List (List Key×ai×ah)}{Q:qV}(ho:bi s.heap l=ao o)(hc:jo o=bU "list") (Z:io o=im its n) (hd:o.dict=bj) (hA:A.handled=bj) (hu:A.units+64<cLine)
  (hp:cA (PrT prog w s.heap) (nK its) ps) (hz:fo ps<=sizeLine)
  (h:∀h' tk,(∀b u,bi s.heap b=ao u->bi h' b=ao u)->h'.DictOfH (tupleKind (JJ prog w)) s.heap.objs.size (mkX [] ps)->Q (bQ s.heap.objs.size) { s with heap:=h',toks:=tk }) :
  wpAny (model prog w) A (call (bU "dict") [bQ l]) Q E s:=by
 refine callType_codes (Q₁:=λobj v=>obj=bQ s.heap.objs.size/\v={ s with heap:=ee s.heap { cls:=bU "dict",data:=jt #[] } }) F.kt_called_dict (F.kt_typeCall_dict_1 _) F.entry_dict_init (kt_code_dict_new _ ⟨rfl,rfl⟩) ?_;rintro obj v ⟨rfl,rfl⟩;have MF:(ee s.heap { cls:=bU "dict",data:=jt #[] }).DictOfH (tupleKind (JJ prog w)) s.heap.objs.size []:=sC s.heap;have G:bi (ee s.heap { cls:=bU "dict",data:=jt #[] }) l=ao o:=aj _ ho;have I:=MF.typeIs (s:={ s with heap:=ee s.heap { cls:=bU "dict",data:=jt #[] } });refine⟨I,F.args_dict_init_2 _ _,?_⟩;unfold fw.«dict.__init__»;refine ae ?_;unfold vh;refine ae (wpAny_notOrdered_dict I ?_);show wpAny _ _ (pure (be s.heap.objs,[bQ l])) _ _ _;refine ak ?_;show wpAny _ _ (nH "dict.__init__" s.heap.objs.size (bQ l) [] kJ) _ _ _;unfold nH;refine ae (fK (T:="list") ⟨o,G,hc⟩ ?_);rw[if_pos (by rfl)];refine ae (zf9 G hc ⟨its,n,Z⟩ hd hA λh1 tk1 S=>?_);rw[if_pos (show(bj:Option ah).isNone=du from rfl)];refine ae (dG ?_);have C:=S l o G;have R:h1.IsList l its:=⟨o,C,hc,n,Z⟩;refine ae (ft R ?_);refine ak ⟨iT _ (by decide +kernel),?_⟩;obtain⟨od,es,ep,U,J⟩:=MF;have MG:=S _ od U;have l1:=aE MG;have l2:=aE ho;have l3:=aE C;have L:∀b u,bi s.heap b=ao u->bi (ee h1 { cls:=bU "list_iterator",data:=fm #[bQ l,rL 0 0] }) b=ao u:=λb u hb=>aj _ (S b u (aj _ hb));refine zhF (A:=A.in1) (items:=its) (xs:=[]) (i:=0) (ps:=ps) (show A.in1.handled=bj from hA) (show A.units+1+1<cLine by lia) (aW l1) (aW l2) (aW l3) _ 0 ?_ ?_ ?_ (by simpa using hz) ?_ λh' tk kp hd'=>?_;exact⟨o,aj _ C,hc,n,Z⟩;exact⟨_,aB _ rfl,rfl,rfl⟩;exact⟨od,es,ep,aj _ MG,J.1,J.2.1,J.2.2.1,by simp,by simp⟩;rw[mF];refine Paired.mapP hp λx z ⟨p,e,tp,tk⟩=>⟨p,e,?_,Wr tk λu=>L _ u⟩;obtain⟨u,Y,r⟩:=tp;exact⟨u,L p u Y,r⟩;exact⟨rfl,h h' tk (λb u hb=>kp b u (aW (aE hb)) (aW (lK (aE hb) l1)) (L b u hb)) hd'⟩
end
def mkZ(zs:ZT):ZT:=zs.foldl (λacc z=>zput acc z.1 z.2.1 z.2.2) []
def mkT(l:KT2):KT2:=l.foldl (λacc z=>putT acc z.1 z.2) []
def KZp(K:qF)(H:Hp)(x:V)(z:(Int×Int)×ai×V):Prop:=∃a,x=.ref a/\SqT K H a [.ref z.2.1,z.2.2]/\SqT K H z.2.1 [.int z.1.1,.int z.1.2]
section
variable{X:Cx}
theorem zrB{zs l:ZT}{ps xs:List (List Key×ai×ah)}(r:cA ZX zs ps)(a:cA ZX l xs):cA ZX (zs.foldl (λacc z=>zput acc z.1 z.2.1 z.2.2) l) (mkX xs ps):=by
 induction r generalizing l xs with
 | nil=>exact a
 | @cons z x zs ps h t ih =>
  unfold mkX;rw[gY,gY];have:cA ZX (zput l z.1 z.2.1 z.2.2) (storedH xs x.1 x.2.1 x.2.2):=by rw[h.1,h.2.1];exact zqG a z.1 h.2.2
  exact ih this
theorem zsy(zs:ZT):fo (mkZ zs)<=fo zs:=by
 have key:∀(zs acc:ZT),fo (zs.foldl (λacc z=>zput acc z.1 z.2.1 z.2.2) acc)<=fo acc+fo zs:=by
  intro zs;induction zs with
  | nil=>intro acc;simp
  | cons z zs o =>intro acc;have:=o (zput acc z.1 z.2.1 z.2.2);have:=zj8 acc z.1 z.2.1 z.2.2;rw[gY,aP];lia
 simpa[mkZ] using key zs []
theorem zsd{pins:qO}{σ:St}{H:Hp}{s:ax}(I:Inv X pins σ H s){x:List V}{its:List ah}{zs:ZT}(r:Vals x its)(h:cA (KZp X.K H) x zs) :
  ∃ps:List (List Key×ai×ah),cA ZX zs ps/\cA (PrT X.prog X.w s.heap) its ps:=by
 induction x generalizing its zs with
 | nil=>cases r;cases h;exact⟨[],ja,ja⟩
 | cons v x U =>
  cases r with
  | cons N R =>
   cases h with
   | @cons _ z _ zs h1 h2 =>
    obtain⟨a,rfl,sq,sk⟩:=h1;obtain⟨ps,S,G⟩:=U R h2;obtain⟨C,L,it,_⟩:=I.tuple sq;cases L with
    | cons q1 Y =>
     cases Y with
     | cons J Z =>cases Z;rename_i u w;cases(show _=bQ a from N);cases(show _=bQ z.2.1 from q1);exact⟨(kL z.1,z.2.1,w)::ps,hH ⟨rfl,rfl,J⟩ S,hH ⟨a,rfl,it,Wi (k:=kL z.1) I sk⟩ G⟩
theorem zl4(hc:X.calm=du)(R:X.A.units+64<cLine):JX X (bU "dict") (λxs H Q=>∃(p:ai) (v:List V) (zs:ZT),xs=[.ref p]/\H p=ao (.lst v)/\cA (KZp X.K H) v zs/\∀l x,H l=bj->Q (.ref l) (upd H l (ZDO l (mkZ zs) x))):=by
 intro pins s σ H xs us Q I r h;obtain⟨p,v,zs,rfl,G,pr,q⟩:=h;obtain⟨u,rfl,S⟩:=r.one;cases(show u=bQ p from S);obtain⟨Y,its,n,rel,g⟩:=I.hok p _ G;obtain⟨ps,C,J⟩:=zsd I rel pr;have U:fo zs=fo v:=dv (iA pr);have Z:fo ps=fo zs:=dv (iA C);refine zfT (A:=X.A) (its:=bm its) (ps:=ps) g rfl rfl rfl (I.ok.hd hc) R (by simpa using J) (by lia) λh' tk kp L=>?_;have hb:(be s.heap.objs == sysModules)=dy:=beq_eq_false_iff_ne.mpr (gN (aW I.big));have N:fo (mkZ zs)<=sizeLine:=by have:=zsy zs;lia
 obtain⟨x,ok⟩:=zl7 (X:=X) (H':=H) hb N (zrB C ja) L;exact⟨.ref s.heap.objs.size,_,I.laid (a:=be s.heap.objs) (o:=ZDO s.heap.objs.size (mkZ zs) x) (t':=tk) kp (aC _) ok,rfl,q _ x (I.hok.fresh (aC _))⟩
end
def prT(q:(Int×Int)×af):af:=lV [lV [bu q.1.1,bu q.1.2],q.2]
theorem zpi{K:qF}{hd:Option ai}{O:ai->Prop}{H:Hp}{v:List V}{u:KT2}(r:Reps K hd O H v (u.map prT)):∃zs:ZT,cA (KZp K H) v zs/\Jx K hd O H zs u:=by
 induction u generalizing v with
 | nil=>cases r;exact⟨[],ja,.nil⟩
 | cons a u N =>
  cases r with
  | cons h r =>
   obtain⟨zs,L,R⟩:=N r;obtain⟨b,S,rfl,sq,J⟩:=h.tupI;cases J with
   | cons C G =>
    cases G with
    | cons I x4 =>cases x4;obtain⟨q,rfl,x⟩:=C.bkI;exact⟨(a.1,q,_)::zs,hH ⟨b,rfl,sq,x⟩ L,.cons C I R⟩
theorem zlf{K:qF}{hd:Option ai}{O:ai->Prop}{H:Hp}{zs:ZT}{u:KT2}{o:ZT}{l:KT2}(r:Jx K hd O H zs u):Jx K hd O H o l->Jx K hd O H (zs.foldl (λacc z=>zput acc z.1 z.2.1 z.2.2) o) (u.foldl (λacc z=>putT acc z.1 z.2) l) :=
 r.ind (P:=λ(zs:ZT) (u:KT2)=>∀(o:ZT) (l:KT2),Jx K hd O H o l->Jx K hd O H (zs.foldl (λacc (z:(Int×Int)×ai×V)=>zput acc z.1 z.2.1 z.2.2) o) (u.foldl (λacc (z:(Int×Int)×af)=>putT acc z.1 z.2) l)) (λ_ _ a=>a) (λx v _ r _ _ a=>r _ _ (a.put _ x v)) _ _
end L2
namespace L2
open PySem
abbrev RL:=List ((Int×Int)×Int)
end L2
namespace Bd
open PySem PySem.W PySem.Calls L2 PyProof.Rows
structure ZZ where
 P:aK
 w:aV
 K:qF
 mg:Str->Option ah
 base:bq
def FQ(Z:ZZ)(x:Str)(st:e8)(ps:List Str)(k:Nat)(l:Sp):Prop:=Fq Z.P Z.w Z.K Z.mg Z.base x st ps k l
theorem okQ{Z:ZZ}{x:Str}{st:e8}{ps N:List Str}{k m:Nat}{g:GD}(D:Dq Z.K Z.mg x st ps)(S:UY N ps (JT st))(C:m=fo ps)
  (hb:∀(f:ai) (l:ah) (A:bw) (outer:List Env) (s:ax) (H:Hp) (E:XK),Room k (A.deeper (envOfC x (JT st) s.heap.objs.size f l))->∃d,DSs (cxOf CX0 Z.P Z.w Z.K Z.mg Z.base N x (JT st) f l A outer s H E).nox (Qu st) d /\
   ∀ts n R,fo ts=m->g ts n R->d { nx:=λ_ v=>R fq v,rt:=R } (Qm N ts) n):FQ Z x st ps (k+1) (spD Z.K m g):=by
 obtain⟨f,fd,D⟩:=D;exact⟨f,fd,D,D.okD S C λl A outer s H E u=>hb f l A outer s H E u⟩
theorem bnd1{x:Str}{st:e8}{a:Str}(h:∀(kV doc pm:ah) (an:Option ai) (l ct u:ah),bindArgs (eR x x (QU st) (Qu st) (JT st) kJ kV doc pm an l ct) ⟨[u],[]⟩=pure [(a,u)]):BndA x st [a]:=λ_ _ _ _ _ _ us v=>by obtain⟨_,rfl⟩:=len1 v;exact h ..
theorem bnd2{x:Str}{st:e8}{a b:Str}(h:∀(kV doc pm:ah) (an:Option ai) (l ct u v:ah),bindArgs (eR x x (QU st) (Qu st) (JT st) kJ kV doc pm an l ct) ⟨[u,v],[]⟩=pure [(a,u),(b,v)]):BndA x st [a,b]:=λ_ _ _ _ _ _ us C=>by obtain⟨_,_,rfl⟩:=len2 C;exact h ..
theorem bnd3{x:Str}{st:e8}{a b c:Str}(h:∀(kV doc pm:ah) (an:Option ai) (l ct u v y:ah),bindArgs (eR x x (QU st) (Qu st) (JT st) kJ kV doc pm an l ct) ⟨[u,v,y],[]⟩=pure [(a,u),(b,v),(c,y)]):BndA x st [a,b,c]:=λ_ _ _ _ _ _ us C=>by obtain⟨_,_,_,rfl⟩:=len3 C;exact h ..
theorem bnd4{x:Str}{st:e8}{a b c d:Str}(h:∀(kV doc pm:ah) (an:Option ai) (l ct u v y z:ah),bindArgs (eR x x (QU st) (Qu st) (JT st) kJ kV doc pm an l ct) ⟨[u,v,y,z],[]⟩=pure [(a,u),(b,v),(c,y),(d,z)]):BndA x st [a,b,c,d]:=λ_ _ _ _ _ _ us C=>by obtain⟨_,_,_,_,rfl⟩:=len4 C;exact h ..
def J5(h:bq):qF:=(dw h.objs.size).filterMap λa=>(bi h a).map λo=>(a,o)
theorem znn{h:bq}:∀{x:List ai}{a:ai},a∈x->(x.filterMap λa=>(bi h a).map λo=>(a,o)).lookup a=bi h a\/bi h a=bj
 | [],_,m=>nomatch m
 | b::x,a,m=>by
  by_cases e:a=b;subst e;cases g:bi h a with
  | none=>exact sr rfl
  | some o=>exact dY (by rw[eT];simp[g,eJ])
  have C:a∈x:=jr (ay.mp m) e;rcases znn (h:=h) C with z|z;refine dY ?_;rw[eT];cases g:bi h b with
  | none=>exact z
  | some o =>
   have:(a == b)=dy:=by simpa using e
   simp only[gX];rw[eJ,this];exact z
  exact sr z
theorem VE{h:bq}{a:ai}{o:Obj}(e:bi h a=ao o):(J5 h).lookup a=ao o:=by have m:a∈dw h.objs.size:=hY.mpr (aE e);rcases znn (h:=h) m with z|z;exact b4 z e;rw[e]at z;cases z
theorem zma{h:bq}:(J5 h).In h:=λa o e=>by
 have key:∀(v:List ai),(v.filterMap λa=>(bi h a).map λo=>(a,o)).lookup a=ao o->bi h a=ao o:=by
  intro v;induction v with
  | nil=>intro z;cases z
  | cons b v x =>
   intro z;rw[eT]at z;cases g:bi h b with
   | none=>rw[g]at z;exact x z
   | some C =>
    rw[g]at z;simp only[gX,eJ]at z;cases q:a == b with
    | true=>rw[q]at z;cases z;rw[eq_of_beq q];exact g
    | false=>rw[q]at z;exact x z
 exact key _ e
def Wg:e8->Bool
 | ji ..=>true
 | _=>false
def defName:e8->Str
 | ji n _ _ _ _ _ _ _ _ _=>n
 | _=>aa ""
def zwG:e8->Pos
 | ji _ _ _ _ _ _ _ _ _ p=>p
 | _=>⟨0,0,0,0⟩
def recD(st:e8):DefRec:=⟨defName st,QU st,Qu st,JT st,zwG st⟩
theorem getD_mem{l:List e8}{i:Nat}(h:Wg (l.getD i (.Pass ⟨0,0,0,0⟩))=du):l.getD i (.Pass ⟨0,0,0,0⟩)∈l:=by
 rw[bE]at h ⊢;cases e:l[i]? with
 | none=>rw[e]at h;cases h
 | some s=>exact aQ e
section
variable{q:aK}{loose:List Str}{L6:tH->Option ah}{mg mb:qM}{h:bq}{x:Str}{st:e8}{ps:List Str}
theorem zom{cd:ah}{n:Str}(c:h.CodeRec cd n):i5 (J5 h) cd n=du:=by
 obtain⟨a,o,u,t,rfl,g,d,e⟩:=c;unfold i5;dsimp only;rw[VE g];obtain⟨C,G,v,sl⟩:=o;cases(show v=_ from d);have l:u.toList[1]?=ao (kI n t):=by simpa using e
 dsimp only;match hv:nK u,l with
 | [],l=>simp at l
 | [_],l=>simp at l
 | a::b::r,l =>
  have:b=kI n t:=by simpa using l
  subst this;simp
theorem dq_g(T:Top q loose L6 mg mb h)(hd:recD st∈recsOf q)(I:defName st=x)(hb:BndA x st ps):Dq (J5 h) mg x st ps:=by
 obtain⟨a,o,pm,cd,doc,G,R,C,v⟩:=T.fn _ hd;have G:mg (defName st)=ao (bQ a):=G;have v:h.CodeRec cd (defName st):=v;rw[I]at G v;obtain⟨J,N,L,sl⟩:=o;have C:L=jE (docDef (defName st) (QU st) (Qu st) (JT st) pm cd doc):=C;rw[I]at C;have l:(J5 h).lookup a=ao ⟨J,N,jE (eR x x (QU st) (Qu st) (JT st) kJ kJ doc pm bj cd kJ),sl⟩:=by rw[VE R,C];rfl
 have kp:iZ (J5 h) (bQ a)=du:=by unfold iZ;dsimp only;rw[l]
 exact⟨a,_,zrn l (zom v) kp,(zrn l (zom v) kp).binds hb,G⟩
end
end Bd
namespace L2
open PySem PySem.Spec PyProof PyProof.Rows
theorem zl8{a:ai}{o:Nat}:ZDO a [] o=KDO a [] o:=by unfold ZDO KDO;congr 1;funext h;have e:∀l:List eI,cA entZ [] l↔cA entI [] l:=λl=>⟨λh=>by cases h;exact ja,λh=>by cases h;exact ja⟩;simp only[e,fL,dh,ua]
theorem ztj{l:KT2}{ls:List (Int×af)}(e:J2 l=ZH ls):l=[]/\ls=[]:=by
 cases l with
 | nil=>cases ls with
  | nil=>exact⟨rfl,rfl⟩
  | cons _ _=>cases e
 | cons a l=>cases ls with
  | nil=>cases e
  | cons b ls =>have h:=(oT (iH (show(blkT a.1,a.2)::J2 l=(bu b.1,b.2)::ZH ls from e)).1).1;cases h
abbrev BL:=List (Int×Int)
theorem zfO:∀{l ls:KT2},J2 l=J2 ls->l=ls
 | [],[],_=>rfl
 | [],_::_,e=>by cases e
 | _::_,[],e=>by cases e
 | (a,b)::l,(c,d)::ls,e=>by have h:=iH (show(blkT a,b)::J2 l=(blkT c,d)::J2 ls from e);have u:=oT h.1;have o:=fQ u.1;have v:=uf (iH o).1;have x:=uf (iH (iH o).2).1;rw[u.2,zfO h.2,gK v x]
section
variable{K:qF}{hd:Option ai}{O:ai->Prop}{H:Hp}
theorem Rep.dtI{v:V}{x:KT2}(h:Rep K hd O H v (sI (J2 x))):∃a zs u,v=.ref a/\H a=ao (ZDO a zs u)/\¬O a/\Jx K hd O H zs x:=by
 generalize e:sI (J2 x)=t at h;cases h with
 | @dct a u h o =>
  have e:=eV e;cases x with
  | nil=>exact⟨a,[],u,rfl,by rw[zl8];exact h,o,.nil⟩
  | cons _ _=>cases e
 | @dcK a kvs u ks' ps h o r e' =>have e:=eV e;rw[e']at e;obtain⟨rfl,rfl⟩:=ztj e;cases r;exact⟨a,[],u,rfl,by rw[zl8];exact h,o,.nil⟩
 | @dcT a zs u ks' ps h o r e' =>have e:=eV e;rw[e']at e;rw[zfO e];exact⟨a,zs,u,rfl,h,o,r⟩
 | hand _=>exact(dict_noT (eV e).symm).elim
 | scr _ _=>exact(dict_noT (eV e).symm).elim
 | scrS _=>exact(dict_noT (eV e).symm).elim
 | exc _ _=>exact(dict_noT (eV e).symm).elim
 | _=>cases e
theorem RepT.dtI{v:V}{C:KT2}(h:RepT K hd O H v (sI (J2 C))):∃a zs l,v=.ref a/\H a=ao (ZDO a zs l)/\Jx K hd O H zs C:=by rcases h with h|⟨p,J,ds,rfl,x,u,o,I⟩|⟨p,zs,l,G,rfl,x,u,o,I⟩;obtain⟨a,zs,l,e,u,_,o⟩:=h.dtI;exact⟨a,zs,l,e,u,o⟩;cases x;rw[zfO (eV x)];exact⟨p,zs,l,rfl,u,o⟩
theorem zqe{l:KT2}{k:Int×Int}:(l.any ((λz=>decide (z=k))∘λx=>x.1))=f6 (l.find? λz=>decide (z.1=k)):=by
 induction l with
 | nil=>rfl
 | cons y l u =>rw[kX,eW];show(decide (y.1=k)||_)=_;cases decide (y.1=k);exact u;rfl
theorem Jx.anyK{zs:ZT}{l:KT2}(r:Jx K hd O H zs l)(k:Int×Int):(zs.any λz=>decide (z.1=k))=f6 (valT l k):=by
 have u:(zs.any λz=>decide (z.1=k))=(zs.map (·.1)).any λz=>decide (z=k):=by rw[lR];rfl
 rw[u,r.keys,lR];unfold valT;rw[rF];exact zqe
end
section
variable{X:Cx}{a b:bg}{dd:DTE}{p:Pos}{k:Nat}
def zzp(K:qF)(H:Hp)(y:V)(k:Int×Int):Prop:=∃b,y=.ref b/\SqT K H b [.int k.1,.int k.2]
def zzr(K:qF)(H:Hp)(x:V)(zs:ZT):Prop:=∃a l,x=.ref a/\H a=ao (ZDO a zs l)/\∀z∈zs,SqT K H z.2.1 [.int z.1.1,.int z.1.2]
def rInT(K:qF)(neg:Bool):R2:=λx y H Q=>∃k zs,zzp K H x k/\zzr K H y zs/\Q (.bl (if neg then !(zs.any λz=>decide (z.1=k)) else zs.any λz=>decide (z.1=k))) H
theorem zq7(L:X.A.units+1<cLine):OpR X (compareOp .In) (rInT X.K dy):=by intro pins s σ H x y v u Q I o C h;obtain⟨k,zs,⟨b,rfl,sq⟩,⟨a,S,rfl,ha,N⟩,q⟩:=h;cases(show v=bQ b from o);cases(show u=bQ a from C);obtain⟨J,R,xs,G,dd⟩:=zqI I ha N;refine wpAny_in_heap (tupleKind_room_in1 L) (Wi (k:=kL k) I sq) J dd ?_;rw[zqH G];exact⟨.bl _,H,I.tok _,rfl,q⟩
def oInT(neg:Bool):G2:=λx y R=>∃(k:Int×Int) (v:KT2),x=lV [bu k.1,bu k.2]/\y=sI (J2 v)/\R (dQ (if neg then !(f6 (valT v k)) else(valT v k).isSome))
theorem RepT.bkI{K:qF}{hd:Option ai}{O:ai->Prop}{H:Hp}{v:V}{a b:Int}(h:RepT K hd O H v (lV [bu a,bu b])):∃q,v=.ref q/\SqT K H q [.int a,.int b]:=by rcases h with h|⟨p,J,ds,rfl,o,C,I,x⟩|⟨p,zs,L,G,rfl,o,C,I,x⟩;exact h.bkI;cases o;cases o
theorem zrm{neg:Bool}:Gp2 X (rInT X.K neg) (oInT neg):=by intro hd O H x y t u Q R dom o C h G;obtain⟨k,I,rfl,rfl,r⟩:=h;obtain⟨a,zs,v,rfl,ha,rk⟩:=C.dtI;refine⟨k,zs,o.bkI,⟨a,v,rfl,ha,rk.sq⟩,?_⟩;rw[rk.anyK k];exact G _ _ H r (Same.refl H) (.bl _)
theorem zv6{k:Int×Int}{v:KT2}{neg:Bool}{R:af->Prop}(h:R (dQ (if neg then !(f6 (valT v k)) else(valT v k).isSome))):oInT neg (lV [bu k.1,bu k.2]) (sI (J2 v)) R:=⟨k,v,rfl,rfl,h⟩
end
abbrev PR:=List ((Int×Int)×(Int×Int))
abbrev upH(b:Int×Int):Int×Int:=(bW b.1 (2 ^ ap (b.2 - 1)),b.2 - 1)
abbrev loH(b:Int×Int):Int×Int:=(b.1,b.2 - 1)
section
variable{bits:Int}{b c:Int×Int}
theorem zms(B:IsBk bits b.1 b.2)(C:IsBk bits c.1 c.2)(h:b.2=c.2){x:Int}(l:b.1<=x/\x<eB b)(o:c.1<=x/\x<eB c):b=c:=by
 have e:eB b - b.1=eB c - c.1:=by unfold eB;rw[h];lia
 rcases UG B C l o with z|z;exact gK (by lia) h;exact gK (by lia) h
end
section
variable{prog:aK}{w:aV}{A:bw}{E:qV}{s:ax}
theorem zgb{T newId T':String}{G:fw}{args:List ah}{Q:qV}
  (Z:(bU T == bU "type")=dy)
  (h2:((ug T).bind (·.mro.findSome? λt=>(ug t).bind λb=>if b.noNew then ao du else if b.attrs.any (·.1 == "__new__") then ao dy else bj)).getD dy=dy)
  (U:∃c C,mroOf (bU T)=pure (c::C)) (x:Bind.madeBy (bU T)=pure (ao newId)) (plain:plainId newId=du) (Y:isSubtype (bU T') (bU T)=pure dy)
  (N:checkTypeCall T ⟨args,[]⟩=pure ()) (v:checkBuiltinCall newId ⟨bU T::args,[]⟩=pure ()) (J:entryFor table newId=ao G)
  (h:wpAny (model prog w) A.in1.in1 (G ⟨bU T::args,[]⟩) (λfin l=>∃obj,fin=Fin.done (Flow.ret obj)/\l.TypeIs obj T'/\Q obj l) E s) :
  wpAny (model prog w) A (call (bU T) args) Q E s:=by
 obtain⟨c,C,I⟩:=U;refine wpAny_call (sR ?_);show wpAny _ _ (callAny (bU T) _) _ _ _;refine ak ⟨iT _ (by decide +kernel),fE F.entry_type_call ?_⟩;rw[Around.under_plain (weight_type_call_type T args []) (units_type_call_type T args [])]
 repeat (any_goals (first|assumption|wp_step))
 refine iY (R:=wants (λobj l=>l.TypeIs obj T'/\Q obj l) E) (k7 plain J (iW v ?_)) λr l u=>?_;exact c8 h (λfin s1 ⟨obj,e,q⟩=>by subst e;exact q) (λ_ _ z=>z)
 ·cases r with
  | error e=>exact u
  | ok fl =>
   cases fl with
   | ret obj =>
    obtain⟨L,hq⟩:=u;show wpAny _ _ (isInstance obj (bU T) >>= _) _ _ l;refine ae (nE L Y ?_)
    repeat (any_goals (first|assumption|wp_step))
   | _=>exact e9 u
theorem zh3{l:ai}{its:Array ah}{n:Nat}{Q:qV}(x:bi s.heap l=ao { cls:=bU "list",dict:=bj,data:=im its n,slots:=#[] }) (h:Q (bQ s.heap.objs.size) { s with heap:=ee s.heap { cls:=bU "list_reverseiterator",data:=fm #[bQ l,rL (be its - 1) 0] } }) :
  wpAny (model prog w) A (fw.«reversed.__new__» ⟨[bU "reversed",bQ l],[]⟩) (λfin o=>∃obj,fin=Fin.done (Flow.ret obj)/\Q obj o) E s:=by
 have I:isSubtype (bU "reversed") (bU "reversed")=pure du:=by kernel_rfl
 have C:s.TypeIs (bQ l) "list":=⟨_,x,rfl⟩;have G:=fX.lookup;have hb:=fX.bind (bQ l);unfold fw.«reversed.__new__»
 repeat (any_goals (first|assumption|wp_step))
 refine iY (R:=wants Q E) (k7 fX.plain PySem.F.entry_list_reversed (fX.check _ _ _ _ _ _ _ _ C (PySem.F.args_list_reversed_1 _) (ou l its n prog w A (wants Q E) s ⟨x,by simpa[rawInt,wants] using h⟩))) λr s1 u=>?_;cases r with
 | error e=>exact u
 | ok fl =>
  cases fl with
  | ret v=>exact ak ⟨_,rfl,u⟩
  | _=>exact e9 u
theorem zhC{l:ai}{its:Array ah}{n:Nat}{Q:qV}(o:bi s.heap l=ao { cls:=bU "list",dict:=bj,data:=im its n,slots:=#[] }) (h:Q (bQ s.heap.objs.size) { s with heap:=ee s.heap { cls:=bU "list_reverseiterator",data:=fm #[bQ l,rL (be its - 1) 0] } }) :
  wpAny (model prog w) A (call (bU "reversed") [bQ l]) Q E s:=by
 refine zgb (T:="reversed") (newId:="reversed.__new__") (T':="list_reverseiterator") (by decide) (by decide +kernel) ⟨bU "reversed",[bU "object"],by rw[mroOf_type];kernel_rfl⟩ (by kernel_rfl) (by decide +kernel) (by kernel_rfl) ?_ ?_ (by kernel_rfl) (zh3 o ⟨⟨_,aB _ rfl,rfl⟩,h⟩);kernel_rfl;kernel_rfl
end
theorem VD:Slot "list_reverseiterator" "__next__" "list_reverseiterator.__next__" :=
 .of (owner:="list_reverseiterator") (n:="__next__") (by rw[lC,g8];kernel_rfl) (by decide +kernel) (by decide +kernel) (by decide +kernel) (by decide +kernel) (by kernel_rfl)
theorem zdF:Slot "list_reverseiterator" "__iter__" "list_reverseiterator.__iter__" :=
 .of (owner:="list_reverseiterator") (n:="__iter__") (by rw[lC,g8];kernel_rfl) (by decide +kernel) (by decide +kernel) (by decide +kernel) (by decide +kernel) (by kernel_rfl)
theorem zdr:entryFor table "list_reverseiterator.__next__" = ao fw.«list_reverseiterator.__next__»:=entryFor_of_tree (by kernel_rfl)
theorem zd_(a:ah):argsOk "list_reverseiterator.__next__" ⟨[a],[]⟩:=by unfold argsOk;kernel_rfl
def IsRevIter(h:bq)(it l:ai)(j:Int):Prop:=∃o,bi h it=ao o/\jo o=bU "list_reverseiterator" /\ io o=fm #[bQ l,rL j 0]
section
variable{prog:aK}{w:aV}{A:bw}{E:qV}{s:ax}
theorem zmq{a:ai}{o:Obj}{its:Array ah}{n:Nat}{Q:Option (Array ah)->ax->Prop}(l:bi s.heap a=ao o)(hd:io o=im its n)(h:Q (ao its) s):wpAny (model prog w) A (seqItems? (bQ a)) Q E s:=by show wpAny _ _ (load a >>= _) _ _ s;refine ae (tN l ?_);rw[hd];exact ak h
theorem zph{it l:ai}{its:Array ah}{j:Nat}{x:ah}{Q:Option ah->ax->Prop}(hi:IsRevIter s.heap it l (j:Int))(G:s.heap.IsList l its)(hx:its[j]?=ao x)
  (J:∀h',IsRevIter h' it l ((j:Int) - 1)->gn it s.heap h'->Q (ao x) { s with heap:=h' }):wpAny (model prog w) A (pyNext (bQ it)) Q E s:=by
 obtain⟨o,v,hc,hd⟩:=id hi;obtain⟨L,gl,cl,n,dl⟩:=id G;have ty:s.TypeIs (bQ it) "list_reverseiterator":=⟨o,v,hc⟩;unfold pyNext;refine ae (kW ?_);refine dF (name:=aa "__next__") ty VD ?_;refine eG VD ty zdr ?_ (zd_ _);unfold fw.«list_reverseiterator.__next__»;refine ae (ak ?_);refine ae (cW v hd (x:=rL (j:Int) 0) rfl ?_);have nn:¬((j:Int)<0):=by lia
 show wpAny _ _ (if (j:Int)<0 then _ else _) _ _ _;rw[if_neg nn];refine ae (cW v hd (x:=bQ l) rfl ?_);refine ae (zmq gl dl ?_);show wpAny _ _ (match its[ap (j:Int)]? with|some x=>_|_=>_) _ _ _;rw[gr,hx];refine ae (oQ v hd (by simp) ?_);have C:IsRevIter (s.heap.update it (Obj.mapFields (·.setIfInBounds 1 (rawInt ((j:Int) - 1))))) it l ((j:Int) - 1) :=
  ⟨_,fY _ v (ot (iU hd _)),b4 (rB ..) hc,by rw[iU hd];simp[rawInt]⟩
 exact ak ⟨_,rfl,ak (J _ C (lG ..))⟩
theorem zrP{it l:ai}{Q:Option ah->ax->Prop}(C:A.handled=bj)(hi:IsRevIter s.heap it l (-1))(I:∀h',oP it s.heap h'->Q bj { s with heap:=h' }):wpAny (model prog w) A (pyNext (bQ it)) Q E s:=by obtain⟨o,v,hc,hd⟩:=id hi;have ty:s.TypeIs (bQ it) "list_reverseiterator":=⟨o,v,hc⟩;unfold pyNext;refine ae (kW ?_);refine dF (name:=aa "__next__") ty VD ?_;refine eG VD ty zdr ?_ (zd_ _);unfold fw.«list_reverseiterator.__next__»;refine ae (ak ?_);refine ae (cW v hd (x:=rL (-1) 0) rfl ?_);show wpAny _ _ (if (-1:Int)<0 then _ else _) _ _ _;rw[if_pos (by decide)];refine ae (dG ?_);refine ae ?_;unfold rG;show wpAny _ _ (newExc (bU "StopIteration") [] >>= _) _ _ _;refine ae ?_;simp only[newExc,newTuple];refine ae (cL ?_ (by size_fits));refine ae (m:=firstArgMember _ _) (iW (a:=kJ) (by first|rfl|(simp only[firstArgMember];rfl)) ?_);refine cL ?_ (by size_fits);simp only[raiseNew];refine ae (wpAny_handled ?_);have u:A.in1.handled=bj:=C;rw[u];refine ae (ak (wpAny_throw ?_));refine ae (nE (T:="StopIteration") (b:=du) ⟨_,aB _ rfl,rfl⟩ ub (ak (I _ ?_)));have G:oP it s.heap s.heap:=λb o _ e=>e;exact sD (sD G _) _
end
section
variable{X:Cx}{tg:bg}
theorem zf_:entryFor table "list_reverseiterator.__iter__" = ao fw.«dict_keyiterator.__iter__»:=entryFor_alias (id':="dict_keyiterator.__iter__") (by kernel_rfl) rfl (by decide +kernel) (by kernel_rfl)
theorem zhD(a:ah):argsOk "list_reverseiterator.__iter__" ⟨[a],[]⟩:=by unfold argsOk;kernel_rfl
theorem zkg{it l:ai}{j:Int}{prog:aK}{w:aV}{A:bw}{E:qV}{s:ax}{Q:qV}(hi:IsRevIter s.heap it l j)(h:Q (bQ it) s):wpAny (model prog w) A (pyIter (bQ it)) Q E s:=by obtain⟨o,u,hc,hd⟩:=hi;have ty:s.TypeIs (bQ it) "list_reverseiterator":=⟨o,u,hc⟩;refine wpAny_pyIter_slot ty zdF (eG zdF ty zf_ ?_ (zhD _));show wpAny _ _ (ret (bQ it)) _ _ s;exact ak ⟨_,rfl,"list_reverseiterator",_,ty,VD.lookup,h⟩
def ItV(a:ai)(o:List V):It :=
 ⟨λi H=>H a=ao (.lst o)/\i<fo o,λi H x H'=>H'=H/\o.reverse[i]?=ao x,λi H=>H a=ao (.lst o)/\fo o<=i⟩
theorem zoZ{P:aK}{w:aV}{K:qF}{tg:bg}(a it:ai)(C:List V):Turn P w K tg (ItV a C) [it] it (λi h=>i<=fo C/\IsRevIter h it a ((fo C:Int) - 1 - (i:Int))) where
 mem:=by simp
 obj:=λi h st b hb=>by
  have e:b=it:=by simpa using hb
  subst e;obtain⟨_,o,e,c,d⟩:=st;exact⟨o,e,λv z=>by rw[d]at z;cases z⟩
 keep:=λi h h' st k=>by obtain⟨l,o,e,r⟩:=st;exact⟨l,o,k it (by simp) o e,r⟩
 item:=by
  intro X L hw R hc i pins s σ H E I hf st Y;subst L hw R;obtain⟨ha,hi⟩:=Y;obtain⟨its,Z,p,hz⟩:=I.list (.of ha);have hl:=Z.length;have hx:C.reverse[i]?=ao (C.reverse[i]'(by simpa using hi)):=aw (by simpa using hi);generalize C.reverse[i]'(by simpa using hi)=x at hx;have J:C[fo C - 1 - i]?=ao x:=by rw[<- hx,kG hi]
  obtain⟨u,hu,ru⟩:=Z.get J;obtain⟨f0,f1,f2,S,f4,N⟩:=hf it (by simp);have U:(fo C:Int) - 1 - (i:Int)=((fo C - 1 - i:Nat):Int):=by lia
  obtain⟨_,st⟩:=st;rw[U]at st;refine zph st p.isList (x:=u) (by simpa using hu) λh' G sb=>?_;have I1:Inv X pins σ H { s with heap:=h' }:=I.turned (t':=eA s) (λb o hb e=>b4 (sb.2 b hb) e) f0 f1 S f4 N;obtain⟨o,e,c,d⟩:=id G;exact⟨u,rfl,ZF (s:={ s with heap:=h' }) e c d (by decide) ⟨x,H,I1,ru,⟨rfl,hx⟩,⟨hi,by
   have e2:(fo C:Int) - 1 - ((i+1:Nat):Int)=((fo C - 1 - i:Nat):Int) - 1:=by lia
   rw[e2];exact G⟩,λb hb=>(hf b hb).1⟩⟩
 done:=by
  intro X L hw R hc i pins s σ H E I hf st Y;subst L hw R;obtain⟨ha,hi⟩:=Y;obtain⟨f0,f1,f2,S,f4,N⟩:=hf it (by simp);obtain⟨l,st⟩:=st;have U:(fo C:Int) - 1 - (i:Int)=-1:=by lia
  rw[U]at st;exact zrP (I.ok.hd hc) st λh' eb=>⟨rfl,I.turned (t':=eA s) (λb o hb e=>eb b o hb e) f0 f1 S f4 N⟩
 self:=λ_ _ _ _ _ st h=>zkg st.2 h
end
theorem boot_reversed:bootBuiltins "reversed" = ao (bU "reversed"):=by first|rfl|kernel_rfl
section
variable{X:Cx}{a tg:bg}{d:DTE}{p pos:Pos}
def iRev(u:TA):TI:=λσ H R=>u σ H λv o=>∃l xs,v=[.ref l]/\o l=ao (.lst xs)/\R (ItV l xs) o
theorem zuD{v:TA}(hg:Gl X "reversed") (Y:X.mg "reversed" = bj) (ha:PA X [a] v) (L:starEach [a] X.env=[(dy,eval a X.env)]:=by rfl):PI X tg (f9 (bv "reversed" p) [a] [] pos) (iRev v):=by
 intro pins s σ H R I h;refine Call_ (YU I hg Y boot_reversed (fJ (thn (ha pos pins s σ H _ I h) λus s1 ⟨vs,Z,u,J,q1⟩=>?_) L rfl));obtain⟨l,xs,e,G,q⟩:=q1;subst e;cases J with
 | cons r x =>
  cases x;cases(show _=bQ l from r);obtain⟨z,its,n,rel,g⟩:=u.hok l _ G;have U:=rel.length;refine zhC (its:=bm its) (n:=n) g ?_;have S:=u.kept (t':=eA s1) (h':=ee s1.heap { cls:=bU "list_reverseiterator",data:=fm #[bQ l,rL (be its.toArray - 1) 0] }) λb o e=>aj _ e;have ri:IsRevIter (ee s1.heap { cls:=bU "list_reverseiterator",data:=fm #[bQ l,rL (be its.toArray - 1) 0] }) s1.heap.objs.size l ((fo xs:Int) - 1 - ((0:Nat):Int)):=by refine⟨_,aB _ rfl,rfl,?_⟩;simp[U]
  refine zkg ri ?_;refine⟨be s1.heap.objs,[be s1.heap.objs],_,_,Z,rfl,S,zoZ l _ xs,⟨cR _,ri⟩,λb hb=>?_,q⟩;have e:b=be s1.heap.objs:=by simpa using hb
  subst e;exact u.fpOk (aC _) (u.hok.fresh (aC _))
def dItR(d:DTE):DTA:=λo n R=>d o n λt l=>lLst t λts=>R (jn ts) l
theorem zwF(hm:X.mg "reversed" = bj) (h:DE X a d) (hg:Gl X "reversed":=by rfl) (Y:starEach [a] X.env=[(dy,eval a X.env)]:=by rfl):DI X tg (f9 (bv "reversed" p) [a] [] pos) (dItR d):=by
 obtain⟨ta,pa,h⟩:=h;refine⟨_,zuD hg hm (Ue pa UW Y) Y,λC ρ σ H n Q R S hd hq=>?_⟩;refine h C ρ σ H n _ _ S hd λt n' v H' r e1 hn q=>?_;cases t with
 | list ts =>
  obtain⟨l,J,rfl,L,no,U⟩:=q.lstI;refine⟨l,J,rfl,L,hq _ n' _ H' r e1 hn ?_⟩;intro O2 H2 g1 g2 _;have u:=g1 l _ L no;have r2:Reps X.K C.hd O2 H2 J ts:=U.mono (λa o ha z=>eZ λno=>g2 a o ha no z) λa o no ha=>g1 a o ha no;have Z:=U.length;refine⟨λi t I=>?_,⟨u,by rw[o8,Z];exact aC _⟩⟩;have hi:i<fo ts:=by simpa using(aq.mp I).1
  refine⟨⟨u,by lia⟩,λx H3 G=>?_⟩;obtain⟨rfl,G⟩:=G;refine⟨Same.refl _,?_⟩;rw[kG hi]at I;rw[kG (by lia),Z]at G;exact r2.getP I G
 | _=>exact e9 r
instance zzR {d:DTE}{ρ:En}{n:Nat}{R:qD->Nat->Prop}:Stp (dItR d ρ n R) (d ρ n λt n'=>lLst t λts=>R (jn ts) n'):=⟨λh=>h⟩
end
section
variable{X:Cx}{pins:qO}{σ:St}{H:Hp}{s:ax}{a:ai}{zs:ZT}{ep:Nat}{A:bw}{E:qV}
theorem zl_{k:Int×Int}{b:ai}{v:V}{r:ah}{Q:Unit->ax->Prop}(hu:A.units+1<cLine)(I:Inv X pins σ H s)(h:H a=ao (ZDO a zs ep))(Y:∀z∈zs,SqT X.K H z.2.1 [.int z.1.1,.int z.1.2])(hb:SqT X.K H b [.int k.1,.int k.2])(hl:fo zs<sizeLine)(N:RelV v r)
  (Z:∀s' o,Inv X pins σ (upd H a (ZDO a (zput zs k b v) o)) s'->Q () s'):wpAny (model X.prog X.w) A (dictSet a (bQ b) r) Q E s:=by
 obtain⟨S,L,xs,J,R⟩:=zqI I h Y;have U:fo xs<=sizeLine:=by rw[<- iA J];exact L
 refine pN (hsz:=U) (show A.units<cLine by lia) (Wi (k:=kL k) I hb) R λh' u G=>?_;have he:∃q,bi h' a=ao q:=let ⟨q,_,_,e,_⟩:=u;⟨q,e⟩;have x:fo (zput zs k b v)<=sizeLine:=by have:=zj8 zs k b v;lia
 have ok:∀H':Hp,∃o,JS X.prog X.w H' h' a (ZDO a (zput zs k b v) o):=λH'=>zl7 S x (zqG J k N) u;obtain⟨o,C⟩:=ok H;exact Z _ o (zto I (by rw[h];exact mi) G he C)
end
abbrev tdD(tk tv:DTE)(ρ:En)(n:Nat)(acc:KT2)(R:KT2->Nat->Prop):Prop:=tk ρ n λy n3=>tv ρ n3 λt n4=>lBlk y λk=>fo acc<16777216/\R (putT acc k t) n4
def Zm(g:DTG)(tt:DTT)(tk l:DTE)(ρ0:En)(xs:qD)(acc:KT2)(n:Nat)(R:KT2->Nat->Prop):Prop:=cGo g tt (tdD tk l) ρ0 xs acc n R
def Wa(m:Nat)(capt:List Nat)(u:DTA)(g:DTG)(tt:DTT)(tk x:DTE):DTE:=λl n R=>u l n λts v=>Zm g tt tk x (JV m capt l) ts [] v λC o=>R (sI (J2 C)) o
def AD(K:qF)(C:Ctx)(D:ai)(H:Hp)(acc:KT2):Prop:=∃zs l,H D=ao (ZDO D zs l)/\Jx K C.hd C.ext H zs acc
theorem zwS{K:qF}:AOk (AD K):=λ_ _ _ _ hx v ⟨zs,u,l,r⟩ =>
 ⟨sr (sr ⟨_,l⟩),λx z=>(by rw[l]at z;cases z),λH' e=>⟨zs,u,e _ _ l v,r.mono (λ_ _ _ z=>z) λa o no ha=>e a o ha λz=>no (hx a z)⟩⟩
def nxD(o l:bg)(acc:ah)(env:Env)(k:Sem Fin):Sem Fin:=do
 (do
  let kv <- eval o env;let vv <- holding [kv] (eval l env);match acc with
  | bQ d=>do
   standAt { o.pos with endLine:=l.pos.endLine,endCol:=l.pos.endCol }
   holding [kv,vv] (dictSet d kv vv)
  | _=>unsupported "internal:dictcomp")
 k
section
variable{X:Cx}{scope:fS}{own:List Str}{capt:List Nat}{kx vx tg iter:bg}{ifs:List bg}{gs:List Comprehension}{pos:Pos}{di:DTA}{is:List Nat}{g:DTG}{tt:DTT}{tk tv:DTE}
theorem zsK:IsC (jv kx vx gs scope pos):=λ_ _ _ _ _ _ _=>⟨⟨rfl,rfl⟩,⟨rfl,rfl⟩,rfl⟩
theorem zvc:NA X.prog X.w newDict λD v=>∃u,v=ZDO D [] u:=λA E s Q big h=>cL (h _ rfl λh' e=>by have G:(ee s.heap { cls:=bU "dict",dict:=bj,data:=jt #[] }).DictOfH (tupleKind (JJ X.prog X.w)) s.heap.objs.size []:=sC s.heap;obtain⟨o,C,u,g1,g2⟩:=G;rw[aB _ rfl]at g1;cases g1;obtain⟨u,ok⟩:=zl7 (X:=X) (H':=λ_=>bj) (zs:=[]) (beq_eq_false_iff_ne.mpr (gN (aW big))) (cR _) ja ⟨_,C,u,e,g2.1,g2.2.1,g2.2.2.1,λx hx=>absurd hx (by simp),g2.2.2.2.2⟩;exact⟨_,⟨u,rfl⟩,λH'=>ok⟩)
theorem zwn(hu:X.A.units+1<cLine)(hk:Fam X scope own capt λY=>DE Y kx tk)(he:Fam X scope own capt λY=>DE Y vx tv):HM X scope own capt (nxD kx vx) (AD X.K) [] (tdD tk tv):=by obtain⟨gk,pk,hgk⟩:=DE.fam hk;obtain⟨ge,pe,hge⟩:=DE.fam he;refine⟨λD σ H N=>gk σ H λkv H6=>ge σ H6 λv J=>∃zs U k b,kv=.ref b/\J D=ao (ZDO D zs U)/\(∀z∈zs,SqT X.K J z.2.1 [.int z.1.1,.int z.1.2])/\SqT X.K J b [.int k.1,.int k.2]/\fo zs<sizeLine/\∀u,N (upd J D (ZDO D (zput zs k b v) u)),λD C s₀ H₀ fp pins s σ H N k Q E I h hk=>?_,λC D hD nh ρ σ H n acc N R S _ a r hq=>?_⟩;refine ae (ae (c8 (pk C s₀ H₀ fp pins s σ H _ I h) (λy s9 ⟨kv,H9,I9,r9,q9⟩=>ae (cu (c8 (pe C s₀ H₀ fp pins s9 σ H9 _ I9 q9) (λy2 s10 ⟨v,H10,I10,r10,zs,U,k,b,ev,L,hsq,hb,hl,q10⟩=>ae (fO (cu ?_))) λ_ _ z=>e9 z))) λ_ _ z=>e9 z));subst ev;cases(show y=bQ b from r9);exact zl_ (X:=Q8 X scope own capt C s₀ H₀ fp) hu I10 L hsq hb hl r10 λs11 u I11=>hk _ _ I11 (q10 u);refine hgk C ρ σ H n _ _ S r λy n6 kv H6 r6 e6 hn6 q6=>?_;have S6:=S.on e6 hn6;refine hge C ρ σ H6 n6 _ _ S6 r6 λt n7 v J r7 e7 hn7 q7=>?_;obtain⟨k,rfl,hl,c7⟩:=r7;have x:=e7.rep S6.hx q6;obtain⟨b,rfl,sb⟩:=x.bkI;have G:=e6.trans e7;obtain⟨zs,U,L,Z⟩:=(zwS _ _ _ _ S.hx nh a).2.2 _ G;refine⟨zs,U,k,b,rfl,L,Z.sq,sb,by rw[Z.length];exact hl,λu=>hq _ n7 _ c7 (λc o hc nc ne=>by rw[Ju ne];exact G c o hc nc) (Hn.updR nh (sr (sr ⟨_,L⟩)) hn7) ⟨_,u,J1,?_⟩⟩;exact(Z.put k (x.mono (λ_ _ _ z=>dY z) λ_ _ _ z=>z) (q7.mono (λ_ _ _ z=>dY z) λ_ _ _ z=>z)).mono (λ_ _ _ z=>z) λa o no ha=>by rw[Ju (show a≠D from λz=>no (z▸hD))];exact ha
theorem zqA(hu:X.A.units+1<cLine)(hc:X.calm=du)(S:JB scope own capt X)(hi:DIL X tg iter di)
  (hg:Fam X scope own capt λY=>DG Y tg is g) (v:∀i∈is,i<fo own) (ht:Fam X scope own capt λY=>DTs Y ifs tt) (hk:Fam X scope own capt λY=>DE Y kx tk) (he:Fam X scope own capt λY=>DE Y vx tv) (hs:Fsi X iter) :
  ∃ge,PE X (jv kx vx [⟨tg,iter,ifs,0⟩] scope pos) ge/\(∀{i:Nat} {x:Str} {u G:Pos},X.N.Nodup->X.N[i]?=ao x->Loc (d0 X.env) x->swapsWith (jv kx vx [⟨tg,iter,ifs,0⟩] scope pos) (ao (bv x u)) G.line X.env=pure du->(Fnl X x)->PS X (ii [bv x u] (jv kx vx [⟨tg,iter,ifs,0⟩] scope pos) G) (tAsg ge (UO i)))/\SpE X.K ge (Wa (fo own) capt di g tt tk tv):=by
 obtain⟨ge,p,q,sp⟩:=zhA (e:=jv kx vx [⟨tg,iter,ifs,0⟩] scope pos) (a0:=[]) zwS (λ_ _ _ ho ⟨I,h⟩=>⟨[],I,by rw[h];exact J1,.nil⟩) hc S ⟨zsK,⟨_,rfl⟩,λ_ _ _=>rfl,λ_=>⟨_,rfl⟩,λ_ _=>⟨_,rfl⟩⟩ zvc hi hg v ht (zwn hu hk he) (λj Z=>absurd Z (by simp)) hs;exact⟨ge,p,q,λC J σ H n Q R St hd hq=>sp C J σ H n Q _ St hd λacc U H' D r e h hD nO ⟨zs,I,L,rs⟩=>hq _ U _ H' r e h (.dcT L nO (rs.mono (λ_ _ _ z=>dY z) λ_ _ _ z=>z) rfl)⟩
end
section
variable{m:Nat}{capt:List Nat}{di:DTA}{tg:DTG}{tt:DTT}{tk tv:DTE}{ρ ρ0:En}{n:Nat}{R:qN}
instance zyl [h:CompN m capt ρ ρ0]:Stp (Wa m capt di tg tt tk tv ρ n R) (di ρ n λts n1=>Zm tg tt tk tv ρ0 ts [] n1 λks n'=>R (sI (J2 ks)) n'):=⟨λk=>by unfold Wa;rw[h.e];exact k⟩
end
theorem zmL{acc:KT2}{k:Int×Int}{t:af}:((putT acc k t).map (·.1)=acc.map (·.1)/\k∈acc.map (·.1))\/((putT acc k t).map (·.1)=acc.map (·.1)++[k]/\k∉acc.map (·.1)):=by unfold putT;by_cases e:(acc.any λz=>decide (z.1=k))=du;rw[if_pos e];refine dY ⟨?_,?_⟩;rw[bS];refine gD λz _=>?_;show(if z.1=k then(z.1,t) else z).1=z.1;split <;> rfl;obtain⟨z,o,e⟩:=iq.mp e;exact aA.mpr ⟨z,o,of_decide_eq_true e⟩;rw[if_neg e];refine sr ⟨by simp,λm=>?_⟩;obtain⟨z,o,u⟩:=aA.mp m;exact e (iq.mpr ⟨z,o,decide_eq_true u⟩)
section
variable{X:Cx}{e:bg}{d:DTA}{p p2 cp:Pos}
def zrx(d:DTA):DTE:=λu n R=>d u n λts o=>∃l:KT2,ts=l.map prT/\R (sI (J2 (mkT l))) o
theorem zqt(hc:X.calm=du)(hu:X.A.units+64<cLine)(I:X.mg "dict" = bj) (h:DN X e d) (u:starEach [e] X.env=[(dy,eval e X.env)]:=by rfl) (J:Gl X "dict":=by rfl) :
  DE X (f9 (bv "dict" p2) [e] [] cp) (zrx d):=by
 obtain⟨ta,pa,h⟩:=h;refine⟨_,zif (zl4 hc hu) J I rfl (Ue pa UW u) (he:=u),λC L σ H n Q R S hd hq=>?_⟩;refine h C L σ H n _ _ S hd λts Z p Y H1 ⟨ks,G,r⟩ U v hp0 hp rp=>?_;subst G;obtain⟨zs,z1,z2⟩:=zpi rp;refine⟨p,Y,zs,rfl,hp,z1,λl ep x=>?_⟩;have S1:=S.on U v;have rk:Jx X.K C.hd (λa=>Own C L σ a\/a=p) H1 (mkZ zs) (mkT ks):=zlf z2 .nil;exact hq _ Z _ _ r (U.trans (ExtE.new x)) (v.same (Qf x)) (.dcT J1 (S1.free x) (rk.mono (λ_ _ _ z=>dY z) (λb o _ hb=>Qf x b o hb)) rfl)
instance zyk {d:DTA}{ρ:En}{n:Nat}{R:qN}:Stp (zrx d ρ n R) (d ρ n λts n1=>∃ks:KT2,ts=ks.map prT/\R (sI (J2 (mkT ks))) n1):=⟨λh=>h⟩
end
abbrev NP:=(Int×Int)×Str
def PsIn(h:bq)(u:ah)(r:NP):Prop:=∃(a p:ai) (o:Obj) (t:Tok) (n:Nat),u=bQ a/\bi h a=ao o/\jo o=bU "tuple" /\ io o=im #[bQ p,kI r.2 t] n/\PrIn h (bQ p) r.1.1 r.1.2
theorem PsIn.kept{h h':bq}{u:ah}{r:NP}(p:PsIn h u r)(kp:∀b o,bi h b=ao o->bi h' b=ao o):PsIn h' u r:=by obtain⟨a,q,o,t,n,l,x,C,G,v⟩:=p;exact⟨a,q,o,t,n,l,kp _ _ x,C,G,v.kept kp⟩
theorem PsIn.uniq{h:bq}{u:ah}{r C:NP}(p:PsIn h u r)(S:PsIn h u C):r=C:=by
 obtain⟨a,q,o,t,n,rfl,U,_,I,⟨x,ox,t1,t2,m,x0,J,_,G⟩⟩:=p;obtain⟨a',q',o',t',n',L,f1,_,f2,⟨y,Z,u1,u2,Y,R,v,_,l⟩⟩:=S;cases L;rw[U]at f1;cases f1;rw[I]at f2;injection f2 with f2 _
 have f2:=congrArg nK f2;simp at f2;obtain⟨N,f4,_⟩:=f2;cases x0;cases R;subst N;rw[J]at v;cases v;rw[G]at l;injection l with l _
 have l:=congrArg nK l;simp at l;exact gK (gK l.1.1 l.2.1) f4
def npLt(a b:NP):Bool:=if a.1=b.1 then decide (nK a.2.cps<nK b.2.cps) else decide (a.1.1<b.1.1\/(a.1.1=b.1.1/\a.1.2<b.1.2))
theorem Vo{a b:NP}:npLt a b=du↔(a.1.1<b.1.1\/(a.1.1=b.1.1/\(a.1.2<b.1.2\/(a.1.2=b.1.2/\nK a.2.cps<nK b.2.cps)))):=by unfold npLt;obtain⟨⟨a1,a2⟩,x⟩:=a;obtain⟨⟨u,o⟩,v⟩:=b;dsimp only;by_cases e:(a1,a2)=(u,o);rw[if_pos e];cases e;simp;rw[if_neg e,decide_eq_true_eq];have:¬(a1=u/\a2=o):=λz=>e (by rw[z.1,z.2]);constructor;rintro(h|h);exact dY h;exact sr ⟨h.1,dY h.2⟩;rintro(h|⟨h,h'|h'⟩);exact dY h;exact sr ⟨h,h'⟩;exact absurd ⟨h,h'.1⟩ this
theorem ztt(x y:Str):nK x.cps<nK y.cps\/x=y\/nK y.cps<nK x.cps:=by by_cases h:nK x.cps<nK y.cps;exact dY h;by_cases h':nK y.cps<nK x.cps;exact sr (sr h');refine sr (dY (L2.Str.ext' ?_));exact List.le_antisymm (x9.mp h') (x9.mp h)
theorem zkt(a:NP):npLt a a=dy:=by rw[cN,ne_eq,Vo];rintro(h|⟨_,h|⟨_,h⟩⟩);lia;lia;exact uh _ h
theorem zpH(a b:NP):npLt a b=du\/a=b\/npLt b a=du:=by rw[Vo,Vo];obtain⟨⟨a1,a2⟩,u⟩:=a;obtain⟨⟨x,v⟩,o⟩:=b;dsimp only;rcases fA a1 x with h|rfl|h;exact dY (dY h);rcases fA a2 v with h|rfl|h;exact dY (sr ⟨rfl,dY h⟩);rcases ztt u o with h|rfl|h;exact dY (sr ⟨rfl,sr ⟨rfl,h⟩⟩);exact sr (dY rfl);exact sr (sr (sr ⟨rfl,sr ⟨rfl,h⟩⟩));exact sr (sr (sr ⟨rfl,dY h⟩));exact sr (sr (dY h))
theorem zlv{a b c:NP}(h:npLt a b=du)(h':npLt b c=du):npLt a c=du:=by rw[Vo]at h h' ⊢;rcases h with h|⟨e,h|⟨o,h⟩⟩ <;> rcases h' with h'|⟨f,h'|⟨f2,h'⟩⟩;exact dY (by lia);exact dY (by lia);exact dY (by lia);exact dY (by lia);exact sr ⟨by lia,dY (by lia)⟩;exact sr ⟨by lia,dY (by lia)⟩;exact dY (by lia);exact sr ⟨by lia,dY (by lia)⟩;exact sr ⟨by lia,sr ⟨by lia,List.lt_trans h h'⟩⟩
def npRk(rs:List NP)(r:NP):Int:=(fo (rs.filter λq=>npLt q r):Int)
theorem znU{α:Type}{p q:α->Bool}{l:List α}(h:∀x,p x=du->q x=du):fo (l.filter p)<=fo (l.filter q):=by
 induction l with
 | nil=>exact aC _
 | cons a l o =>rw[kP,kP];cases e:p a;cases q a;exact o;exact rh o;rw[h a e];exact rW o
theorem znT{α:Type}{p q:α->Bool}{l:List α}(h:∀x,p x=du->q x=du){a:α}(ha:a∈l)(v:p a=dy)(u:q a=du):fo (l.filter p)<fo (l.filter q):=by
 induction l with
 | nil=>cases ha
 | cons b l o =>rw[kP,kP];rcases ay.mp ha with rfl|ha;rw[v,u];exact rf (znU h);have:=o ha;cases e:p b;cases q b;exact this;exact rA this;rw[h b e];exact nv this
theorem WO{rs:List NP}{a b:NP}(ha:a∈rs)(h:npLt a b=du):npRk rs a<npRk rs b:=by unfold npRk;have:=znT (p:=λq=>npLt q a) (q:=λq=>npLt q b) (l:=rs) (λx hx=>zlv hx h) ha (zkt a) h;lia
theorem zsr{rs:List NP}{a b:NP}(ha:a∈rs)(hb:b∈rs):npLt a b=decide (npRk rs a<npRk rs b):=by
 rcases zpH a b with h|rfl|h;rw[h,decide_eq_true (WO ha h)];rw[zkt];symm;rw[decide_eq_false_iff_not];exact Int.lt_irrefl _;have:=WO hb h;rw[decide_eq_false (by lia)];cases e:npLt a b with
 | false=>rfl
 | true=>have:=WO ha e;lia
open Classical in
noncomputable def rkNP (rs:List NP) (h:bq) (u:ah):Int:=if z:∃r,PsIn h u r then npRk rs z.choose else 0
theorem PsIn.rk{rs:List NP}{h:bq}{u:ah}{r:NP}(p:PsIn h u r):rkNP rs h u=npRk rs r:=by unfold rkNP;have z:∃r,PsIn h u r:=⟨r,p⟩;rw[dif_pos z,z.choose_spec.uniq p]
section
variable{prog:aK}{w:aV}{A:bw}{E:qV}{s:ax}
theorem zsF{C:List ah}{Q:fG->ax->Prop}(h1:1<=fo C)(hp:∀v∈C,∃r,PsIn s.heap v r)(h:Q (tuples' dy) s):wpAny (model prog w) A (keyKind' (bm C)) Q E s:=by
 rw[keyKind'_eq,kh,map_eq_pure_bind];refine ae (ae (Vn (P:=λ_ r=>∃(p:ai) (o:Obj),r=ao (bQ p)/\bi s.heap p=ao o/\jo o=bU "tuple") C (λv R Q' S=>?_) λrs N=>ak ?_));obtain⟨r,a,p,o,t,n,rfl,G,e2,e3,a',o',t1,t2,n',e4,Z,e6,e7⟩:=hp v R;cases e4;rw[zkO];refine ae (fK (T:="tuple") ⟨o,G,e2⟩ ?_);rw[if_neg (by decide)];exact ae (ig G e3 (ak (S _ ⟨p,o',rfl,Z,e6⟩)));have al:∀r∈rs,∃(p:ai) (o:Obj),r=ao (bQ p)/\bi s.heap p=ao o/\jo o=bU "tuple":=λr J=>by obtain⟨_,_,h⟩:=WZ N J;exact h
 have Mk:(rs.toArray.all λx=>f6 x)=du:=by rw[kN,bM];intro x hx;obtain⟨p,o,rfl,_⟩:=al x hx;rfl
 rw[if_pos Mk];refine ae (dG ?_);rw[sZ];have I:rs.toArray.filterMap id=bm (rs.filterMap id):=by simp
 rw[I,kh,map_eq_pure_bind];refine ae (ae (ae (Vn (P:=λ_ r=>r=bU "tuple") _ (λv R Q' S=>?_) λts L=>ak ?_)));obtain⟨x,hx,e⟩:=iO.mp R;obtain⟨p,o,rfl,g,c⟩:=al x hx;cases e;exact fK (T:="tuple") ⟨o,g,c⟩ (S _ rfl);have u:∀r∈ts,r=bU "tuple":=λr J=>by obtain⟨_,_,h⟩:=WZ L J;exact h
 cases ts with
 | nil=>exact ak (ak h)
 | cons Y U =>
  have G:Y=bU "tuple":=u Y (jc _);subst G;have Mo:(((bU "tuple")::U).toArray.all λx=>x == bU "tuple")=du:=by rw[kN,bM];intro x hx;rw[u x hx];rfl
  have h0:((bU "tuple")::U).toArray[0]?=ao (bU "tuple"):=by simp
  rw[h0];simp only[Mo,if_true];refine ak (ak ?_);exact h
theorem zpP(x y:Str)(t u:Tok):LtAt prog w A s dy (kI x t) (kI y u) (decide (nK x.cps<nK y.cps)):=λE Q q=>by rw[vF];simp only[bz,if_false];refine ae (show wpAny (model prog w) A (compareOp .Lt (kI x t) (kI y u)) _ E s from yx ?_);exact cg q
theorem zpW{l:List ah}{h0:bq}{rs:List NP}(J:A.units<cLine)(G:∀v∈l,∃r,r∈rs/\PsIn s.heap v r/\rkNP rs h0 v=npRk rs r):Kinds prog w A s (rkNP rs h0) l:=λh2=>by
 refine⟨tuples' dy,λE Q q=>zsF (by lia) (λv Y=>?_) q,λp q E Q mp U h=>?_⟩;obtain⟨r,_,h,_⟩:=G v Y;exact⟨r,h⟩;have mem:∀z∈nK (pairsOf l),z.1∈l:=λz hz=>by
  have:z∈l.zip l:=by simpa[pairsOf] using hz
  exact(dZ this).1
 obtain⟨⟨⟨b,k⟩,g⟩,m1,⟨a,x,o,t,n,e0,R,e2,Z,I⟩,N⟩:=G _ (mem p mp);obtain⟨⟨⟨u,C⟩,g'⟩,m2,⟨a',x',o',t',n',f0,f1,f2,f3,f4⟩,S⟩:=G _ (mem q U);rw[N,S,<- zsr m1 m2]at h;rw[e0,f0];refine ziI R Z f1 f3 (ztc J I f4) (SeqAt.EqAt.str_str g t g' t') (λ_=>zsz J I f4) (λ_=>zpP g g' t t') ?_;have:(if decide (b=u/\k=C)=du then(if (g == g')=du then dy else decide (nK g.cps<nK g'.cps)) else HT.lexLt [b,k] [u,C])=npLt ((b,k),g) ((u,C),g'):=by rw[zsA];unfold npLt;dsimp only;by_cases e:b=u/\k=C;obtain⟨rfl,rfl⟩:=e;rw[if_pos (by simp),if_pos rfl];by_cases eg:g=g';subst eg;rw[if_pos (by simp)];symm;rw[decide_eq_false_iff_not];exact uh _;rw[if_neg (by simpa using eg)];rw[if_neg (by simpa using e),if_neg (λz=>e (by cases z;exact⟨rfl,rfl⟩))]
 rw[this];exact h
variable{X:Cx}
theorem zxL{pins:qO}{σ:St}{H:Hp}{s:ax}{a q:ai}{r:NP}(I:Inv X pins σ H s)(h:SqT X.K H a [.ref q,.str r.2])(u:SqT X.K H q [.int r.1.1,.int r.1.2]):PsIn s.heap (bQ a) r:=by
 obtain⟨is,rs,⟨o,f1,f2,n,v⟩,_⟩:=I.tuple h;cases rs with
 | cons a1 a2 =>
  cases a2 with
  | cons x l =>cases l;cases(show _=bQ q from a1);obtain⟨t,rfl⟩:=x;exact⟨a,q,o,t,n,rfl,f1,f2,v,zrG I u⟩
variable{e:bg}{d:DTE}{pos p:Pos}{k:Nat}
def zoc(d:DTE):DTA:=λu n R=>d u n λt o=>J0 t λts=>∃rs:List NP,ts=Bd.oD rs/\fo rs<100000/\∀l:List NP,l.Perm rs->l.Pairwise (λa b=>npRk rs a<=npRk rs b)->R (Bd.oD l) o
theorem zfM(Z:Room k X.A)(hm:X.mg "sorted" = bj) (h:DL X e d) (hs:starEach [e] X.env=[(dy,eval e X.env)]) (hg:Gl X "sorted":=by rfl):DN X (f9 (bv "sorted" p) [e] [] pos) (zoc d) :=
 zeB (L:=λt R=>J0 t λts=>∃rs:List NP,ts=Bd.oD rs/\fo rs<100000/\∀o:List NP,o.Perm rs->o.Pairwise (λa b=>npRk rs a<=npRk rs b)->R (Bd.oD o)) (λt R=>zfv λts ⟨rs,et,G,q⟩=>⟨NP,λr=>lV [prD r.1,cH r.2],PsIn,npRk rs,rkNP rs,rs,et,zjj G,λ{_ _ _ _ _ _ v u a} ha I r rv=>by
  obtain⟨b,ws,rfl,sq,Y⟩:=r.tupI;cases Y with
  | cons x1 J =>
   cases J with
   | cons S x4 =>cases x4;obtain⟨q,rfl,x⟩:=Rep.bkI x1;rw[S.strI]at sq;cases(show u=bQ b from rv);exact zxL I sq x,λp kp=>⟨p.kept kp,p.rk⟩,λhu U=>zpW hu λv hv=>by
  obtain⟨a,ma,p,e⟩:=U v hv;exact⟨a,ma,p,e⟩,q⟩) Z hm h hs hg
instance zwX {ρ:En}{n:Nat}{R:qD->Nat->Prop}:Stp (zoc d ρ n R) (d ρ n λt n1=>J0 t λts=>∃rs:List NP,ts=Bd.oD rs/\fo rs<100000/\∀rs':List NP,rs'.Perm rs->rs'.Pairwise (λa b=>npRk rs a<=npRk rs b)->R (Bd.oD rs') n1):=⟨λh=>h⟩
end
section
variable{prog:aK}{w:aV}{A:bw}{R:tR->ax->Prop}{I:ai}{fp wr:List ai}{n:Nat}{P:Nat->ah->Prop}{St:Nat->bq->Prop}
def CmpH(prog:aK)(w:aV)(A:bw)(Gd:bq->Prop)(P:Nat->ah->Prop)(bt:Nat->Nat->Bool):Prop :=
 ∀i j vi vj (s:ax) (Q:qV) (E:qV),Gd s.heap->P i vi->P j vj->Q (nJ (bt i j)) s->wpAny (model prog w) A (richCompare .Lt vi vj) Q E s
theorem zni{Gd:bq->Prop}{bt:Nat->Nat->Bool}{S:ai}(W:Walks prog w A.in1 I fp wr n P St)(Mz:CmpH prog w A.in1 Gd P bt)(hSf:S∉fp)
  (hG:∀h h',Gd h->(∀b o,b∉wr->b≠S->bi h b=ao o->bi h' b=ao o)->Gd h') :
  ∀(k j:Nat) (s:ax) (U:ah) (c:Nat),n - (j+1)=k->j+1<=n->St (j+1) s.heap->Gd s.heap->P (argBest bt j) U ->
  bi s.heap S=ao { cls:=bU "list",dict:=bj,data:=im #[U,U] c,slots:=#[] } ->
  (∀v h' tk,P (argBest bt (n - 1)) v->(∀b o,b∉wr->b≠S->bi s.heap b=ao o->bi h' b=ao o)->R (.ok (jA v)) { s with heap:=h',toks:=tk }) ->
  codeAny (model prog w) A (jD "min.loop" ⟨[bQ I,kJ,bQ S],[]⟩) R s:=by
 have hSw:S∉wr:=λh=>hSf (W.sub _ h);have Ma:(toString "min" ++ toString ".loop":String) = "min.loop":=by decide
 intro k;induction k with
 | zero =>
  intro j s U c hk hj hst gd Y hS hR;have hin:j+1=n:=by omega
  refine fE nI ?_;rw[k8 fR _];show wpAny _ A.in1 (seqItems? (bQ S) >>= _) _ _ s;refine ae (dJ hS rfl ?_);show wpAny _ A.in1 (tryCatch (pyNext (bQ I)) _ >>= _) _ _ s;refine ae (kB (W.done s _ _ (hin▸hst) λh' tk x=>?_));show wpAny _ A.in1 (updateSeq S (λ_=>#[]) >>= _) _ _ _;refine ae (oa (x S _ hSw hS) rfl (ae (iX (ak ?_))));exact hR U _ tk (by rw[<- hin];exact Y) λb o C G e=>b4 (cM _ _ (gN G)) (x b o C e)
 | succ k ih =>
  intro j s U c hk hj hst gd Y hS hR;have hlt:j+1<n:=by omega
  refine fE nI ?_;rw[k8 fR _];show wpAny _ A.in1 (seqItems? (bQ S) >>= _) _ _ s;refine ae (dJ hS rfl ?_);show wpAny _ A.in1 (tryCatch (pyNext (bQ I)) _ >>= _) _ _ s;refine ae (kB (W.item (j+1) s _ _ hlt hst λv h' tk hP Z x=>?_));have hS':=x S _ hSw hS;have gd':Gd h':=hG _ _ gd λb o hb _ e=>x b o hb e;show wpAny _ A.in1 (tryCatch (holding [v,v] (richCompare .Lt v U >>= _)) _ >>= _) _ _ _;refine ae (kB (cu (ae (Mz (j+1) (argBest bt j) v U _ _ _ gd' hP Y ?_))));refine ae (cu (cg ?_));refine ae (iX (ak ?_));cases hb:bt (j+1) (argBest bt j) with
  | true =>
   simp only[if_true];refine ae (oa hS' rfl (ae (iX ?_)));rw[Ma];refine ak ⟨m9 fR _,ih (j+1) _ v _ (by omega) hlt (W.frame _ _ _ Z λb hbf o e=>?_) (hG _ _ gd' λb o _ hb e=>b4 (cM _ _ (gN hb)) e) (by simp only[argBest,hb,if_true];exact hP) (fY _ hS' rfl)
    λv' h'' N hP' J=>?_⟩
   exact(cM _ _ (λh:S=b=>hSf (by rw[h];exact hbf))).trans e;exact hR v' h'' N hP' λb o C G e=>J b o C G (b4 (cM _ _ (gN G)) (x b o C e))
  | false =>simp only[bz,if_false];refine ae (iX ?_);rw[Ma];refine ak ⟨m9 fR _,ih (j+1) _ U c (by omega) hlt Z gd' (by simp only[argBest,hb,bz,if_false];exact Y) hS' λv' h'' N hP' J=>?_⟩;exact hR v' h'' N hP' λb o C G e=>J b o C G (x b o C e)
theorem znh{E:qV}{s:ax}{x:ah}{Q:qV}
  (h:wpAny (model prog w) A.in1 (pyIter x) (λit C=>∃(I:ai) (fp wr:List ai) (n:Nat) (P:Nat->ah->Prop) (St:Nat->bq->Prop) (bt:Nat->Nat->Bool) (Gd:bq->Prop),it=bQ I/\Walks prog w A.in1 I fp wr n P St/\St 0 C.heap/\(∀b∈fp,b<be C.heap.objs)/\0<n/\CmpH prog w A.in1 Gd P bt/\Gd C.heap /\
   (∀h h',Gd h->(∀b o,b∉wr->b≠be C.heap.objs->bi h b=ao o->bi h' b=ao o)->Gd h') /\
   ∀v h' tk,P (argBest bt (n - 1)) v->(∀b o,b∉wr->bi C.heap b=ao o->bi h' b=ao o)->Q v { C with heap:=h',toks:=tk }) E s) :
  wpAny (model prog w) A (call (dL "min") [x]) Q E s:=by
 have Ma:(toString "min" ++ toString ".loop":String) = "min.loop":=by decide
 refine call_function_tree F.kind_min F.plain_min F.entry_min (F.args_min1 _) ?_;show wpAny _ A.in1 (lU "min" ["key","default"] 0 ⟨[],[]⟩ >>= _) _ _ s;refine ae (iW (show lU "min" ["key","default"] 0 ⟨[],[]⟩=pure [bj,bj] from rfl) (ae (ak ?_)));refine ae (c8 h (λit C N=>?_) λ_ _ e=>e);obtain⟨I,fp,wr,n,P,St,bt,Gd,rfl,W,hst,hfp,hn,Mz,gd,hG,hQ⟩:=N;refine ae (cL ?_);have G:be C.heap.objs∉fp:=λhm=>gy _ (hfp _ hm);have hSw:be C.heap.objs∉wr:=λh=>G (W.sub _ h);rw[Ma];refine ak ⟨m9 fR _,?_⟩;refine fE nI ?_;rw[k8 fR _];show wpAny _ A.in1 (seqItems? (bQ C.heap.objs.size) >>= _) _ _ _;refine ae (dJ (aB _ rfl) rfl ?_);show wpAny _ A.in1 (tryCatch (pyNext (bQ I)) _ >>= _) _ _ _;refine ae (kB (W.item 0 _ _ _ hn (W.frame _ _ _ hst λb _ o e=>aj _ e) λv h' tk hP Y J=>?_));have U:=J C.heap.objs.size _ hSw (aB _ rfl);show wpAny _ A.in1 (updateSeq C.heap.objs.size (λ_=>#[v,v]) >>= _) _ _ _;refine ae (oa U rfl ?_);rw[Ma];have g1:Gd h':=hG _ _ (hG _ _ gd λb o _ _ e=>aj _ e) λb o hb _ e=>J b o hb e;refine ak ⟨m9 fR _,zni (Gd:=Gd) (bt:=bt) W Mz G hG _ 0 _ v _ rfl hn (W.frame _ _ _ Y λb hbf o e=>?_) (hG _ _ g1 λb o _ hb e=>b4 (cM _ _ (gN hb)) e) hP (fY _ U rfl) λv' h'' Z hP' S=>?_⟩;exact(cM _ _ (λh:be C.heap.objs=b=>G (by rw[h];exact hbf))).trans e;exact hQ v' h'' Z hP' λb o L e=>S b o L (aW (aE e)) (b4 (cM _ _ (lJ (aE e))) (J b o L (aj _ e)))
end
def pLt(a b:Int×Int):Bool:=HT.lexLt [a.1,a.2] [b.1,b.2]
theorem pLt_iff{a b:Int×Int}:pLt a b=du↔(a.1<b.1\/(a.1=b.1/\a.2<b.2)):=by
 have e:pLt a b=if a.1=b.1 then(if a.2=b.2 then dy else decide (a.2<b.2)) else decide (a.1<b.1):=rfl
 rw[e];by_cases h1:a.1=b.1;rw[if_pos h1];by_cases h2:a.2=b.2;rw[if_pos h2];simp;omega;rw[if_neg h2];simp;omega;rw[if_neg h1];simp;omega
theorem zgU{f:Nat->Int×Int}:∀k j,j<=k->pLt (f j) (f (argBest (λi j=>pLt (f i) (f j)) k))=false
 | 0,j,hj=>by cases xM.mp hj;simp only[argBest];rw[cN];intro z;rw[pLt_iff]at z;lia
 | k+1,j,hj=>by have l:=zgU (f:=f) k;simp only[argBest];rw[cN];intro z;split at z;rename_i hb;rcases gV hj with h|rfl;have:=l j (by lia);rw[cN]at this;apply this;rw[pLt_iff]at z hb ⊢;lia;rw[pLt_iff]at z;lia;rename_i hb;rcases gV hj with h|rfl;have:=l j (by lia);rw[cN]at this;exact this z;exact hb z
section
variable{X:Cx}{k:Nat}
theorem zou(hr:Room k X.A)(hc:X.calm=du):JX X (dL "min") (λxs H Q=>∃(a:ai) (zs:List (V×(Int×Int))),xs=[.ref a]/\SqL X.K H a (zs.map (·.1))/\zs≠[]/\(∀z∈zs,∃q,z.1=.ref q/\SqT X.K H q [.int z.2.1,.int z.2.2]) /\
  ∀z∈zs,(∀y∈zs,pLt y.2 z.2=dy)->Q z.1 H):=by
 intro pins s σ H xs us Q I r h;obtain⟨a,zs,rfl,hq,ne,hp,q⟩:=h;cases r with
 | cons C r2 =>
  cases r2;cases(show _=bQ a from C);obtain⟨its,rv,p,S⟩:=I.list hq;have cell:cA (λ(z:V×(Int×Int)) (u:ah)=>RelV z.1 u/\PrIn s.heap u z.2.1 z.2.2) zs its:=by
   have go:∀(zs:List (V×(Int×Int))) (its:List ah),(∀z∈zs,∃q,z.1=.ref q/\SqT X.K H q [.int z.2.1,.int z.2.2])->Vals (zs.map (·.1)) its->cA (λ(z:V×(Int×Int)) (u:ah)=>RelV z.1 u/\PrIn s.heap u z.2.1 z.2.2) zs its:=by
    intro zs;induction zs with
    | nil=>intro its _ r;cases r;exact ja
    | cons z zs R =>
     intro its S r;cases r with
     | cons C r2 =>obtain⟨q,U,e2⟩:=S z (jc _);refine hH ⟨C,?_⟩ (R _ (λy N=>S y (jk _ N)) r2);dsimp only at C;rw[U]at C;cases(show _=bQ q from C);exact zrG I e2
   exact go zs its hp rv
  have x:=cell.length;have at_:∀(i:Nat) (v:ah),its[i]?=ao v->∃z,zs[i]?=ao z/\RelV z.1 v/\PrIn s.heap v z.2.1 z.2.2:=by
   have go:∀{zs:List (V×(Int×Int))} {its:List ah},cA (λ(z:V×(Int×Int)) (u:ah)=>RelV z.1 u/\PrIn s.heap u z.2.1 z.2.2) zs its->∀(i:Nat) (v:ah),its[i]?=ao v->∃z,zs[i]?=ao z/\RelV z.1 v/\PrIn s.heap v z.2.1 z.2.2:=by
    intro zs its h;induction h with
    | nil=>intro i v e;simp at e
    | cons h1 _ R =>
     intro i v e;cases i with
     | zero=>cases e;exact⟨_,rfl,h1⟩
     | succ i=>exact R i v e
   exact go cell
  have Z:s.heap.IsList a (bm its):=p.isList;have Y:a<be s.heap.objs:=by obtain⟨_,e,_⟩:=Z;exact aE e
  have hu:X.A.in1.units<cLine:=by have:=hr.un;show X.A.units+1<_;lia
  refine znh (ft Z ?_);refine⟨be s.heap.objs,[be s.heap.objs,a],[be s.heap.objs],be its.toArray,_,_,λi j=>pLt ((zs[i]?.map (·.2)).getD (0,0)) ((zs[j]?.map (·.2)).getD (0,0)),λh=>∀b o,bi s.heap b=ao o->bi h b=ao o,rfl,tY (A:=X.A.in1) (I.ok.hd hc) _ a (aW Y) (bm its),
   ⟨⟨_,aB _ rfl,rfl,rfl⟩,Z.push _⟩,?_,?_,?_,λb o e=>aj _ e,?_,λv h' tk hP hk=>?_⟩
  intro b hb;simp only[ay,aS,or_false]at hb;rw[eS];rcases hb with rfl|rfl <;> lia;rw[aD,<- x];exact lH.mpr ne;intro i j vi vj s' Q' E' gd hi J hQ;obtain⟨z,G,_,pz⟩:=at_ i vi (by simpa using hi);obtain⟨y,ey,_,py⟩:=at_ j vj (by simpa using J);obtain⟨a1,o,t,t',n,e0,U,e2,e3⟩:=pz;obtain⟨a2,o',u,u',n',f0,f1,f2,f3⟩:=py;subst e0 f0;simp only[G,ey,gX,fc]at hQ;exact(show wpAny (model X.prog X.w) X.A.in1 (compareOp .Lt (bQ a1) (bQ a2)) _ E' s' from HT.zen ⟨o,gd _ _ U,e2,n,e3⟩ ⟨o',gd _ _ f1,f2,n',f3⟩ (.cons _ _ (.cons _ _ .nil)) (.cons _ _ (.cons _ _ .nil)) hu hQ);intro h h' gd kp b o e;have:=aE e;refine kp b o (λz=>?_) (λz=>?_) (gd b o e);simp only[ay,aS,or_false]at z;lia;rw[eS]at z;lia;obtain⟨z,G,rz,_⟩:=at_ _ v (by simpa using hP);refine⟨z.1,H,I.kept (pf hk),rz,q z (aQ G) λy N=>?_⟩;obtain⟨j,J⟩:=dB.mp N;have jl:=(aq.mp J).1;have:=zgU (f:=λi=>(zs[i]?.map (·.2)).getD (0,0)) (be its.toArray - 1) j (by rw[aD,<- x];lia);simp only[aD]at this G;simp only[J,G,gX,fc]at this;exact this
def ztB:GC
 | [sJ ts],R=>∃bs:List (Int×Int),ts=pD bs/\bs≠[]/\∀b∈bs,(∀c∈bs,pLt c b=dy)->R (lV [bu b.1,bu b.2])
 | _,_=>False
theorem zmC{K:qF}{hd:Option ai}{O:ai->Prop}{H:Hp}:∀{v:List V}{bs:qB},Reps K hd O H v (pD bs)->∀z∈v.zip bs,(∃q,z.1=.ref q/\SqT K H q [.int z.2.1,.int z.2.2])/\Rep K hd O H z.1 (lV [bu z.2.1,bu z.2.2])
 | _,[],r=>by cases r;intro z o;simp at o
 | _,a::bs,r=>by
  cases r with
  | cons h r =>intro z o;rcases ay.mp (by simpa using o) with rfl|o;exact⟨h.bkI,h⟩;exact zmC r z o
theorem zs4:GpC X (λxs H Q=>∃(a:ai) (zs:List (V×(Int×Int))),xs=[.ref a]/\SqL X.K H a (zs.map (·.1))/\zs≠[]/\(∀z∈zs,∃q,z.1=.ref q/\SqT X.K H q [.int z.2.1,.int z.2.2]) /\
  ∀z∈zs,(∀y∈zs,pLt y.2 z.2=dy)->Q z.1 H) ztB:=by
 intro hd O H xs ts Q R dom rs h N;unfold ztB at h;split at h;obtain⟨bs,rfl,ne,h⟩:=h;obtain⟨v,rfl,I⟩:=QR rs;obtain⟨p,u,rfl,J,G⟩:=I.lstI;have ln:fo u=fo bs:=by have:=G.length;simpa[pD] using this
 have rel:=zmC G;refine⟨p,u.zip bs,rfl,?_,λz=>?_,λz x=>(rel z x).1,λz x L=>N _ _ H (h z.2 (dZ x).2 λc hc=>?_) (Same.refl H) (rel z x).2⟩;rw[rY (by lia)];exact .of J;have:fo (u.zip bs)=0:=by rw[z];rfl
 rw[lB,ln,Nat.min_self]at this;exact ne (gL.mp this);obtain⟨j,C⟩:=dB.mp hc;have S:=(aq.mp C).1;have:(u[j]'(by lia),c)∈u.zip bs:=dB.mpr ⟨j,by rw[mI];exact⟨aw _,C⟩⟩;exact L _ this;exact e9 h
theorem zvD{bs:qB}{R:af->Prop}(ne:bs≠[])(h:∀b∈bs,(∀c∈bs,pLt c b=dy)->R (lV [bu b.1,bu b.2])):ztB [sJ (pD bs)] R:=⟨bs,rfl,ne,h⟩
end
def StG(K:qF)(mg:qM)(x:Str)(l:List Str):Prop:=∃a,mg x=ao (bQ a)/\StT K a (l.map V.str)
section
variable{X:Cx}{x:Str}{pos:Pos}{ks:List Str}
theorem zqs{ds:qD}(h:StG X.K X.mg x ks)(o:ks.map cH=ds:=by rfl)(G:Gl X x:=by rfl)(hd:Ndb x:=by rfl):DE X (bv x pos) (dC (lV ds)):=by subst o;obtain⟨a,v,st⟩:=h;exact⟨tC (.ref a),λpins s σ H Q I h=>Vd I G v ⟨.ref a,H,I,rfl,h⟩ hd,λ_ _ _ H n _ _ S h C=>C _ n _ H h ExtE.refl S.hnd (.tupS st (zg2 ks))⟩
variable{M:tJ}{A:bw}{E:qV}{s:ax}
theorem ziX{a b:ah}{Q:qV}(ha:s.TypeIs a "list") (hb:s.TypeIs b "list") (hc:wpAny M A (call (dL "list.__iadd__") [a,b]) Q E s):wpAny M A (inplaceOp .Add a b) Q E s:=by
 unfold inplaceOp;refine cu ?_;have sl:isSeqSlot (ao (dL "list.__iadd__"))=du:=by decide +kernel
 have o:fillsInplaceSlot (bU "list") "add" (Operator.Add == .Add)=pure dy:=by unfold fillsInplaceSlot;show(typeLookup (bU "list") (dunderI "add") >>= λfi=>pure (f6 fi&&!isSeqSlot fi))=pure dy;rw[kC.lookup,pure_bind,sl];rfl
 refine ae (fK ha (ae (iW o ?_)));show wpAny M A (if dy=du then _ else _) Q E s;rw[if_neg aT];refine ae (wpAny_binaryOp1_none (nm:="add") ha hb noFill_list_add ?_);refine ae (iW (PySem.seqSlot_of kC.lookup sl) ?_);exact ae (dG hc)
end
section
variable{X:Cx}{e:bg}{x:Str}{pos pos':Pos}{i:Nat}
def ipL:TIp:=λx y H Q=>∃l b xs zs,x=.ref l/\y=.ref b/\H l=ao (.lst xs)/\H b=ao (.lst zs)/\fo xs+fo zs<=sizeLine/\Q (.ref l) (upd H l (.lst (xs++zs)))
theorem zsM:PIp X .Add ipL:=by
 intro pins s σ H x y v u Q I N C h;obtain⟨l,b,xs,zs,rfl,rfl,J,U,hz,q⟩:=h;cases N;cases C;obtain⟨z,its,n,r,Y,e⟩:=I.lstM J;obtain⟨Z,o,S,C,L,G⟩:=I.lstM U;have hsz:be its.toArray+be o.toArray<=sizeLine:=by rw[aD,aD];omega
 have R:¬(!its.toArray.isEmpty&&iD (be its.toArray+be o.toArray))=du:=by rw[zpI hsz,ko];exact aT
 refine ziX ⟨_,e,rfl⟩ ⟨_,G,rfl⟩ (call_meets kC ⟨_,e,rfl⟩ PySem.F.entry_list_iadd (PySem.F.args_list_iadd_2 _ _)
  (AutoSeq1.list___iadd___list_list_0 l (bm its) n b (bm o) S R (by rw[aD];omega) (by omega)) ⟨e,G,?_⟩)
 refine⟨.ref l,_,I.lset (its':=its++o) J e (by simp) (r.append C) ?_,rfl,q⟩;rw[aO];omega
def VU(i:Nat)(d:DTA):DTS:=λD l n=>match l[i]? with
 | some (ao (.own ts))=>d l n λus u=>fo ts+fo us<=16777216/\D.nx (ce l i (ao (.own (ts++us)))) u
 | _=>False
theorem set_same{α:Type}{l:List α}{i:Nat}{a:α}(h:l[i]?=ao a):ce l i a=l:=by refine mP λj=>?_;rw[gu];split;rename_i e;subst e;have:=(aq.mp h).1;rw[if_pos this,h];rfl
theorem zn0{d:DTA}(hN:X.N.Nodup)(hi:X.N[i]?=ao x)(hx:Loc (d0 X.env) x)(h:DN X e d)(hf:Fnl X x:=by walk_at "F") :
  DS X (jC (bv x pos') .Add e pos) (VU i d):=by
 obtain⟨ta,pa,h⟩:=h;refine⟨_,zq4 hN hi hx pa zsM hf,λC U σ H n D D' S hd g=>?_⟩;unfold VU at hd;split at hd;rename_i ts J;obtain⟨p,vs,G,h2,h3,h4⟩:=S.own i ts J;refine⟨.ref p,G,h C U σ H n _ _ S hd λus n' p2 ws H' r e1 hn hp L q=>?_⟩;have Y:=S.on e1 hn;obtain⟨p',R,v,I,o,h4'⟩:=Y.own i ts J;rw[G]at v;cases v;have Z:Reps X.K C.hd (Own C U σ) H' ws us:=q.mono (λ_ _ _ z=>dY z) λ_ _ _ z=>z;refine⟨p,p2,R,ws,rfl,rfl,I,L,by rw[o.length,Z.length];exact r.1,?_⟩;obtain⟨S2,k2⟩:=Y.chg J G (o.append Z);rw[set_same G];exact g.nx _ _ _ n' r.2 S2 (e1.keep.trans k2);exact e9 hd
variable{ρ:En}{n:Nat}{d:DTA}{D:JY}{ts:qD}
instance zzL [h:GetN ρ i (ao (.own ts))]:Stp (VU i d D ρ n) (d ρ n λus n'=>fo ts+fo us<=16777216/\SetK i (ao (.own (ts++us))) D.nx ρ n'):=⟨λk=>by unfold VU;rw[h.e];exact k⟩
end
section
variable{tg tg2:DTG}{tt tt2:DTT}{d:DTE}{di2:DTA}{ρ0:En}{n:Nat}
theorem zgP{α:Type}{cs:List α}{D:α->af}{Rl:qD->Nat->Prop}(F:α->af)
  (step:∀b∈cs,∀(K:qN) (X:Nat->Prop),K (F b) n->tg (D b) ρ0 λo=>tt o n λc u=>if c=du then d o u K else X u) :
  ∀(xs:List α) (acc:qD),(∀x∈xs,x∈cs)->fo acc+fo xs<=16777216->Rl (acc++xs.map F) n->Qb tg tt d ρ0 (xs.map D) acc n Rl
 | [],acc,_,_,h=>by
  have h:Rl acc n:=by simpa using h
  exact h
 | x::xs,acc,hx,hl,h=>by
  have C:fo acc+(fo xs+1)<=16777216:=hl;exact step x (hx x (jc _)) (λt G=>fo acc<16777216/\Qb tg tt d ρ0 (xs.map D) (acc++[t]) G Rl) (λu=>Qb tg tt d ρ0 (xs.map D) acc u Rl)
   ⟨by omega,zgP (cs:=cs) F step xs _ (λy v=>hx y (jk _ v)) (by simp;omega) (by simpa using h)⟩
theorem zol{α C:Type}{cs:List α}{D:α->af}{G:C->af}{P:α->List C->Prop}{Rl:qD->Nat->Prop}(m:Nat)(S:∀b us,P b us->fo us<=m)
  (step:∀b∈cs,∀(acc:qD) (K:qD->Nat->Prop) (X:Nat->Prop),fo acc<=m*fo cs->(∀us,P b us->K (acc++us.map G) n)->tg (D b) ρ0 λu=>tt u n λc v=>if c=du then di2 u v λts Z=>Qb tg2 tt2 d u ts acc Z K else X v)
  (fin:∀o:List (List C),fo o=fo cs->(∀(i:Nat) b us,cs[i]?=ao b->o[i]?=ao us->P b us)->Rl (o.flatten.map G) n):U2 tg tt di2 tg2 tt2 d ρ0 (cs.map D) [] n Rl:=by
 have key:∀(xs:List α) (acc:qD) (R:qD->Nat->Prop),(∀x∈xs,x∈cs)->fo acc+m*fo xs<=m*fo cs->(∀o:List (List C),fo o=fo xs->(∀(i:Nat) b us,xs[i]?=ao b->o[i]?=ao us->P b us)->R (acc++o.flatten.map G) n)->U2 tg tt di2 tg2 tt2 d ρ0 (xs.map D) acc n R:=by
  intro xs;induction xs with
  | nil =>
   intro acc R _ _ h;have h:R acc n:=by simpa using h [] rfl (λi b us e=>by simp at e)
   exact h
  | cons x xs ih =>
   intro acc R hx N h;have Y:fo acc+(m*fo xs+m)<=m*fo cs:=N;refine step x (hx x (jc _)) acc _ (λv=>U2 tg tt di2 tg2 tt2 d ρ0 (xs.map D) acc v R) (by omega) λus J=>?_;refine ih (acc++us.map G) R (λy U=>hx y (jk _ U)) (by have:=S x us J;simp;omega) λo el pw=>?_;have:=h (us::o) (by simp[el]) λi b L I ev=>by
    cases i with
    | zero=>cases I;cases ev;exact J
    | succ i=>exact pw i b L I ev
   simpa[aM] using this
 exact key cs [] Rl (λ_ h=>h) (by simp) (by simpa using fin)
end
section
variable{X:Cx}{scope:fS}{own:List Str}{capt:List Nat}{kx vx tg iter:bg}{ifs:List bg}{pos:Pos}{i:Nat}{x:Str}{pos' Ln:Pos}
theorem znZ{J:DTA}{is:List Nat}{g:DTG}{tt:DTT}{tk L:DTE}(hN:X.N.Nodup)(I:X.N[i]?=ao x)(hx:Loc (d0 X.env) x)(hu:X.A.units+1<cLine)(hc:X.calm=du)(S:JB scope own capt X)(hi:DIL X tg iter J)
  (hg:Fam X scope own capt λY=>DG Y tg is g) (G:∀i∈is,i<fo own) (ht:Fam X scope own capt λY=>DTs Y ifs tt) (hk:Fam X scope own capt λY=>DE Y kx tk) (he:Fam X scope own capt λY=>DE Y vx L)
  (hs:Fsi X iter:=by intro _;rfl) (l:swapsWith (jv kx vx [⟨tg,iter,ifs,0⟩] scope pos) (ao (bv x pos')) Ln.line X.env=pure du:=by rfl)
  (hf:Fnl X x:=by walk_at "F") :
  DS X (ii [bv x pos'] (jv kx vx [⟨tg,iter,ifs,0⟩] scope pos) Ln) (sSet i (Wa (fo own) capt J g tt tk L)):=by
 obtain⟨ge,_,q,sp⟩:=zqA hu hc S hi hg G ht hk he hs;refine⟨_,q hN I hx l hf,λC U σ H n D D' S hd g=>?_⟩;refine sp C U σ H n _ _ S hd λt Z v H' r R h1 q=>?_;exact g.nx _ _ H' Z r ((S.on R h1).put q) (R.keep.trans QT)
end
theorem zj_{u:KT2}{k:Int×Int}:f6 (valT u k)=du↔k∈u.map (·.1):=by unfold valT;rw[rF,List.find?_isSome];constructor;rintro⟨z,l,e⟩;exact aA.mpr ⟨z,l,of_decide_eq_true e⟩;intro h;obtain⟨z,l,e⟩:=aA.mp h;exact⟨z,l,decide_eq_true e⟩
theorem zfL{α:Type}{F:α->Int×Int}{G:α->af}{k:Int×Int}:∀{cs:List α}{acc:KT2},k∈(cs.foldl (λacc b=>putT acc (F b) (G b)) acc).map (·.1)↔k∈acc.map (·.1)\/k∈cs.map F
 | [],acc=>by simp
 | c::cs,acc=>by rw[gY,zfL (cs:=cs),aU,ay];rcases zmL (acc:=acc) (k:=F c) (t:=G c) with⟨e,h⟩|⟨e,h⟩;rw[e];constructor;rintro(z|z);exact dY z;exact sr (sr z);rintro(z|rfl|z);exact dY z;exact dY h;exact sr z;rw[e,au,av,or_assoc]
section
variable{tg:DTG}{tt:DTT}{tk tv:DTE}{ρ0:En}{n:Nat}{Rt:KT2->Nat->Prop}
theorem zi6{α:Type}{cs:List α}{D:α->af}(p:α->Bool)(F:α->(Int×Int))(G:α->af)(C:fo cs<16777216)
  (step:∀b∈cs,∀(K:af->Nat->qN) (X:Nat->Prop),(p b=du->K (blkT (F b)) n (G b) n)->(p b=dy->X n)->tg (D b) ρ0 λu=>tt u n λc v=>if c=du then tk u v λy N=>tv u N λt L=>K y N t L else X v)
  (fin:Rt ((cs.filter p).foldl (λacc b=>putT acc (F b) (G b)) []) n):Zm tg tt tk tv ρ0 (cs.map D) [] n Rt:=by
 have len:∀(acc:KT2) k t,fo (putT acc k t)<=fo acc+1:=λacc k t=>by unfold putT;split;rw[aG];exact mS _;simp
 have key:∀(xs:List α) (acc:KT2),(∀x∈xs,x∈cs)->fo acc+fo xs<16777216->Rt ((xs.filter p).foldl (λacc b=>putT acc (F b) (G b)) acc) n->Zm tg tt tk tv ρ0 (xs.map D) acc n Rt:=by
  intro xs;induction xs with
  | nil=>intro acc _ _ h;exact h
  | cons x xs R =>intro acc hx C h;have S:fo acc+(fo xs+1)<16777216:=C;refine step x (hx x (jc _)) (λy _ t L=>lBlk y λk=>fo acc<16777216/\Zm tg tt tk tv ρ0 (xs.map D) (putT acc k t) L Rt) (λv=>Zm tg tt tk tv ρ0 (xs.map D) acc v Rt) (λI=>?_) λI=>?_;rw[List.filter_cons_of_pos I]at h;exact⟨F x,rfl,by lia,R _ (λy J=>hx y (jk _ J)) (by have:=len acc (F x) (G x);lia) h⟩;rw[List.filter_cons_of_neg (by rw[I];exact aT)]at h;exact R _ (λy J=>hx y (jk _ J)) (by lia) h
 exact key cs [] (λ_ h=>h) (by simpa using C) fin
end
end L2
namespace Bd
open PySem PySem.W PySem.Calls L2 PyProof.Rows
def Wc:List ah->List Str->Bool
 | [],[]=>true
 | kI x _::r,y::z=>decide (x=y)&&Wc r z
 | _,_=>false
theorem zjW{C:List ah}{u:List Str}(h:Wc C u=du):Vals (u.map V.str) C:=by
 induction C generalizing u with
 | nil=>cases u with
  | nil=>exact ja
  | cons y z=>cases h
 | cons v r G=>cases v with
  | str x t=>cases u with
   | nil=>cases h
   | cons y z =>have g:(decide (x=y)&&Wc r z)=du:=h;rw[aF,decide_eq_true_eq]at g;exact hH ⟨t,by rw[g.1]⟩ (G g.2)
  | _=>cases h
def tupO(h:bq)(l:List Str):ah->Bool
 | bQ a=>(match bi h a with
  | some ⟨bU c,bj,im vs _,_⟩=>decide (c = "tuple")&&decide (be vs<=100)&&Wc (nK vs) l
  | _=>dy)
 | _=>false
def V5(l:List (Str×List Str))(s:ax):Bool:=l.all λq=>(s.heap.nsMap mainGlobals q.1).any (tupO s.heap q.2)
def TupsAre(l:List (Str×List Str))(mg:qM)(h:bq):Prop:=∀q∈l,∃v,mg q.1=ao v/\tupO h q.2 v=true
theorem ztT{l:List (Str×List Str)}{s:ax}(x:V5 l s=du):TupsAre l (s.heap.nsMap mainGlobals) s.heap:=λq o=>by
 have e:=bM.mp x q o;cases g:s.heap.nsMap mainGlobals q.1 with
 | none=>rw[g]at e;cases e
 | some v=>rw[g]at e;exact⟨v,rfl,e⟩
theorem zhR{h h':bq}{l:List Str}{v:ah}(x:tupO h l v=du)(k:∀b o,bi h b=ao o->bi h' b=ao o):tupO h' l v=du:=by
 unfold tupO at x ⊢;split at x;rename_i a;cases e:bi h a with
 | none=>rw[e]at x;cases x
 | some o=>rw[e]at x;rw[k _ _ e];exact x
 cases x
theorem TupsAre.keeps{l:List (Str×List Str)}{mg:qM}{h h':bq}(x:TupsAre l mg h)(k:∀b o,bi h b=ao o->bi h' b=ao o):TupsAre l mg h':=λq u=>by obtain⟨v,a,b⟩:=x q u;exact⟨v,a,zhR b k⟩
theorem TupsAre.st{o:List (Str×List Str)}{mg:qM}{h:bq}(x:TupsAre o mg h){n:Str}{l:List Str}(m:(n,l)∈o):StG (J5 h) mg n l:=by obtain⟨v,a,b⟩:=x _ m;unfold tupO at b;split at b;rename_i p;split at b;rename_i c u C sl e;simp only[aF,decide_eq_true_eq]at b;obtain⟨⟨rfl,I⟩,G⟩:=b;exact⟨p,a,_,u,C,VE e,rfl,rfl,ba I (by decide),zjW G,rfl⟩;cases b;cases b
end Bd
namespace L2
open PySem PySem.Spec PyProof.Rows
def ndup:List Str->Bool
 | []=>true
 | x::l=>!l.any (λy=>decide (x=y))&&ndup l
theorem ndB{l:List Str}(h:ndup l=du):l.Nodup:=by
 induction l with
 | nil=>exact mO
 | cons x l o =>simp only[ndup,aF,i9,pR,decide_eq_true_eq]at h;exact eU.mpr ⟨λm=>h.1 x m rfl,o h.2⟩
def fnB(N P:List Str)(sc:fS):Bool:=(match sc.kind with|je=>du|_=>dy)&&!sc.isCoroutine&&!sc.isGenerator&&ndup N&&decide (N.take (fo P)=P)&&P.all (λx=>decide (sc.names.lookup x=ao .local\/sc.names.lookup x=ao kT))&&sc.names.all λy=>decide (y.2≠cV)
theorem fnS{N P:List Str}{sc:fS}(h:fnB N P sc=du):UY N P sc:=by simp only[fnB,aF,i9,decide_eq_true_eq,bM]at h;obtain⟨⟨⟨⟨⟨⟨a,b⟩,c⟩,d⟩,e⟩,f⟩,g⟩:=h;exact⟨(by cases q:sc.kind <;> rw[q]at a <;> first|rfl|(exact nomatch a)),b,c,ndB d,e,f,g⟩
section
variable{X:Cx}{x:Str}{e:bg}{es:List bg}{d:DTE}{ds:DTA}{pos pos':Pos}
theorem dlv(i:Nat)(o:X.N[i]?=ao x:=by rfl)(u:Vis (d0 X.env) x:=by walk_at "V")(hd:Ndb x:=by rfl)
  (l:Ncd x:=by rfl):DL X (bv x pos) (dVar i):=dl (Jh i o u hd l)
theorem dli{i j}:DL X (jf (.int i) j pos) (dC (bu i)):=dl Ji
theorem dbc(h:DE X e d)(l:DB X es ds)(o:starEach (e::es) X.env=(dy,eval e X.env)::starEach es X.env:=by rfl):DB X (e::es) (JZ d ds):=zob h l o
theorem dbv(i:Nat)(o:DB X es ds)(u:X.N[i]?=ao x:=by rfl)(v:Vis (d0 X.env) x:=by walk_at "V")(hd:Ndb x:=by rfl)
  (l:Ncd x:=by rfl):DB X (bv x pos::es) (JZ (dVar i) ds):=zob (Jh i u v hd l) o rfl
theorem dsv(i:Nat)(l:X.N.Nodup)(h:DE X e d)(hi:X.N[i]?=ao x:=by rfl)(hx:Loc (d0 X.env) x:=by first|exact dY rfl|exact sr rfl)(o:swapsWith e (ao (bv x pos')) pos.line X.env=pure dy:=by rfl)
  (hf:Fnl X x:=by walk_at "F"):DS X (ii [bv x pos'] e pos) (sSet i d):=zwC l hi hx h o hf
theorem dgv(i:Nat)(l:X.N.Nodup)(hi:X.N[i]?=ao x:=by rfl)(hx:Loc (d0 X.env) x:=by first|exact dY rfl|exact sr rfl)(hf:Fnl X x:=by walk_at "F"):DG X (bv x pos) [i] (Qe i):=ztk l hi hx hf
variable{scope:fS}{iter elt:bg}{ifs:List bg}{tg:bg}{is:List Nat}{di:DTA}{g:DTG}{tt:DTT}{te:DTE}
theorem dnc(own:List Str)(capt:List Nat)(hi:DIL X tg iter di)(v:Fam X scope own capt λY=>DG Y tg is g)(he:Fam X scope own capt λY=>DE Y elt te)
  (hc:X.calm=du:=by rfl) (h:WT scope (d0 X.env) X.N capt=du:=by rfl) (l:∀i∈is,i<fo own:=by decide) (u:Fsi X iter:=by intro _;rfl):DN X (i3 elt [⟨tg,iter,[],0⟩] scope pos) (dComp (fo own) capt di g dYes te) :=
 zn2 hc (JB.of h) hi v l (λ_ _ _ _=>U3) he u
theorem dnf(own:List Str)(capt:List Nat)(hi:DIL X tg iter di)(x:Fam X scope own capt λY=>DG Y tg is g)(u:Fam X scope own capt λY=>DTs Y ifs tt)(he:Fam X scope own capt λY=>DE Y elt te)
  (hc:X.calm=du:=by rfl) (h:WT scope (d0 X.env) X.N capt=du:=by rfl) (l:∀i∈is,i<fo own:=by decide) (v:Fsi X iter:=by intro _;rfl):DN X (i3 elt [⟨tg,iter,ifs,0⟩] scope pos) (dComp (fo own) capt di g tt te) :=
 zn2 hc (JB.of h) hi x l u he v
end
end L2
namespace Bd
open PySem PySem.W PySem.Calls L2 PyProof.Rows
theorem okN{Z:ZZ}{x:Str}{st:e8}{ps:List Str}{k m:Nat}{g:GD}(N:List Str)(D:Dq Z.K Z.mg x st ps)
  (hb:∀{f:ai} {l:ah} {A:bw} {outer:List Env} {s:ax} {H:Hp} {E:XK},Room k (A.deeper (envOfC x (JT st) s.heap.objs.size f l))->∃d,DSs (cxOf CX0 Z.P Z.w Z.K Z.mg Z.base N x (JT st) f l A outer s H E).nox (Qu st) d /\
   ∀ts n R,fo ts=m->g ts n R->d { nx:=λ_ v=>R fq v,rt:=R } (Qm N ts) n) (S:fnB N ps (JT st)=du:=by decide +kernel) (C:m=fo ps:=by rfl):FQ Z x st ps (k+1) (spD Z.K m g):=okQ D (fnS S) C λ_ _ _ _ _ _ _ u=>hb u
end Bd
namespace Bd
open PySem PySem.W PySem.Calls L2 PyProof.Rows
def QI(h:bq):ah->Option (List eI)
 | bQ a=>if a == sysModules then bj else(match bi h a with
  | some ⟨bU c,bj,jt es _,sl⟩=>if decide (c = "dict")&&decide (be sl=0) then ao (nK es) else bj
  | _=>bj)
 | _=>bj
theorem zeC{h h':bq}{v:ah}{l:List eI}(x:QI h v=ao l)(k:∀b o,bi h b=ao o->bi h' b=ao o):QI h' v=ao l:=by
 unfold QI at x ⊢;split at x;rename_i a;split at x;cases x;rename_i q;rw[if_neg q];cases e:bi h a with
 | none=>rw[e]at x;cases x
 | some o=>rw[e]at x;rw[k _ _ e];exact x
 cases x
theorem zkU{h:bq}{v:ah}{o:List eI}(x:QI h v=ao o):∃a ar l,v=bQ a/\(a == sysModules)=dy/\bi h a=ao ⟨bU "dict",bj,jt ar l,#[]⟩/\nK ar=o:=by unfold QI at x;split at x;rename_i a;split at x;cases x;rename_i q;split at x;rename_i c ar l sl e;split at x;rename_i z;simp only[aF,decide_eq_true_eq]at z;obtain⟨rfl,u⟩:=z;have:sl=#[]:=Array.eq_empty_of_size_eq_zero u;subst this;cases x;exact⟨a,ar,l,rfl,by simpa using q,e,rfl⟩;cases x;cases x;cases x
def keyO(k:Str):ah->Bool
 | kI x _=>decide (x=k)
 | _=>false
def UX(h:bq):List eI->List (Str×List Str)->Bool
 | [],[]=>true
 | e::r,q::z=>keyO q.1 e.key&&tupO h q.2 e.val&&UX h r z
 | _,_=>false
def zul:ah->Option ah->Bool
 | bQ a,ao (bQ b)=>a == b
 | _,_=>false
def ZE(mg:qM):List eI->List Str->Bool
 | [],[]=>true
 | e::r,k::z=>keyO k e.key&&zul e.val (mg k)&&ZE mg r z
 | _,_=>false
abbrev PLs:=List (Str×List (Str×List Str))
abbrev FLs:=List (Str×List Str)
def VJ(pl:PLs)(fl:FLs)(s:ax):Bool :=
 (pl.all λq=>(s.heap.nsMap mainGlobals q.1).any λv=>(QI s.heap v).any λl=>UX s.heap l q.2)&&fl.all λq=>(s.heap.nsMap mainGlobals q.1).any λv=>(QI s.heap v).any λl=>ZE (s.heap.nsMap mainGlobals) l q.2
structure DctsAre(pl:PLs)(fl:FLs)(mg:qM)(h:bq):Prop where
 p:∀q∈pl,∃v es,mg q.1=ao v/\QI h v=ao es/\UX h es q.2=true
 f:∀q∈fl,∃v es,mg q.1=ao v/\QI h v=ao es/\ZE mg es q.2=true
theorem Wm{α:Type}{o:Option α}{p:α->Bool}(h:o.any p=du):∃v,o=ao v/\p v=du:=by
 cases o with
 | none=>cases h
 | some v=>exact⟨v,rfl,h⟩
theorem zwM{pl:PLs}{fl:FLs}{s:ax}(x:VJ pl fl s=du):DctsAre pl fl (s.heap.nsMap mainGlobals) s.heap:=by obtain⟨a,b⟩:=cO.mp x;refine⟨λq u=>?_,λq u=>?_⟩;obtain⟨v,e,y⟩:=Wm (bM.mp a q u);obtain⟨o,l,y⟩:=Wm y;exact⟨v,o,e,l,y⟩;obtain⟨v,e,y⟩:=Wm (bM.mp b q u);obtain⟨o,l,y⟩:=Wm y;exact⟨v,o,e,l,y⟩
theorem zfr{h h':bq}(k:∀b o,bi h b=ao o->bi h' b=ao o):∀{es ks},UX h es ks=du->UX h' es ks=true
 | [],[],_=>rfl
 | e::r,q::z,x=>by simp only[UX,aF]at x ⊢;exact⟨⟨x.1.1,zhR x.1.2 k⟩,zfr k x.2⟩
theorem DctsAre.keeps{pl:PLs}{fl:FLs}{mg:qM}{h h':bq}(x:DctsAre pl fl mg h)(k:∀b o,bi h b=ao o->bi h' b=ao o):DctsAre pl fl mg h' :=
 ⟨λq l=>let ⟨v,es,a,b,c⟩:=x.p q l;⟨v,es,a,zeC b k,zfr k c⟩,λq l=>let ⟨v,es,a,b,c⟩:=x.f q l;⟨v,es,a,zeC b k,c⟩⟩
def hshs(dl:FLs)(h:bq):List (Option (List Int)):=dl.map λq=>((globalOf h q.1).bind (QI h)).map (oG (·.hash))
def hshW(dl:FLs)(w:aV):List (Option (List Int)):=dl.map λq=>ao (q.2.map (hashStr w))
def HshOk(dl:FLs)(w:aV)(h:bq):Prop:=∀q∈dl,((globalOf h q.1).bind (QI h)).map (oG (·.hash))=ao (q.2.map (hashStr w))
theorem zwm{dl:FLs}(w:aV)(s:ax)(e:hshs dl s.heap=hshW dl w):HshOk dl w s.heap:=by unfold hshs hshW at e;intro q l;exact List.map_inj_left.mp e q l
theorem zhs{h h':bq}{x:Str}{v:ah}(e:globalOf h x=ao v)(k:∀b o,bi h b=ao o->bi h' b=ao o):globalOf h' x=ao v:=by
 unfold globalOf at e ⊢;cases g:bi h mainNs with
 | none=>rw[g]at e;cases e
 | some o=>rw[g]at e;rw[k _ _ g];exact e
theorem zp_{dl:FLs}(w:aV)(h h':bq)(x:HshOk dl w h)(k:∀b o,bi h b=ao o->bi h' b=ao o):HshOk dl w h':=λq l=>by
 have e:=x q l;cases g:globalOf h q.1 with
 | none=>rw[g]at e;cases e
 | some v =>
  rw[g]at e;rw[zhs g k];simp only[sF]at e ⊢;cases g2:QI h v with
  | none=>rw[g2]at e;cases e
  | some u=>rw[g2]at e;rw[zeC g2 k];exact e
theorem HshOk.at{dl:FLs}{w:aV}{h:bq}{mg:qM}(x:HshOk dl w h)(G:h.Ns mainGlobals mg){n:Str}{o:List Str}(m:(n,o)∈dl){v:ah}{l:List eI}(e:mg n=ao v)(d:QI h v=ao l):l.map (·.hash)=o.map (hashStr w):=by have y:=x _ m;rw[Claim2Try.globalOf_of_ns G,e]at y;simp only[sF]at y;rw[d]at y;exact aX y
theorem znv{k:Str}{v:ah}(h:keyO k v=du):∃t,v=kI k t:=by
 unfold keyO at h;split at h;rename_i x t;have:x=k:=by simpa using h
 subst this;exact⟨t,rfl⟩;cases h
theorem zkn{w:aV}{h:bq}:∀{u:List eI}{v:List (Str×List Str)},UX h u v=du->u.map (·.hash)=(v.map (·.1)).map (hashStr w)->cA (PtE w (J5 h)) u v
 | [],[],_,_=>ja
 | e::r,q::z,x,y=>by
  simp only[UX,aF]at x;obtain⟨⟨C,G⟩,I⟩:=x;simp only[aU,eh]at y;have s:TupsAre [(q.1,q.2)] (λ_=>ao e.val) h:=λp L=>by cases av.mp L;exact⟨_,rfl,G⟩
  obtain⟨b,J,st⟩:=s.st (av.mpr rfl);exact hH ⟨y.1,znv C,b,aX J,st⟩ (zkn I y.2)
theorem DctsAre.st{pl:PLs}{fl dl:FLs}{P:aK}{w:aV}{mg:qM}{h:bq}(x:DctsAre pl fl mg h)(y:HshOk dl w h)(G:h.Ns mainGlobals mg){n:Str}{l:List (Str×List Str)}(m:(n,l)∈pl)(m2:(n,l.map (·.1))∈dl)(nd:(l.map (·.1)).Nodup):StD P w (J5 h) mg n l:=by obtain⟨v,J,a,b,c⟩:=x.p _ m;have C:=y.at G m2 a b;obtain⟨ad,ar,I,rfl,ns,e,rfl⟩:=zkU b;exact zt1 a ns (VE e) (zkn c C) nd
def StF(P:aK)(w:aV)(K:qF)(mg:qM)(x:Str)(G:List Str):Prop :=
 ∃(a:ai) (o:Obj) (l:Array eI) (C:Nat) (v:List (Str×ah)),mg x=ao (bQ a)/\(a == sysModules)=dy/\K.lookup a=ao o/\o.ExactDict/\io o=jt l C/\KeysOf (strKind P w) l/\Pairs (strKind P w) (nK l) v/\(v.map (·.1)).Nodup /\
  ∀k∈G,∃f,valueAt v k=ao (bQ f)/\mg k=ao (bQ f)
theorem znP{P:aK}{w:aV}{mg:qM}:∀{I:List eI}{G:List Str},ZE mg I G=du->I.map (·.hash)=G.map (hashStr w) ->
  ∃v,Pairs (strKind P w) I v/\v.map (·.1)=G/\(∀e∈I,∃k,(strKind P w).is k e.key=du/\e.hash=(strKind P w).hash k)/\∀k∈G,∃f,(k,bQ f)∈v/\mg k=ao (bQ f)
 | [],[],_,_=>⟨[],.nil,rfl,(λe h=>nomatch h),λk h=>nomatch h⟩
 | e::r,q::z,x,y=>by
  simp only[ZE,aF]at x;obtain⟨⟨S,C⟩,J⟩:=x;simp only[aU,eh]at y;obtain⟨v,a1,a2,Y,L⟩:=znP (P:=P) J y.2;obtain⟨t,U⟩:=znv S;have u:(strKind P w).is q e.key=du:=by rw[U];show dS q (kI q t)=du;simp[dS]
  refine⟨(q,e.val)::v,.cons u rfl a1,by simp[a2],λN he=>?_,λk u=>?_⟩;rcases ay.mp he with rfl|he;exact⟨q,u,y.1⟩;exact Y N he;rcases ay.mp u with rfl|u;unfold zul at C;split at C;rename_i a b Z R;have:a=b:=by simpa using C
  subst this;exact⟨a,by rw[Z];exact jc _,R⟩;cases C;obtain⟨f,m,g⟩:=L k u;exact⟨f,jk _ m,g⟩
theorem zjh{l:List (Str×ah)}(nd:(l.map (·.1)).Nodup){k:Str}{v:ah}(m:(k,v)∈l):valueAt l k=ao v:=by
 induction l with
 | nil=>exact nomatch m
 | cons p l x =>rw[aU,eU]at nd;rcases ay.mp m with rfl|m;simp[valueAt,eW];have ne:¬p.1=k:=λz=>nd.1 (z▸aA.mpr ⟨_,m,rfl⟩);have:=x nd.2 m;simpa[valueAt,eW,ne] using this
theorem DctsAre.sf{pl:PLs}{fl dl:FLs}{P:aK}{w:aV}{mg:qM}{h:bq}(x:DctsAre pl fl mg h)(y:HshOk dl w h)(G:h.Ns mainGlobals mg){n:Str}{C:List Str}(m:(n,C)∈fl)(m2:(n,C)∈dl)(nd:C.Nodup):StF P w (J5 h) mg n C:=by
 obtain⟨v,Z,a,b,c⟩:=x.f _ m;have J:=y.at G m2 a b;obtain⟨ad,ar,S,rfl,ns,e,rfl⟩:=zkU b;obtain⟨I,a1,a2,U,L⟩:=znP (P:=P) c J;have l:(I.map (·.1)).Nodup:=by rw[a2];exact nd
 refine⟨ad,_,ar,S,I,a,ns,VE e,⟨rfl,rfl,rfl⟩,rfl,λR he=>U R (by simpa using he),a1,l,λk Y=>?_⟩;obtain⟨f,m,g⟩:=L k Y;exact⟨f,zjh l m,g⟩
theorem zxB{lw:PySem.W.OpenLaw}{q:aK}{loose:List Str}{XP:(Str->Option ah)->bq->Prop}{YP:aV->bq->Prop}{d:DefRec}{k:Nat}(hk:k<=60)(hn:lw.most=ao 63)(J:d.params.defaults=[])
  (F:∀(w:aV) (s₀:ax) (mg N:qM) (C:ai) (h:bq),Ground q loose [] XP w s₀ mg N h->YP w h->mg d.name=ao (bQ C) ->
   ∃fd:dU,(∀(s:ax) (u:ah),tE s fd ⟨[u],[]⟩ [("_law_script",u)])/\∀base:bq,(J5 h).In base->base.Ns mainGlobals mg->FnOk lw.prog w (J5 h) mg base CX0 k C fd ["_law_script"] (zrH (J5 h))) :
  PySem.W.WalkO q loose XP YP lw.row.toRowW d [] (λf R=>yZ f R):=by
 refine Att.attach_call hn J λw s₀ S mg N C o pm cd doc a R ns G Y ho hd hcd L x v l hg=>?_;obtain⟨fd,hb,Z⟩:=F w s₀ mg N C _ G Y L;exact zpT zma G.T.g G.T.b G.T.builtins G.T.nolimit hg x v (ba l (by decide)) ((show Room 60 callerA from⟨rfl,by decide,by decide,rfl⟩).mono hk) Z hb (λH hO U=>⟨a,ns,rfl,U,l,λ_=>rfl⟩) λH e s' z=>z
end Bd
namespace L2
open PySem PySem.Spec PyProof.Rows
theorem znY{X:Cx}{st:e8}:DS X st (λ_ _ _=>False):=⟨_,zpq,λ_ _ _ _ _ _ _ _ h _=>e9 h⟩
section
variable{K:qF}{C:Ctx}{ρ:En}{σ:St}{H:Hp}{n:Nat}
theorem zkq{i:Nat}{v:V}(hi:ρ[i]?=ao bj){a:ai}:Own C ρ (ce σ i (ao v)) a↔Own C ρ σ a:=by
 have key:OwnS ρ (ce σ i (ao v)) a↔OwnS ρ σ a:=by
  constructor;rintro⟨j,c,m,l,o⟩;have ne:i≠j:=λz=>by subst z;rw[hi]at l;cases l
  rw[cq ne]at o;exact⟨j,c,m,l,o⟩;rintro⟨j,c,m,l,o⟩;have ne:i≠j:=λz=>by subst z;rw[hi]at l;cases l
  exact⟨j,c,m,l,by rw[cq ne];exact o⟩
 unfold Own;rw[key]
theorem Stt.hole{i:Nat}{v:V}(hi:ρ[i]?=ao bj)(S:Stt K C ρ σ H n):Stt K C ρ (ce σ i (ao v)) H n:=by
 have l:Own C ρ (ce σ i (ao v))=Own C ρ σ:=funext λa=>propext (zkq hi);have ne:∀{j:Nat} {c:Cell},ρ[j]?=ao (ao c)->(ce σ i (ao v))[j]?=σ[j]?:=λ{j c} h=>cq λz=>by subst z;rw[hi]at h;cases h
 refine⟨by rw[iJ];exact S.len,λj d h=>?_,λj d h=>?_,λj d h=>?_,λj d h=>?_,λj d h=>?_,λj k c e a m1 m2 u x o G=>?_,S.hnd,S.ext,S.hx⟩;rw[l,ne h];exact S.val j d h;rw[l,ne h];exact S.own j d h;rw[l,ne h];exact S.dct j d h;rw[l,ne h];exact S.rdo j d h;rw[l,ne h];exact S.dtt j d h;rw[ne u]at o;rw[ne x]at G;exact S.dif j k c e a m1 m2 u x o G
end
section
variable{X:Cx}{e:bg}{es:List bg}{x y:Str}{pos p1 p2 p3 p4 p5 p6:Pos}{e1:bg}{d:DTE}{te:TE}{t:TA}{ks:List Str}{ds:DTA}{i m n:Nat}
def zxI(X:Cx)(ks:List Str)(te:TE):TE:=λσ H Q=>te σ H λy l=>∃z,y=.str z/\z∈ks/\∀f,X.mg z=ao (bQ f)->Q (.ref f) l
theorem zr4(h:Bd.StF X.prog X.w X.K X.mg x ks)(hg:Gl X x)(he:PE X e te)(hs:NoSl e)(hd:Ndb x:=by rfl):PE X (ed (bv x p1) e pos) (zxI X ks te):=by obtain⟨a,o,es,R,C,h1,h2,G,h4,h5,h6,J,Y,h9⟩:=h;intro pins s σ H Q I hw;refine zmj mL.lookup hs (Vd I hg h1 (thn (he pins s σ H _ I hw) λZ s1 ⟨y,H1,v,U,z,L,mz,q⟩=>?_) hd);subst L;obtain⟨t,rfl⟩:∃t,Z=kI z t:=U;obtain⟨f,g1,g2⟩:=h9 z mz;have l:s1.heap.DictOf (strKind X.prog X.w) a C:=⟨o,es,R,v.kIn a o G,h4,h5,h6,J,Y⟩;exact⟨l.typeIs,sy (knd:=strKind X.prog X.w) (k:=z) (by show dS z (kI z t)=du;simp[dS]) l.mapOf g1 ⟨.ref f,H1,v.tok _,rfl,q f g2⟩⟩
def ztY(X:Cx)(i:Nat)(t:TA):TE:=λσ H Q=>∃(z:Str) (st:e8) (f:ai) (fd:dU) (k:Nat) (ps:List Str) (l:Sp),σ[i]?=ao (ao (.ref f))/\Bd.Def X.K X.mg z st ps f fd/\FnOk X.prog X.w X.K X.mg X.base CX0 k f fd ps l/\Room k X.A/\t σ H λu o=>l u o Q E0
theorem zpx(h:PB X (e::es) t)(Y:X.N[i]?=ao y)(hv:Vis (d0 X.env) y)(hd:Ndb y:=by rfl)(J:Ncd y:=by rfl):PE X (f9 (bv y p1) (e::es) [] pos) (ztY X i t):=by intro pins s σ H Q I hw;obtain⟨z,st,f,fd,k,ps,sp,e1,D,G,U,hw⟩:=hw;refine iP (thn (Ub (pos:=p1) Y hv hd J pins s σ H (λv L=>v=.ref f/\L=H) I ⟨_,e1,rfl,rfl⟩) λu s1 o=>?_);obtain⟨v,L,R,r,ev,eH⟩:=o;subst ev eH;cases(show u=bQ f from r);refine pH (h₀:=X.base) R.ok.mod.kin D.F.kp (thn (h.pa pos pins s1 σ L _ R hw) λus s2 ⟨vs,H2,S,Z,q⟩=>⟨S.kIn,?_⟩) h.hd.1 (h.hd.2 pos);exact zqT G U D.b ja zuQ S Z (by rw[cE];exact q)
def sAct(i:Nat)(o:List (Str×GD))(d:DTE)(ds:DTA):DTS:=λD l n=>d l n λt u=>lStr t λz=>l[i]?=ao bj/\∃q∈o,q.1=z/\ds l u λts v=>q.2 ts v D.rt
def Ye(X:Cx)(ks:List Str)(n m:Nat)(l:List (Str×GD)):Prop:=∀q∈l,q.1∈ks/\∃st ps k,k<=n/\Bd.Fq X.prog X.w X.K X.mg X.base q.1 st ps k (spD X.K m q.2)
theorem Ye.nil{X:Cx}{ks:List Str}{n m:Nat}:Ye X ks n m []:=λ_ h=>nomatch h
theorem Ye.cons{X:Cx}{ks:List Str}{n m k:Nat}{st:e8}{ps:List Str}{x:Str}{g:GD}{o:List (Str×GD)}(F:Bd.Fq X.prog X.w X.K X.mg X.base x st ps k (spD X.K m g))(r:Ye X ks n m o)(hx:x∈ks:=by decide +kernel)(u:k<=n:=by decide):Ye X ks n m ((x,g)::o):=λq l=>by rcases ay.mp l with rfl|l;exact⟨hx,st,ps,k,u,F⟩;exact r q l
theorem zte(M:Bd.StF X.prog X.w X.K X.mg x ks){tb:List (Str×GD)}(F:Ye X ks n m tb)(hr:Room n X.A)(hN:X.N.Nodup)(h:DE X e d)(ha:DB X (e1::es) ds)(hm:fo (e1::es)=m:=by rfl)(hi:X.N[i]?=ao y:=by rfl)(hl:Loc (d0 X.env) y:=by first|exact dY rfl|exact sr rfl)
  (hs:swapsWith (ed (bv x p1) e p2) (ao (bv y p3)) p4.line X.env=pure dy:=by rfl) (hf:Fnl X y:=by walk_at "F") (hg:Gl X x:=by rfl) (Y:NoSl e:=by intro _ _;rfl)
  (hd:Ndb x:=by rfl) (hv:Vis (d0 X.env) y:=by walk_at "V") (hd2:Ndb y:=by rfl) (Z:Ncd y:=by rfl) :
  DSs X [ii [bv y p3] (ed (bv x p1) e p2) p4,.Return (ao (f9 (bv y p5) (e1::es) [] p6)) pos] (sAct i tb d ds):=by
 obtain⟨ta,pa,h⟩:=h;obtain⟨tb',pb,ha⟩:=ha;refine⟨_,QM (Q1 hN hi hl (zr4 M hg pa Y hd) hs hf) (Zi (ZR (zpx pb hi hv hd2 Z))),λC I σ H n0 D D' S hw g=>?_⟩;refine h C I σ H n0 _ _ S hw λt n1 v H1 L e1 h1 q1=>?_;cases t with
 | str z =>
  obtain⟨U,q,mq,rfl,L⟩:=L;obtain⟨mk,st,ps,k,hk,f,fd,Df,G⟩:=F q mq;refine⟨_,q1.strI,mk,λJ ef=>?_⟩;have:J=f:=by have:=b4 Df.m.symm ef;cases this;rfl
  subst this;have S1:=(S.on e1 h1).hole (v:=.ref J) U;have li:i<fo σ:=by have:i<fo I:=(aq.mp U).1;rw[<- S.len];exact this
  refine⟨q.1,st,J,fd,k,ps,_,by rw[fI li],Df,G,hr.mono hk,?_⟩;have eo:Own C I (ce σ i (ao (V.ref J)))=Own C I σ:=funext λa=>propext (zkq U);refine ha C I _ H1 n1 _ _ S1 L λts n2 vs H2 r2 e2 h2 q2 l2=>?_;have S2:=S1.on e2 h2;refine⟨C.hd,Own C I (ce σ i (ao (V.ref J))),ts,n2,D'.rt,q2,h2,λa=>S2.lst,λa z=>dY (S.hx a z),b4 l2 hm,r2,λt n' v H' rt e3 h3 q3=>?_⟩;exact g.rt t n' v H' rt h3 (λa o ha nh _=>(e1.trans (e2.trans e3)) a o ha nh) (q3.mono (λ_ _ _ z=>dY z) λ_ _ _ z=>z)
 | _=>exact e9 L
end
section
variable{i:Nat}{tb:List (Str×GD)}{d:DTE}{ds:DTA}{D:JY}{ρ:En}{n:Nat}
instance zzU:Stp (sAct i tb d ds D ρ n) (d ρ n λt n1=>lStr t λz=>ρ[i]?=ao bj/\∃q∈tb,q.1=z/\ds ρ n1 λts n2=>q.2 ts n2 D.rt):=⟨λh=>h⟩
end
end L2
namespace Bd
open PySem PySem.W PySem.Calls L2 PyProof.Rows
def Vj(o:String->Option fw)(p:aK)(w:aV)(l:Nat)(ann:Option ah):Nat->wI->Thread->Option wI
 | 0,_,_=>bj
 | n+1,s,t=>match through t with
  | true=>ao s
  | false=>match stepOk l ann t with
   | false=>bj
   | true=>match stepT (denote o) p w s t with
    | some (s',t')=>Vj o p w l ann n s' t'
    | none=>bj
theorem zgj{o:String->Option fw}{p:aK}{w:aV}{l:Nat}{ann:Option ah}:∀{n:Nat}{s s':wI}{t:Thread},Vj o p w l ann n s t=ao s'->topRun o p w l ann n s.abs t=ao s'.abs
 | 0,_,_,_,h=>by cases h
 | n+1,s,s',t,h=>by
  unfold Vj at h;unfold topRun;cases he:through t with
  | true=>rw[he]at h;cases h;rfl
  | false =>
   rw[he]at h;cases hk:stepOk l ann t with
   | false=>rw[hk]at h;cases h
   | true =>
    rw[hk]at h;cases hs:stepT (denote o) p w s t with
    | none=>rw[hs]at h;cases h
    | some r=>obtain⟨v,u⟩:=r;rw[hs]at h;dsimp only at h ⊢;rw[stepT_spec hs];exact zgj h
def zrf:List Obj->Nat->BT->BT
 | [],_,t=>t
 | o::r,i,t=>zrf r (i+1) (t.ins i o)
noncomputable def zty (P:tX):BT:=zrf (fg P).objs.toList 0 .nil
noncomputable def ztz (w:aV) (os:eO):wI:=⟨zty w.params,11,(fg w.params).life,#[],nV,oW,os⟩
theorem boot_abs(P:tX):absHeap (zty P) 11 (fg P).life=fg P:=by kernel_rfl
theorem zoy(P:tX):(fg P).objs.size=11:=by kernel_rfl
theorem ztx(P:tX):(fg P).isNs mainGlobals=du:=by kernel_rfl
def VL(p:aK)(h₀:bq)(l:ax):Bool:=staticsOk (importedModules p.main.body) h₀ l.heap&&namesBound p l.heap&&gensDone l&&laidKept h₀ l.heap
theorem znq{p q:aK}{loose:List Str}{u:ax->Bool}{α:Type}{v:ax->α}{C:aV->α}{N:Nat}(e:opening p=plainProg (cr p.main.scope))(R:Nat.ble 600 N=du)(S:∀s,fenceModules? p s=ao s)
  (run:∀(w:aV) (os:eO),(Vj treeTable p w 11 ((fg w.params).nsMap mainGlobals "__annotations__") N (ztz w os) (topStub p)).map (λs=>(VL p (fg w.params) s.abs,openSeen q loose (importedModules p.main.body) u du s.abs,v s.abs))=ao (du,openGood q loose,C w)) :
  LeftO p q loose u v C N du:=λw=>by
 obtain⟨⟨h,gs,d,k,os⟩,U,L⟩:=nW.mp (boot_open e R S w);obtain⟨rfl,rfl,rfl,rfl⟩:h=fg w.params/\gs=#[]/\d=nV/\k=oW:=by simpa using L
 obtain⟨x,r,l⟩:=nW.mp (run w os);have J:(ztz w os).abs=⟨fg w.params,#[],nV,oW,os⟩:=by show(⟨absHeap (zty w.params) 11 (fg w.params).life,#[],nV,oW,os⟩:ax)=_;rw[boot_abs]
 have r:=zgj r;rw[J]at r;obtain⟨I,o⟩:=oT l;obtain⟨o,G⟩:=oT o;have t:topFrom treeTable p w N ⟨fg w.params,#[],nV,oW,os⟩=ao x.abs:=by unfold topFrom;dsimp only;rw[ztx,zoy,r];show(match VL p (fg w.params) x.abs with|true=>_|false=>_)=_;rw[I]
 unfold openEnds;rw[U];show(topFrom treeTable p w N _).map _=_;rw[t];exact congrArg ao (gK o G)
theorem zvf{α T1 T2 T3 T4 T5 T6 T7 T8 T9 G I:Type}{o:Option α}{f1:α->T1}{f2:α->T2}{S:α->T3}{f4:α->T4}{R:α->T5}{N:α->T6}{J:α->T7}{f8:α->T8}{L:α->T9}{u:α->G}{l:α->I}{U:T1}{v2:T2}{Y:T3}{v4:T4}{v5:T5}{Z:T6}{v7:T7}{v8:T8}{v9:T9}{C:G}{v:I}
  (ha:o.map (λs=>(f1 s,l s,S s,f8 s,u s,N s))=ao (U,v,Y,v8,C,Z)) (hb:o.map f2=ao v2) (hc:o.map f4=ao v4) (hd:o.map R=ao v5) (he:o.map J=ao v7) (hf:o.map L=ao v9) :
  o.map (λs=>(f1 s,(f2 s,S s,f4 s,R s,N s,J s,f8 s,L s,u s),l s))=ao (U,(v2,Y,v4,v5,Z,v7,v8,v9,C),v):=by
 cases o with
 | none=>cases hc
 | some x =>have a:(f1 x,l x,S x,f8 x,u x,N x)=(U,v,Y,v8,C,Z):=aX ha;have b:f2 x=v2:=aX hb;have e:J x=v7:=aX he;have f:L x=v9:=aX hf;have c:f4 x=v4:=aX hc;have d:R x=v5:=aX hd;simp only[pE]at a;show ao (f1 x,(f2 x,S x,f4 x,R x,N x,J x,f8 x,L x,u x),l x)=_;rw[a.1,a.2.1,a.2.2.1,a.2.2.2.1,a.2.2.2.2.1,a.2.2.2.2.2,b,c,d,e,f]
theorem zmy{w:aV}{P:aV->Prop}(row:String)(h0:∀w:aV,P (w.withFollow row dy))(l:∀w:aV,P (w.withFollow row du)):P w:=by have e:=World.withFollow_self w row;cases hb:w.params.followText row <;> rw[hb]at e;rw[<- e];exact h0 w;rw[<- e];exact l w
end Bd
namespace L2
open PySem PySem.Spec PyProof.Rows
abbrev GX:=List af->Nat->qN->(Str->Nat->Prop)->Prop
theorem isiF{f:af->Bool}{b:Bool}{t:af}{R:af->Prop}(p:Pln t)(e:f t=b)(h:R (dQ b)):lIsi f t R:=⟨p,e▸h⟩
theorem zhr{d:af}(h:isTup d=du):∃ts,d=lV ts:=by
 cases d with
 | tuple ts=>exact⟨ts,rfl⟩
 | _=>cases h
theorem zp4{d:af}(h:isInt d=du)(k:isBool d=dy):∃i,d=bu i:=by
 cases d with
 | int i=>exact⟨i,rfl⟩
 | bool i=>cases k
 | _=>cases h
theorem zsB{us:qD}(h:fo us=2):∃a b,us=[a,b]:=by
 cases us with
 | nil=>cases h
 | cons a t =>obtain⟨b,e⟩:=List.length_eq_one_iff.mp (wF h);exact⟨a,b,e▸rfl⟩
theorem zot{X:Cx}:JX X (bU "range") (λxs H Q=>∃j:Int,xs=[.int j]/\∀p,H p=bj->Q (.ref p) (upd H p (.rng 0 j))):=by
 intro pins s σ H xs us Q I r h;obtain⟨j,rfl,q⟩:=h;cases r with
 | cons b r =>cases r;obtain⟨u,rfl⟩:=b;refine call_range_1 ⟨.ref s.heap.objs.size,_,I.laid (a:=be s.heap.objs) (o:=.rng 0 j) (t':=eA s+2) (λb o e=>aj _ e) (aC _) ⟨_,_,_,aB _ rfl⟩,rfl,q _ (I.hok.fresh (aC _))⟩
section
variable{X:Cx}{b:bg}{db:DTE}{p p0 p1 pos:Pos}
def zrw(db:DTE):DTA:=λo n R=>db o n λy l=>lInt y λj=>(0<=j/\j<=2 ^ 24)/\R (((dw (ap j)).map λ(k:Nat)=>(k:Int)).map bu) l
theorem zqo(hc:X.calm=du)(L:X.mg "list" = bj) (Z:X.mg "range" = bj) (h':DE X b db) (s2:starEach [b] X.env=[(dy,eval b X.env)]:=by rfl)
  (s3:starEach [f9 (bv "range" p0) [b] [] p1] X.env=[(dy,eval (f9 (bv "range" p0) [b] [] p1) X.env)]:=by rfl) (g1:Gl X "list":=by rfl) (g2:Gl X "range":=by rfl):DN X (f9 (bv "list" p) [f9 (bv "range" p0) [b] [] p1] [] pos) (zrw db):=by
 obtain⟨tb,J,h'⟩:=h';refine⟨_,VR (zl3 hc) L (by decide +kernel) (QN (VR zot Z (by decide +kernel) (QN J Ua s2) g2) Ua s3) g1,λC U σ H n Q R S hd hq=>?_⟩;refine h' C U σ H n _ _ S hd λy n2 w H2 x Y h2 q2=>?_;cases y with
 | int j =>
  obtain⟨bd,x⟩:=x;have ew:=q2.intI;subst ew;refine⟨j,rfl,λq v=>⟨q,0,j,rfl,J1,by omega,λl u=>?_⟩⟩;have I:=Y.trans (ExtE.new (o:=.rng 0 j) v);have G:=h2.same (Qf (o:=.rng 0 j) v);have ej:((dw (ap (j - 0))).map λ(k:Nat)=>(0:Int)+(k:Int))=(dw (ap j)).map λ(k:Nat)=>(k:Int):=by rw[wK];exact gD λk _=>wL _
  rw[ej];exact hq _ n2 l _ _ x (I.trans (ExtE.new u)) (G.same (Qf u)) (Vh I G u) J1 (zmD _)
 | _=>exact e9 x
variable{ρ:En}{n:Nat}{Rl:qD->Nat->Prop}
instance zxN:Stp (zrw db ρ n Rl) (db ρ n λy n2=>lInt y λj=>(0<=j/\j<=2 ^ 24)/\Rl (((dw (ap j)).map λ(k:Nat)=>(k:Int)).map bu) n2):=⟨λh=>h⟩
end
end L2
namespace L2
open PySem PySem.Spec PyProof PyProof.Rows
section
abbrev FB:=Int×(Int×Int)
end
end L2
namespace Bd
open PySem L2
def Fb(bits:Int)(S:Int->Prop)(h x:Int):Prop:=IsBk bits x h/\∀y,x<=y->y<x+2 ^ ap h->S y
theorem zsb{bits h s:Int}{p:Int×Int}(P:IsBk bits p.1 p.2)(h0:0<=h)(U:h<=p.2)(s1:p.1<=s)(s2:s<eB p):IsBk bits (s / 2 ^ ap h*2 ^ ap h) h/\p.1<=s / 2 ^ ap h*2 ^ ap h/\s / 2 ^ ap h*2 ^ ap h+2 ^ ap h<=eB p/\s / 2 ^ ap h*2 ^ ap h<=s/\s<s / 2 ^ ap h*2 ^ ap h+2 ^ ap h:=by
 obtain⟨C,g1,k,v,e,S⟩:=P;have z:=JE (ap h);have u:=kH s (2 ^ ap h);have m0:=gj s (show(2:Int) ^ ap h≠0 by omega);have m1:=fW s z;rw[c9]at u;have l:(2:Int) ^ ap p.2=2 ^ ap (p.2 - h)*2 ^ ap h:=by rw[<- fP];congr 1;omega
 have G:(2:Int) ^ ap (bits - h)=2 ^ ap (bits - p.2)*2 ^ ap (p.2 - h):=by rw[<- fP];congr 1;omega
 have y:=JE (ap (p.2 - h));have I:eB p=(k+1)*2 ^ ap (p.2 - h)*2 ^ ap h:=by unfold eB;rw[e,l,cX,cX,bR,eP]
 have J:p.1=k*2 ^ ap (p.2 - h)*2 ^ ap h:=by rw[e,l,eP]
 have lo:k*2 ^ ap (p.2 - h)<=s / 2 ^ ap h:=(gQ z).mpr (by omega);have hi:s / 2 ^ ap h<(k+1)*2 ^ ap (p.2 - h):=(kb z).mpr (by omega);have L:=aZ lo (bG z);have x:=aZ (show s / 2 ^ ap h+1<=(k+1)*2 ^ ap (p.2 - h) by omega) (bG z);rw[cX,bR]at x;have R:=t5 v (bG y);have Y:(k+1)*2 ^ ap (p.2 - h)<=2 ^ ap (bits - p.2)*2 ^ ap (p.2 - h):=aZ (by omega) (bG y);exact⟨⟨h0,by omega,_,by omega,rfl,by omega⟩,by omega,by omega,by omega,by omega⟩
theorem zrK{bits h x y s:Int}(X:IsBk bits x h)(Y:IsBk bits y h)(o:x<=s)(u:s<x+2 ^ ap h)(v:y<=s)(C:s<y+2 ^ ap h):x=y:=by obtain⟨_,_,k,_,rfl,_⟩:=X;obtain⟨_,_,l,_,rfl,_⟩:=Y;have z:=JE (ap h);rcases fA k l with c|c|c;have:=aZ (show k+1<=l by omega) (bG z);rw[cX,bR]at this;omega;rw[c];have:=aZ (show l+1<=k by omega) (bG z);rw[cX,bR]at this;omega
theorem zzf{x y:Int}{b p:Int×Int}(I:0<=b.2)(C:0<=p.2)(G:p.1<=b.1)(u:eB b<=eB p):b.2<=p.2:=by
 refine gT.mp λz=>?_;have e:(2:Int) ^ ap p.2<2 ^ ap b.2:=by
  have e:(2:Int) ^ ap b.2=2 ^ ap (b.2 - p.2)*2 ^ ap p.2:=by rw[<- fP];congr 1;omega
  have l:=JE (ap p.2);have v:(2:Int)<=2 ^ ap (b.2 - p.2):=by rw[show(b.2 - p.2).toNat=ap (b.2 - p.2 - 1)+1 from by omega,cB];have:=JE (ap (b.2 - p.2 - 1));omega
  have:=aZ v (bG l);omega
 unfold eB at u;omega
section
variable{bits h:Int}{S:Int->Prop}{qs:qB}
theorem Fb.held(G:0<=bits)(C:CanP S qs)(w:∀x,S x->0<=x/\x<2 ^ ap bits){y:Int}(Y:Fb bits S h y):∃p∈qs,h<=p.2/\p.1<=y/\y+2 ^ ap h<=eB p:=by obtain⟨p,v,o,l⟩:=C.hold G w (b:=(y,h)) Y.1 λx I u=>Y.2 x I (by unfold eB at u;exact u);have P:=(C.ptc G w).1 p v;exact⟨p,v,zzf (x:=0) (y:=0) (b:=(y,h)) Y.1.1 P.1 o l,o,by unfold eB at l ⊢;exact l⟩
theorem nrIn{rs:List L2.Run}{lo hi:Int}(N:NR rs)(h:lo<hi)(w:∀x,lo<=x->x<hi->mR x rs):∃r∈rs,r.1<=lo/\hi<=r.2:=by obtain⟨r,o,v,G⟩:=w lo (aL _) h;refine⟨r,o,v,?_⟩;by_cases e:hi<=r.2;exact e;exfalso;obtain⟨q,C,J,I⟩:=w r.2 (by omega) (by omega);obtain⟨i,l,rfl⟩:=bh o;obtain⟨j,u,rfl⟩:=bh C;have pw:=aJ.mp N.2;rcases dD i j with z|z|z;have:=pw i j l u z;omega;subst z;omega;have:=pw j i u l z;have:=N.1 _ o;omega
theorem Fb.gap{gs:List L2.Run}(N:NR gs)(M:∀x,mR x gs↔S x){y:Int}(Y:Fb bits S h y):∃g∈gs,g.1<=y/\y+2 ^ ap h<=g.2 :=
 nrIn N (by have:=JE (ap h);omega) λx l o=>(M x).mpr (Y.2 x l o)
theorem Fb.of{gs:List L2.Run}(M:∀x,mR x gs↔S x){y:Int}(B:IsBk bits y h){g:L2.Run}(l:g∈gs)(g1:g.1<=y)(g2:y+2 ^ ap h<=g.2):Fb bits S h y :=
 ⟨B,λx o u=>(M x).mp ⟨g,l,by omega,by omega⟩⟩
end
def Inn(bits h lo hi x:Int):Prop:=IsBk bits x h/\lo<=x/\x+2 ^ ap h<=hi
theorem zsO{bits h lo hi:Int}(h0:0<=h)(v:h<=bits)(C:0<=lo)(G:hi<=2 ^ ap bits){k:Int}:Inn bits h lo hi (k*2 ^ ap h)↔(lo+2 ^ ap h - 1) / 2 ^ ap h<=k/\k<=hi / 2 ^ ap h - 1:=by
 have z:=JE (ap h);have e:(2:Int) ^ ap bits=2 ^ ap (bits - h)*2 ^ ap h:=by rw[<- fP];congr 1;omega
 have a1:(lo+2 ^ ap h - 1) / 2 ^ ap h<=k↔lo<=k*2 ^ ap h:=by rw[<- Int.lt_add_one_iff,kb z,cX];omega
 have a2:k<=hi / 2 ^ ap h - 1↔k*2 ^ ap h+2 ^ ap h<=hi:=by rw[show k<=hi / 2 ^ ap h - 1↔k+1<=hi / 2 ^ ap h from by omega,gQ z,cX,bR]
 rw[a1,a2];constructor;exact λx=>x.2;rintro⟨l,u⟩;refine⟨⟨h0,v,k,?_,rfl,?_⟩,l,u⟩;refine gT.mp λc=>?_;have:=aZ (show k<=-1 by omega) (bG z);omega;refine Int.not_le.mp λc=>?_;have:=aZ c (bG z);omega
theorem zp5{bits h lo hi y:Int}(Y:Inn bits h lo hi y):∃k,y=k*2 ^ ap h:=by obtain⟨⟨_,_,k,_,e,_⟩,_⟩:=Y;exact⟨k,e⟩
def fst0(h lo:Int):Int:=(lo+2 ^ ap h - 1) / 2 ^ ap h*2 ^ ap h
def lst0(h hi:Int):Int:=hi / 2 ^ ap h*2 ^ ap h - 2 ^ ap h
section
variable{bits h lo hi:Int}
theorem zjD{i j:Int}(k:Nat):i*2 ^ k<=j*2 ^ k↔i<=j:=by have z:=JE k;constructor;exact λc=>mC c z;exact λc=>aZ c (bG z)
theorem znm:lst0 h hi=(hi / 2 ^ ap h - 1)*2 ^ ap h:=by unfold lst0;rw[oH,bR]
theorem zrg(h0:0<=h)(u:h<=bits)(l:0<=lo)(o:hi<=2 ^ ap bits){k:Int}:Inn bits h lo hi (k*2 ^ ap h)↔fst0 h lo<=k*2 ^ ap h/\k*2 ^ ap h<=lst0 h hi:=by rw[zsO h0 u l o,znm];unfold fst0;rw[zjD,zjD]
end
end Bd
namespace L2
open PySem PySem.Spec PyProof.Rows
section
variable{K:qF}{hd hd':Option ai}{O:ai->Prop}{H:Hp}{v:V}{d:af}{vs:List V}{ds:qD}
theorem Rep.hdx(q:Rep K hd O H v d):d.hasDict=dy->Rep K hd' O H v d:=by
 refine Rep.rec (motive_1:=λv d _=>d.hasDict=dy->Rep K hd' O H v d) (motive_2:=λv d _=>bo d=dy->Reps K hd' O H v d) (motive_3:=λ_ _ _=>True) (motive_4:=λ_ _ _=>True)
  (λ_=>.non) (λb _=>.bl b) (λb _=>.int b) (λb _=>.str b) (λh o _ r e=>.tup h o (r (by simpa[aR] using e))) (λh _ r e=>.tupS h (r (by simpa[aR] using e)))
  (λh o _ r e=>.lst h o (r (by simpa[aR] using e))) (λ_ _ e=>by simp[aR]at e) (λ_ _ _ _ _ e=>by simp[aR]at e) (λ_ _ _ _ _ e=>by simp[aR]at e) (λ_ e=>by simp[HAND,aR]at e) (λ_ _ e=>by simp[SCR,aR]at e) (λ_ e=>by simp[SCR,aR]at e) (λ_ _ e=>by simp[EXC,aR]at e)
  (λ_=>.nil) (λ_ _ h r e=>by rw[bo,ie]at e;exact .cons (h e.1) (r e.2)) trivial ?_ trivial ?_ q <;> intros <;> trivial
theorem Reps.hdx(q:Reps K hd O H vs ds):bo ds=dy->Reps K hd' O H vs ds :=
 q.ind (P:=λvs ds=>bo ds=dy->Reps K hd' O H vs ds) (λ_=>.nil) λh _ r e=>by rw[bo,ie]at e;exact .cons (h.hdx e.1) (r e.2)
end
mutual
theorem zih:∀(t:af),papD t=du->t.hasDict=false
 | lV ts,h=>by rw[papD,aF]at h;have:=zej ts h.2;simpa[aR] using this
 | cH x,h=>by simp[aR]
 | bu _,h=>by simp[aR]
 | fq,h=>by simp[aR]
 | dQ _,h=>by simp[aR]
 | sJ _,h=>by simp[papD]at h
 | sI _,h=>by simp[papD]at h
theorem zej:∀(ts:qD),QG ts=du->bo ts=false
 | [],h=>by simp[bo]
 | t::ts,h=>by rw[QG,aF]at h;rw[bo,zih t h.1,zej ts h.2];rfl
end
mutual
theorem zkp:∀(t:af),papD t=du->Qg t=true
 | lV ts,h=>by rw[papD,aF]at h;have:=zfs ts h.2;simpa[Qg] using this
 | cH x,h=>by simp[Qg]
 | bu _,h=>by simp[Qg]
 | fq,h=>by simp[Qg]
 | dQ _,h=>by simp[Qg]
 | sJ _,h=>by simp[papD]at h
 | sI _,h=>by simp[papD]at h
theorem zfs:∀(ts:qD),QG ts=du->Q0 ts=true
 | [],h=>by simp[Q0]
 | t::ts,h=>by rw[QG,aF]at h;rw[Q0,zkp t h.1,zfs ts h.2];rfl
end
theorem V1{t:af}(h:pap t=du):papD t=du:=by unfold pap at h;rw[aF,aF]at h;exact h.1.1
theorem zmZ:∀{ts:qD},(∀t∈ts,pap t=du)->QG ts=true
 | [],_=>rfl
 | t::ts,h=>by rw[QG,V1 (h t (jc _)),zmZ λu o=>h u (jk _ o)];rfl
def SubE(i:Nat)(u o:En):Prop:=fo o=fo u/\∀(j:Nat) (c:Cell),j≠i->o[j]?=ao (ao c)->u[j]?=ao (ao c)/\∃d,c=.val d/\d.hasDict=false
theorem SubE.cell{i:Nat}{u o:En}{x:af}(s:SubE i u o){j:Nat}{c:Cell}(h:(ce o i (ao (.val x)))[j]?=ao (ao c)):(j=i/\c=.val x)\/(j≠i/\u[j]?=ao (ao c)/\∃d,c=.val d/\d.hasDict=dy):=by by_cases e:j=i;subst e;rw[gu]at h;split at h;split at h;cases h;exact dY ⟨rfl,rfl⟩;cases h;rename_i z;exact absurd rfl z;rw[cq (gN e)]at h;exact sr ⟨e,s.2 j c e h⟩
theorem SubE.mine{i:Nat}{u o:En}{x:af}(s:SubE i u o){j:Nat}{c:Cell}(m:c.mine=du)(h:(ce o i (ao (.val x)))[j]?=ao (ao c)):False:=by rcases s.cell h with⟨_,rfl⟩|⟨_,_,d,rfl,_⟩ <;> cases m
theorem SubE.own{i:Nat}{u o:En}{x:af}{σ:St}{a:ai}(s:SubE i u o):¬OwnS (ce o i (ao (.val x))) σ a:=λ⟨_,_,m,h,_⟩=>s.mine m h
section
variable{X:Cx}{c e:bg}{d:DTE}{dt:DTT}{u:DTS}{sa:List e8}{pos:Pos}{x:Str}
def zzm(i:Nat)(d:DTE):DTE:=λG n R=>∃C,SubE i G C/\G[i]?=ao (ao (.val HAND))/\10000000000000<=n/\∀ts:List af,(∀t∈ts,pap t=du)->fo ts<=n - 10000000000000->d (ce C i (ao (.val (sJ ts)))) 0 λt _=>∃b,t=dQ b/\R t n
theorem ztl(i:Nat)(h:DE X e d):DE X e (zzm i d):=by
 obtain⟨te,pe,h⟩:=h;refine⟨te,pe,λC N σ H n Q R S hd hq=>?_⟩;obtain⟨I,sb,ei,hn,hd⟩:=hd;obtain⟨v,sv,rv⟩:=S.val i _ ei;obtain⟨a,rfl,Z⟩:=rv.handI;rcases S.hnd a Z with⟨_,l⟩|⟨_,vs,ts,q,l,r,pp⟩;omega;have lt:fo ts<=n - 10000000000000:=by rw[<- r.length];exact l
 have low:∀b,Own ⟨bj,λb=>Own C N σ b/\b≠a⟩ (ce I i (ao (.val (sJ ts)))) σ b->Own C N σ b/\b≠a:=λb z=>h7 z id λz=>e9 (sb.own z);have S3:Stt X.K ⟨bj,λb=>Own C N σ b/\b≠a⟩ (ce I i (ao (.val (sJ ts)))) σ H 0:={
  len:=by rw[iJ,sb.1];exact S.len
  val:=λj J G=>by rcases sb.cell G with⟨rfl,e⟩|⟨ne,U,d',e,hx⟩;cases e;exact⟨_,sv,.lst q (λz=>(low a z).2 rfl) (r.mono (λb o _ z=>S.lst (low b z).1) λ_ _ _ z=>z)⟩;cases e;obtain⟨w,Y,h2⟩:=S.val j _ U;exact⟨w,Y,(h2.hdx hx).mono (λb o _ z=>(low b z).1) λ_ _ _ z=>z⟩
  own:=λj J G=>e9 (sb.mine rfl G)
  dct:=λj J G=>e9 (sb.mine rfl G)
  rdo:=λj J G=>by rcases sb.cell G with⟨_,e⟩|⟨_,_,d',e,_⟩ <;> cases e
  dtt:=λj J G=>e9 (sb.mine rfl G)
  dif:=λj k c1 c2 a m _ G=>e9 (sb.mine m G)
  hnd:=λa z=>by cases z
  ext:=λb z=>S.lst z.1
  hx:=λb z=>by cases z }
 refine h _ _ σ H 0 _ _ S3 (hd ts pp lt) λt n' v H' L e1 Y q1=>?_;obtain⟨b,rfl,L⟩:=L;have sm:∀b o,H b=ao o->H' b=ao o:=λb o z=>e1 b o z (by simp);rw[q1.blI];exact hq _ n _ H' L (λb o z _=>sm b o z) (S.hnd.same sm) (.bl b)
def zyn(i:Nat)(d:DTE):DTS:=λD C n=>C[i]?=ao (ao (.val HAND))/\d C n λt o=>(10000000000000<=o/\o<10000000100000)/\pap t=du/\D.nx C (o+1)
theorem zti(i:Nat){J Y L:Pos}(h:DE X e d)(hN:X.N[i]?=ao x:=by rfl)(hv:Vis (d0 X.env) x:=by walk_at "V")(hd:Ndb x:=by rfl)
  (Z:Ncd x:=by rfl) (hs:swapsWith (f9 (jq (bv x J) "append" Y) [e] [] L) bj pos.line X.env=pure dy:=by rfl)
  (LP:attributeBase (bv x J) "append" X.env (eval (bv x J) X.env)=eval (bv x J) X.env:=by rfl)
  (Mn:((backTo L (starEach [e] X.env)).all (λx=>!x.1)&&(backToKw L (keywordEach [] X.env)).all (λx=>f6 x.1)
   && decide ([e].length+fo ([]:List p7)+(if g5 ([]:List p7) then 0 else 1)<30))=du:=by rfl)
  (LQ:(Y.endLine == jh L)=du:=by rfl) (I:starEach [e] X.env=[(dy,eval e X.env)]:=by rfl):DS X (.Expr (f9 (jq (bv x J) "append" Y) [e] [] L) pos) (zyn i d):=by
 obtain⟨ta,pa,h⟩:=h;refine⟨_,zmN (zuN nu mY mZ zfu (Ub hN hv hd Z) (Ue pa UW I) LP Mn LQ I rfl) hs,λC ρ σ H n D D' S hd g=>?_⟩;obtain⟨ei,hd⟩:=hd;obtain⟨v,sv,rv⟩:=S.val i _ ei;obtain⟨a,rfl,R⟩:=rv.handI;obtain⟨vs0,h2⟩:=S.hnd.lst R;refine⟨.ref a,sv,dY ⟨rfl,_,SqL.of h2⟩,?_⟩;refine h C ρ σ H n _ _ S hd λt n' v H' r e1 hn q=>?_;obtain⟨⟨n1,n2⟩,pt,r⟩:=r;have S1:=S.on e1 hn;rcases hn a R with⟨_,l⟩|⟨_,G,ts,hq,l,rs,pp⟩;omega;refine⟨a,G,v,rfl,rfl,hq,by rw[mN];omega,?_⟩;have e2:ExtE C.hd H' (upd H' a (.lst (G++[v]))):=λb o hb nb=>by rw[Ju (show b≠a from λz=>nb (by rw[z];exact R))];exact hb
 have hm:MutO (H' a):=dY ⟨_,hq⟩;have kk:∀b o,¬MutO (H' b)->H' b=ao o->upd H' a (.lst (G++[v])) b=ao o:=λb o nb hb=>by rw[Ju (show b≠a from λz=>nb (by rw[z];exact hm))];exact hb
 have mm:∀b o,H' b=ao o->MutO (upd H' a (.lst (G++[v])) b)->MutO (H' b):=λb o _ z=>by by_cases y:b=a;rw[y];exact hm;rw[Ju y]at z;exact z
 have U:Rep X.K bj (λb=>MutO (H' b)) H' v t:=((q.hdx (hd':=bj) (zih t (V1 pt))).up (O:=λb=>MutO (H' b)) (λ_ z=>z)) (zkp t (V1 pt));have hn2:Hn X.K C.hd (upd H' a (.lst (G++[v]))) (n'+1):=λb eb=>by rw[R]at eb;cases eb;refine sr ⟨by omega,G++[v],ts++[t],J1,by rw[aO];show fo G+1<=_;omega,(rs.append (.cons U .nil)).mono mm kk,λu hu=>?_⟩;rcases au.mp hu with z|z;exact pp u z;cases av.mp z;exact pt
 exact g.nx _ _ _ (n'+1) r (S1.on e2 hn2) (e1.keep.trans e2.keep)
def zqS(i:Nat)(dt:DTT):DTS:=λD G n=>∃(ts:qD) (C:En),G[i]?=ao (ao (.own ts))/\(∀t∈ts,pap t=du)/\SubE i G C/\dt (ce C i (ao (.val HAND))) (10000000000000+fo ts) λb _=>b=dy/\D.nx (ce G i bj) n
theorem UE{l:En}{i j:Nat}{c:Cell}(h:(ce l i bj)[j]?=ao (ao c)):j≠i/\l[j]?=ao (ao c):=by by_cases e:j=i;subst e;rw[gu]at h;split at h;split at h <;> cases h;rename_i z;exact absurd rfl z;rw[cq (gN e)]at h;exact⟨e,h⟩
theorem zql(i:Nat)(hc:DT X c dt)(h1:DSs X sa u):DS X (.If c sa [] pos) (zqS i dt):=by
 obtain⟨tc,pc,hc⟩:=hc;obtain⟨ta,pa,_⟩:=h1;refine⟨_,VS pc pa Wv,λC R σ H n D D' S hd g=>?_⟩;obtain⟨ts,ρ3,ei,pt,sb,hd⟩:=hd;obtain⟨p,vs,si,hp,rp,nx⟩:=S.own i ts ei;have op:OwnS R σ p:=⟨i,_,rfl,ei,si⟩;have low:∀b,Own ⟨ao p,Own C R σ⟩ (ce ρ3 i (ao (.val HAND))) σ b->Own C R σ b:=λb z=>h7 z id λz=>e9 (sb.own z);have hm:MutO (H p):=dY ⟨_,hp⟩;have S2:Stt X.K ⟨ao p,Own C R σ⟩ (ce ρ3 i (ao (.val HAND))) σ H (10000000000000+fo ts):={
  len:=by rw[iJ,sb.1];exact S.len
  val:=λj N G=>by rcases sb.cell G with⟨rfl,e⟩|⟨ne,hj',d',e,hx⟩;cases e;exact⟨_,si,.hand rfl⟩;cases e;obtain⟨w,J,L⟩:=S.val j _ hj';exact⟨w,J,(L.hdx hx).mono (λb o _ z=>low b z) λ_ _ _ z=>z⟩
  own:=λj N G=>e9 (sb.mine rfl G)
  dct:=λj N G=>e9 (sb.mine rfl G)
  rdo:=λj N G=>by rcases sb.cell G with⟨_,e⟩|⟨_,_,d',e,_⟩ <;> cases e
  dtt:=λj N G=>e9 (sb.mine rfl G)
  dif:=λj k c1 c2 a m _ G=>e9 (sb.mine m G)
  hnd:=λa z=>by cases z;exact sr ⟨by omega,vs,ts,hp,by rw[rp.length];omega,((rp.hdx (hd':=bj) (zej ts (zmZ pt))).up (O:=λb=>MutO (H b)) (λ_ z=>z)) (zfs ts (zmZ pt)),pt⟩
  ext:=λb z=>S.lst z
  hx:=λb z=>by cases z;exact sr op }
 refine hc _ _ σ H _ _ _ S2 hd λb n1 H1 r e1 hn=>?_;obtain⟨rfl,r⟩:=r;have st:∀a o,H a=ao o->a≠p->H1 a=ao o:=λa o ha ne=>e1 a o ha (λz=>ne (aX z).symm);have sub:∀a o,H a=ao o->Own C (ce R i bj) σ a->Own C R σ a:=λa o _ z=>h7 z dY λ⟨j,c,m,J,L⟩=>sr ⟨j,c,m,(UE J).2,L⟩;have kp:∀a o,¬Own C R σ a->H a=ao o->H1 a=ao o:=λa o no ha=>st a o ha λz=>no (by rw[z];exact sr op);have np:∀{j:Nat} {c:Cell} {a:ai},c.mine=du->j≠i->R[j]?=ao (ao c)->σ[j]?=ao (ao (V.ref a))->a≠p:=λm ne J L z=>ne (S.dif _ _ _ _ _ m rfl J ei L (by rw[z];exact si));have S':Stt X.K C (ce R i bj) σ H1 n:={
  len:=by rw[iJ];exact S.len
  val:=λj N G=>by obtain⟨w,J,L⟩:=S.val j _ (UE G).2;exact⟨w,J,L.mono sub kp⟩
  own:=λj N G=>by obtain⟨ne,G⟩:=UE G;obtain⟨a,Y,J,L,Z,U⟩:=S.own j N G;exact⟨a,Y,J,st a _ L (np rfl ne G J),Z.mono sub kp,U⟩
  dct:=λj N G=>by obtain⟨ne,G⟩:=UE G;obtain⟨a,Y,J,L,Z,U⟩:=S.dct j N G;exact⟨a,Y,J,st a _ L (np rfl ne G J),Z.mono sub kp,U⟩
  rdo:=λj N G=>by obtain⟨ne,G⟩:=UE G;obtain⟨a,Y,J,L,Z,U,q5⟩:=S.rdo j N G;exact⟨a,Y,J,st a _ L (λz=>nx (by rw[<- z];exact U)),Z.mono sub kp,U,q5⟩
  dtt:=λj N G=>by obtain⟨ne,G⟩:=UE G;obtain⟨a,Y,ep,J,L,Z,U⟩:=S.dtt j N G;exact⟨a,Y,ep,J,st a _ L (np rfl ne G J),Z.mono sub kp,U⟩
  dif:=λj k c1 c2 a m1 m2 J L=>S.dif j k c1 c2 a m1 m2 (UE J).2 (UE L).2
  hnd:=λa ea=>by have ne:a≠p:=λz=>nx (by rw[<- z];exact S.hx a ea);rcases S.hnd a ea with⟨⟨N,m,t,q,rest⟩,l⟩|⟨l,q⟩;exact dY ⟨⟨N,m,t,st _ _ q ne,rest⟩,l⟩;refine sr ⟨l,q.to ?_ (λb o nb hb=>st b o hb λz=>nb (by rw[z];exact hm)) λb o hb z=>?_⟩;obtain⟨Y,us,J,_⟩:=q;rw[st _ _ J ne,J];by_cases y:b=p;rw[y];exact hm;rw[st b o hb y]at z;rw[hb];exact z
  ext:=λa z=>by have ne:a≠p:=λy=>nx (by rw[<- y];exact z);rcases S.ext a z with⟨xs,q⟩|⟨xs,q⟩|⟨b,q⟩;exact dY ⟨xs,st a _ q ne⟩;exact sr (dY ⟨xs,st a _ q ne⟩);exact sr (sr ⟨b,st a _ q ne⟩)
  hx:=S.hx }
 exact iteF (g.nx _ _ H1 n r S' λa o ha nh no=>⟨st a o ha λz=>no (by rw[z];exact op),λ⟨j,c,m,J,L⟩=>no ⟨j,c,m,(UE J).2,L⟩⟩)
end
end L2
namespace Bd
open PySem L2
theorem zsc{ts:qD}(l:fo ts<=1000000)(h:∀t∈ts,papD t=du/\t.canLay0=du/\t.depth<=10):pap (lV ts)=du:=by
 have a:QG ts=du:=by
  clear l;induction ts with
  | nil=>rfl
  | cons t ts o=>rw[QG,(h t (jc _)).1,o λu v=>h u (jk _ v)];rfl
 have b:bL ts=du:=by
  clear l a;induction ts with
  | nil=>rfl
  | cons t ts o=>rw[bL,(h t (jc _)).2.1,o λu v=>h u (jk _ v)];rfl
 have c:cm ts<=10:=by
  clear l a b;induction ts with
  | nil=>simp[cm]
  | cons t ts o =>have:=(h t (jc _)).2.2;have:=o λu v=>h u (jk _ v);simp only[cm];omega
 unfold pap;rw[papD,decide_eq_true l,a];simp only[bX,b,eC,cD];exact decide_eq_true (by omega)
mutual
theorem zko:∀(t:af),papD t=du->plnD t=true
 | lV ts,h=>by rw[papD,aF]at h;rw[plnD,h.1,zig ts h.2];rfl
 | cH x,h=>by rw[papD]at h;rw[plnD];exact h
 | bu _,h=>by simp[plnD]
 | fq,h=>by simp[plnD]
 | dQ _,h=>by simp[plnD]
 | sJ _,h=>by simp[papD]at h
 | sI _,h=>by simp[papD]at h
theorem zig:∀(ts:qD),QG ts=du->Uj ts=true
 | [],h=>by simp[Uj]
 | t::ts,h=>by rw[QG,aF]at h;rw[Uj,zko t h.1,zig ts h.2];rfl
end
theorem zq6{t:af}(h:pap t=du):PlnD t/\OkK 40 t:=by have d:=zko t (V1 h);unfold pap at h;rw[aF,aF]at h;exact⟨d,h.1.2,of_decide_eq_true h.2⟩
end Bd
namespace Bd
open PySem L2
def top(i:Nat):e8:=fH.main.body.getD i (.Pass ⟨0,0,0,0⟩)
abbrev DQ(Z:ZZ)(x:Str)(i:Nat)(ps:List Str):Prop:=Dq Z.K Z.mg x (top i) ps
abbrev QF(Z:ZZ)(x:Str)(i:Nat)(ps:List Str)(k m:Nat)(g:GD):Prop:=FQ Z x (top i) ps k (spD Z.K m g)
set_option maxHeartbeats 4000000
local macro_rules | `(tactic| walk_at "S") => `(tactic| first | with_reducible refine zlc ?_ | with_reducible refine Stp.go ?_ | with_reducible refine j_all (by with_unfolding_all rfl) ?_ | with_reducible refine j_any (by with_unfolding_all rfl) ?_ | with_reducible refine zrh (by with_unfolding_all rfl) ?_ | with_reducible refine zri (by with_unfolding_all rfl) ?_ | with_reducible refine zkJ (by with_unfolding_all rfl) ?_ | with_reducible refine zkI (by with_unfolding_all rfl) ?_)
set_option hygiene false in
local macro_rules | `(tactic| walk_at "K") => `(tactic| first | walk_at "S" | with_reducible refine zv4 (λhc => ?_) (λhc => ?_) | with_reducible refine zy8 (λhc => ?_) (λhc => ?_) | with_reducible refine And.intro ?_ ?_)
set_option hygiene false in
local macro_rules | `(tactic| wp_walk using $ts:term,*) => `(tactic| repeat' (first $[| with_reducible refine $ts:term]* | walk_at "K"))
local macro_rules | `(tactic| wp_walk) => `(tactic| repeat' walk_at "K")
structure Txt(mg:qM):Prop where
 isi:mg "isinstance" = bj
 int:mg "int" = bj
 boo:mg "bool" = bj
 tup:mg "tuple" = bj
 len:mg "len" = bj
 min:mg "min" = bj
 max:mg "max" = bj
 str:mg "str" = bj
 rep:mg "repr" = bj
 all:mg "all" = bj
 any:mg "any" = bj
 ran:mg "range" = bj
 sum:mg "sum" = bj
 srt:mg "sorted" = bj
 lst:mg "list" = bj
 abs:mg "abs" = bj
 zip:mg "zip" = bj
 dct:mg "dict" = bj
 rev:mg "reversed" = bj
 enu:mg "enumerate" = bj
 vae:mg "ValueError" = bj
section
open PySem.W PyProof.Rows
def pw:aK:=fH
def PL:PLs:=[(aa "PARTS",[(aa "take",[aa "height"]),(aa "near",[aa "height",aa "address"]),(aa "give",[aa "block"]),(aa "grow",[aa "block"]),(aa "keep",[aa "block"]),(aa "loose",[aa "block"]),(aa "move",[aa "block",aa "block"])])]
def FL:FLs:=[(aa "DEEDS",["take","near","give","grow","keep","loose","move"])]
def DL:FLs:=[(aa "PARTS",["take","near","give","grow","keep","loose","move"]),(aa "DEEDS",["take","near","give","grow","keep","loose","move"])]
def TL:List (Str×List Str):=[(aa "WORDS",[aa "out",aa "kept",aa "free"])]
def zyA:e8->Bool
 | ji ..=>true
 | .ClassDef ..=>true
 | ii [bv x _] _ _=>!(x == aa "__name__")
 | _=>false
def qv:aK:={ pw with main:={ pw.main with body:=pw.main.body.filter zyA } }
theorem zrQ:recsOf qv=(pw.main.body.filter Wg).map recD:=by kernel_rfl
theorem zra{i:Nat}(h:Wg (top i)=du):recD (top i)∈recsOf qv:=by rw[zrQ];exact o7 (cT.mpr ⟨getD_mem h,h⟩)
theorem dqG{i:Nat}{x:Str}{ps:List Str}{u:tH->Option ah}{mg v:qM}{h:bq}(T:kQ qv (looseW qv [aa "DEEDS",aa "PARTS",aa "WORDS"]) u mg v h) (hb:BndA x (top i) ps:=by first|exact bnd1 λ_ _ _ _ _ _ _=>rfl|exact bnd2 λ_ _ _ _ _ _ _ _=>rfl|exact bnd3 λ_ _ _ _ _ _ _ _ _=>rfl|exact bnd4 λ_ _ _ _ _ _ _ _ _ _=>rfl) (o:Wg (top i)=du:=by kernel_rfl) (l:defName (top i)=x:=by kernel_rfl):Dq (J5 h) mg x (top i) ps:=dq_g T (zra o) l hb
def zwv:List Str:=[aa "isinstance",aa "int",aa "bool",aa "tuple",aa "len",aa "min",aa "max",aa "str",aa "repr",aa "all",aa "any",aa "range",aa "sum",aa "sorted",aa "list",aa "abs",aa "zip",aa "dict",aa "reversed",aa "enumerate",aa "ValueError"]
def zww(x:Str):Bool:=!startupNames.contains x&&!(looseW qv [aa "DEEDS",aa "PARTS",aa "WORDS"]).contains x&&!((recsOf qv).map (·.name)).contains x&&!((litsOf qv).map (·.1)).contains x&&!((clssOf qv (looseW qv [aa "DEEDS",aa "PARTS",aa "WORDS"])).map (·.name)).contains x
theorem zs9:zwv.all zww=du:=by kernel_rfl
theorem zs_{l:tH->Option ah}{mg o:qM}{h:bq}(T:kQ qv (looseW qv [aa "DEEDS",aa "PARTS",aa "WORDS"]) l mg o h) {x:Str} (m:x∈zwv):mg x=bj:=by have e:=bM.mp zs9 x m;unfold zww at e;simp only[aF,i9,List.contains_eq_mem,decide_eq_false_iff_not]at e;obtain⟨⟨⟨⟨a,b⟩,c⟩,d⟩,f⟩:=e;exact T.free x a b c d f
theorem ztS{l:tH->Option ah}{mg o:qM}{h:bq}(T:kQ qv (looseW qv [aa "DEEDS",aa "PARTS",aa "WORDS"]) l mg o h):Txt mg:=by constructor <;> exact zs_ T (List.contains_iff_mem.mp (by kernel_rfl))
theorem zrL:aH.wellSaid=du:=by kernel_rfl
noncomputable abbrev rTop (v:aV) (os:eO):=Vj treeTable pw v 11 ((fg v.params).nsMap mainGlobals "__annotations__") 20000 (ztz v os) (topStub pw)
abbrev zq0(v:aV)(os:eO):Prop:=(rTop v os).map (λs=>(VL pw (fg v.params) s.abs,(λs=>hshs DL s.heap) s.abs,s.abs.heap.bltView,plainSeenD qv [aa "DEEDS",aa "PARTS",aa "WORDS"] s.abs,clsSeenW qv [aa "DEEDS",aa "PARTS",aa "WORDS"] s.abs,pinSeenD qv (drecsOf qv) s.abs))=ao (du,(hshW DL) v,bltViewBooted,plainGoodD qv [aa "DEEDS",aa "PARTS",aa "WORDS"],clsGoodW qv [aa "DEEDS",aa "PARTS",aa "WORDS"],pinGoodD (drecsOf qv))
abbrev zqZ(v:aV)(os:eO):Prop:=(rTop v os).map (λs=>seen ((recsOf qv).map (·.name)) (ownsOf qv) [] { s.abs with gens:=#[] })=ao (expectedOf qv)
abbrev zqW(v:aV)(os:eO):Prop:=(rTop v os).map (λs=>plainSeenE qv (looseW qv [aa "DEEDS",aa "PARTS",aa "WORDS"]) s.abs)=ao (plainGoodE qv (looseW qv [aa "DEEDS",aa "PARTS",aa "WORDS"]))
abbrev zqV(v:aV)(os:eO):Prop:=(rTop v os).map (λs=>wideSeen qv s.abs)=ao (wideGood qv)
abbrev zqY(v:aV)(os:eO):Prop:=(rTop v os).map (λs=>(s.abs.heap.keysOk (looseW qv [aa "DEEDS",aa "PARTS",aa "WORDS"]) ((recsOf qv).map (·.name)) ((litsOf qv).map (·.1)) ((clssOf qv (looseW qv [aa "DEEDS",aa "PARTS",aa "WORDS"])).map (·.name))&&s.abs.heap.accountedOkI (importedModules pw.main.body)&&s.abs.heap.isNs mainGlobals&&s.abs.heap.isNs builtinsNs&&tablesOk qv s.abs.heap&&(λs=>xlAt qv [] s&&recOk (rH aH.row.toRowW) s&&V5 TL s&&VJ PL FL s) s.abs&&(if du then be s.abs.gens == 0 else !leftWithCleanup s.abs.gens)))=ao true
abbrev zqX(v:aV)(os:eO):Prop:=(rTop v os).map (λs=>tabsOk qv s.abs)=ao true
abbrev zmI(v:aV)(os:eO):Prop:=(rTop v os).map (λs=>(VL pw (fg v.params) s.abs,openSeen qv [aa "DEEDS",aa "PARTS",aa "WORDS"] (importedModules pw.main.body) (λs=>xlAt qv [] s&&recOk (rH aH.row.toRowW) s&&V5 TL s&&VJ PL FL s) du s.abs,(λs=>hshs DL s.heap) s.abs))=ao (du,openGood qv [aa "DEEDS",aa "PARTS",aa "WORDS"],(hshW DL) v)
theorem zvs(w:aV)(os:eO):zq0 (w.withFollow "special-get-raises" dy) os:=by kernel_rfl
theorem zvr(w:aV)(os:eO):zqZ (w.withFollow "special-get-raises" dy) os:=by kernel_rfl
theorem zvo(w:aV)(os:eO):zqW (w.withFollow "special-get-raises" dy) os:=by kernel_rfl
theorem zvn(w:aV)(os:eO):zqV (w.withFollow "special-get-raises" dy) os:=by kernel_rfl
theorem zvq(w:aV)(os:eO):zqY (w.withFollow "special-get-raises" dy) os:=by kernel_rfl
theorem zvp(w:aV)(os:eO):zqX (w.withFollow "special-get-raises" dy) os:=by kernel_rfl
theorem zyz(w:aV)(os:eO):zmI (w.withFollow "special-get-raises" dy) os:=zvf (zvs w os) (zvr w os) (zvq w os) (zvp w os) (zvo w os) (zvn w os)
theorem zvm(w:aV)(os:eO):zq0 (w.withFollow "special-get-raises" du) os:=by kernel_rfl
theorem zvl(w:aV)(os:eO):zqZ (w.withFollow "special-get-raises" du) os:=by kernel_rfl
theorem zvi(w:aV)(os:eO):zqW (w.withFollow "special-get-raises" du) os:=by kernel_rfl
theorem zvh(w:aV)(os:eO):zqV (w.withFollow "special-get-raises" du) os:=by kernel_rfl
theorem zvk(w:aV)(os:eO):zqY (w.withFollow "special-get-raises" du) os:=by kernel_rfl
theorem zvj(w:aV)(os:eO):zqX (w.withFollow "special-get-raises" du) os:=by kernel_rfl
theorem zyy(w:aV)(os:eO):zmI (w.withFollow "special-get-raises" du) os:=zvf (zvm w os) (zvl w os) (zvk w os) (zvj w os) (zvi w os) (zvh w os)
theorem zsC:LeftO pw qv [aa "DEEDS",aa "PARTS",aa "WORDS"] (λs=>xlAt qv [] s&&recOk (rH aH.row.toRowW) s&&V5 TL s&&VJ PL FL s) (λs=>hshs DL s.heap) (hshW DL) 20000:=znq (by kernel_rfl) (by decide) (λ_=>rfl) (λw=>zmy (w:=w) (P:=λw=>∀os:eO,zmI w os) "special-get-raises" zyz zyy)
end
section
variable{P:aK}{w:aV}{K:qF}{mg:qM}{base:bq}{Z:ZZ}
def zsL:af->Bool|bu _=>du|_=>false
def zes:GD:=λts n R=>match ts with
 | [d]=>Pln d/\R (dQ (zsL d)) n
 | _=>False
theorem UJ{d:af}{b:Bool}{n:Nat}{R:qN}(e:zsL d=b)(h:Pln d)(h':R (dQ b) n):zes [d] n R:=⟨h,e▸h'⟩
def WJ(Z:ZZ):Prop:=QF Z "is_whole" 1 ["thing"] 1 1 zes
theorem zjt(D:DQ Z "is_whole" 1 ["thing"]) (T:Txt Z.mg):WJ Z:=by
 refine' okN ["thing"] D λo=>⟨_,(Jc (Jf (Ud (Qo zrl T.isi T.int boot_int (dlv 0) Jv) (QJ (zoa (Qo znH T.isi T.boo zgT (dlv 0) Jv)))))),?_⟩;intro ts n R u h;unfold zes at h;split at h
 ·rename_i d;obtain⟨p,h⟩:=h;cases d with
  | dict l =>
   cases l with
   | nil =>wp_walk;exact h
   | cons a b=>exact absurd rfl p
  | _ =>wp_walk;exact h
 exact e9 h
def J4(bits:Int):af->Bool
 | lV [bu b,bu h]=>decide (0<=h/\h<=bits/\0<=b/\b<2 ^ ap bits/\b % 2 ^ ap h=0)
 | _=>false
theorem zfz{bits b h:Int}:J4 bits (lV [bu b,bu h])=decide (0<=h/\h<=bits/\0<=b/\b<2 ^ ap bits/\b % 2 ^ ap h=0):=rfl
theorem WM{bits b h:Int}(G:0<=bits):J4 bits (lV [bu b,bu h])=du↔IsBk bits b h:=by unfold J4;rw[decide_eq_true_iff];constructor;rintro⟨h0,v,x,g1,g2⟩;have p:=JE (ap h);have e:=kH b (2 ^ ap h);refine⟨h0,v,b / 2 ^ ap h,iN x (by lia),?_,?_⟩;rw[c9];lia;apply oz p;rw[<- fP,show(bits - h).toNat+ap h=ap bits by lia];exact g1;intro B;have C:=B.bounds G;obtain⟨h0,v,k,I,rfl,J⟩:=B;refine⟨h0,v,C.1,?_,rE _ _⟩;have:=JE (ap h);lia
def Pl2(d:af):Prop:=Pln d/\∀ts,d=lV ts->∀t∈ts,Pln t
inductive WI:qD->Nat->qN->Prop
 | c {bits:Int} {d:af} {n:Nat} {R:qN} (b0:0<=bits) (b1:bits<=64) (h:Pl2 d) (h':R (dQ (J4 bits d)) n):WI [bu bits,d] n R
theorem znC{bits:Int}{d:af}(h:∀b g,d≠lV [bu b,bu g]):J4 bits d=dy:=by unfold J4;split;exact absurd rfl (h _ _);rfl
theorem zwz{b c:Bool}{n:Nat}{R:qN}(e:b=c)(h:R (dQ c) n):R (dQ b) n:=e▸h
def zef(Z:ZZ):Prop:=QF Z "is_block" 2 ["bits","thing"] 2 2 WI
theorem zjw(D:DQ Z "is_block" 2 ["bits","thing"]) (I:WJ Z) (T:Txt Z.mg):zef Z:=by
 refine' okN ["bits","thing","begin","height"] D λv=>⟨_,(Jb (Jo (JK (J9 (JQ (JH (dl (Qo Uz T.isi T.tup Qn (dlv 1) Jv)))) (Qp (Jl (QB v) QA (dl (Jw Qw Qv T.len Qs (Jk (dlv 1) Jn Jv))) dli (Jg _))))) (Jc (Jf JC)) Jq) (Jb (QK (Jh 1) (JF rfl (Jj (dgv 2 (ndB rfl)) (Jj (dgv 3 (ndB rfl)) JD)))) (Jb (Jo (JK (J9 (JQ (JH (dl (Jd I v (dbv 2 Ja))))) (Qp (JQ (JH (dl (Jd I v (dbv 3 Ja)))))))) (Jc (Jf JC)) Jq) (Jb (Jo (JK (J9 (Jl (Qk v) Qi (dlv 3) dli (Jg _)) (Qp (Jl QO gp_B (dlv 3) (dlv 0) (Jg _))))) (Jc (Jf JC)) Jq) (Jc (Jf (Ud (Wy Qj Qh (Qk v) Qi dli (dlv 2) (dl (JO dli (dlv 0)))) (QJ (J3 (Qc v) Qa (dl (Wb (dlv 2) (dl (JO dli (dlv 3))))) dli (Jg _)))))))))),?_⟩;intro ts n R L h;obtain @⟨bits,d,n,R,b0,b1,⟨p,C⟩,h⟩:=h;have no:(∀b g,d≠lV [bu b,bu g])->R (dQ dy) n:=λz=>by rw[znC z]at h;exact h
 cases hf:isTup d with
 | false =>wp_walk using isiF p hf ?_;exact no λb g e=>by rw[e]at hf;cases hf
 | true =>
  obtain⟨ts,rfl⟩:=zhr hf;have C:=C ts rfl;by_cases l2:fo ts=2
  ·obtain⟨x,y,rfl⟩:=zsB l2;have G:=C x (by simp);have py:=C y (by simp);have J:∀t,(∃b,t=bu b)\/zsL t=dy:=λt=>by
    cases t with
    | int b=>exact dY ⟨b,rfl⟩
    | _=>exact sr rfl
   rcases J x with⟨b,rfl⟩|wx
   ·rcases J y with⟨g,rfl⟩|wy
    ·wp_walk using UJ (b:=du) rfl G ?_,UJ (b:=du) rfl py ?_;all_goals first
      | exact cpow (by lia) (by lia)
      | (rw[Qy];exact JE _)
      | skip
     all_goals
      refine zwz ?_ h;try simp only[Qy]at *
      rw[zfz];generalize (2:Int) ^ ap bits=X at *;generalize b % (2:Int) ^ ap g=Y at *;first
       | (symm;rw[decide_eq_false_iff_not];lia)
       | (rw[decide_eq_decide];lia)
       | (exfalso;simp at hc;done)
    ·wp_walk using UJ (b:=du) rfl G ?_,UJ wy py ?_;all_goals first|exact no λ_ _ e=>by cases e;cases wy|(exfalso;simp at hc;done)
   ·wp_walk using UJ wx G ?_;all_goals first|exact no λ_ _ e=>by cases e;cases wx|(exfalso;simp at hc;done)
  ·wp_walk;all_goals first|exact no λ_ _ e=>l2 (by cases e;rfl)|(exfalso;lia)
inductive WY:qD->Nat->qN->Prop
 | c {i h:Int} {n:Nat} {R:qN} (g0:0<=h) (g1:h<=1000) (h':R (bu (2 ^ ap h)) n):WY [lV [bu i,bu h]] n R
def zfd(Z:ZZ):Prop:=QF Z "size_of" 3 ["block"] 1 1 WY
theorem zll(D:DQ Z "size_of" 3 ["block"]) (T:Txt Z.mg):zfd Z:=by refine' okN ["block"] D λl=>⟨_,(Jc (Jf (JO dli (dl (Je (dlv 0) dli))))),?_⟩;rintro ts n R hl @⟨i,h,n,R,g0,g1,hh⟩;wp_walk;exact cpow (by lia) (by lia);rw[Qy];exact hh
inductive zhw:qD->Nat->qN->Prop
 | c {i h g:Int} {n:Nat} {R:qN} (g0:0<=g) (g1:g<=1000) (i0:0<=i) (i1:i<2 ^ 64) (h':R (lV [bu (i / 2 ^ ap g*2 ^ ap g),bu g]) n):zhw [lV [bu i,bu h],bu g] n R
def zki(Z:ZZ):Prop:=QF Z "around" 5 ["block","height"] 1 2 zhw
theorem zna(D:DQ Z "around" 5 ["block","height"]) (T:Txt Z.mg):zki Z:=by refine' okN ["block","height"] D λl=>⟨_,(Jc (Jf (Jp (dbc (JO (dl (zwH (dl (Je (dlv 0) dli)) (dlv 1))) (dlv 1)) (dbv 1 Ja))))),?_⟩;rintro ts n R hl @⟨i,h,g,n,R,g0,g1,i0,i1,hh⟩;simp only[Va,Z9,Vb,Z8,u_dC,ZK,Z4,Z6,Z5,Vk,ZJ,Vs,Vu,Vm,Vl,Vt,Z7,ZV,Zl,YX,YY,YZ,Zk,Y0,Zs,YO,YQ,oSub,oMul,oMod,UN,oShl,oShr,oXor,oAnd,isNone,isInt,isBool,isTup,isStr,l_gI,ZC,Y6,Y7,Y8,Yw,Yy,Yz,Yx,YK,YM,YN,YL,YB,YC,Zg,YA,Zq,YH,YF,YG,Zc,Zd,YR,Za,Zb,YS,YT,Yv,YJ,YI,Y9,Zr,Zh,Zp,Uf,Ug,Ur,Uw,UC,UD,UB,UA,Qm,JV,capV,aU,fL,aP,dh,cJ,gF,eM,fF,cE,eK,fC,eD,fh,gG,gH,fM,Nat.reduceAdd,Nat.reduceSub,gR,true_and,and_true,bz,if_true,if_false,ite_true,ite_false,g6,fU,ir];refine⟨g0,⟨g0,by lia,?_⟩,hh⟩;have:i / 2 ^ ap g<=i:=nG _ i0;have:0<=i / 2 ^ ap g:=iN i0 (bG (JE _));lia
inductive zjV:qD->Nat->qN->Prop
 | c {i h j g:Int} {n:Nat} {R:qN} (h0:0<=h) (h1:h<=1000) (j0:0<=j) (j1:j<2 ^ 64) (h':R (dQ (hldD i h j g)) n):zjV [lV [bu i,bu h],lV [bu j,bu g]] n R
def zmJ(Z:ZZ):Prop:=QF Z "holds" 4 ["one","other"] 2 2 zjV
theorem zpE(D:DQ Z "holds" 4 ["one","other"]) (o:zki Z) (T:Txt Z.mg):zmJ Z:=by refine' okN ["one","other"] D λl=>⟨_,(Jc (Jf (Ud (J3 Yq gp_B (dl (Je (dlv 0) dli)) (dl (Je (dlv 1) dli)) (Jg _)) (QJ (J3 (Qc l) Qa (dl (Jd o l (dbv 1 (dbc (Je (dlv 0) dli) Ja)))) (dlv 0) (Jg _)))))),?_⟩;rintro ts n R hl @⟨i,h,j,g,n,R,g0,g1,j0,j1,hh⟩;unfold hldD at hh;wp_walk using zhw.c g0 g1 j0 j1 ?_;exact UA;exact UA;rw[decide_eq_true hc,cD]at hh;rw[zqf];simpa using hh;rw[decide_eq_false hc,cz]at hh;exact hh
inductive zcZ:qD->Nat->qN->Prop
 | c {i h:Int} {n:Nat} {R:qN} (g0:0<=h) (g1:h<=1000) (h':R (lV [bu (bW i (2 ^ ap h)),bu h]) n):zcZ [lV [bu i,bu h]] n R
def zeI(Z:ZZ):Prop:=QF Z "other_half" 6 ["block"] 1 1 zcZ
theorem zhc(D:DQ Z "other_half" 6 ["block"]) (T:Txt Z.mg):zeI Z:=by refine' okN ["block","begin","height"] D λl=>⟨_,(Jb (QK (Jh 0) (JF rfl (Jj (dgv 1 (ndB rfl)) (Jj (dgv 2 (ndB rfl)) JD)))) (Jc (Jf (Jp (dbc (zn_ (dlv 1) (dl (JO dli (dlv 2)))) (dbv 2 Ja)))))),?_⟩;rintro ts n R hl @⟨i,h,n,R,g0,g1,hh⟩;simp only[Va,Z9,Vb,Z8,u_dC,ZK,Z4,Z6,Z5,Vk,ZJ,Vs,Vu,Vm,Vl,Vt,Z7,ZV,Zl,YX,YY,YZ,Zk,Y0,Zs,YO,YQ,oSub,oMul,oMod,UN,oShl,oShr,oXor,oAnd,isNone,isInt,isBool,isTup,isStr,l_gI,ZC,Y6,Y7,Y8,Yw,Yy,Yz,Yx,YK,YM,YN,YL,YB,YC,Zg,YA,Zq,YH,YF,YG,Zc,Zd,YR,Za,Zb,YS,YT,Yv,YJ,YI,Y9,Zr,Zh,Zp,Uf,Ug,Ur,Uw,UC,UD,UB,UA,Qm,JV,capV,aU,fL,aP,dh,cJ,gF,eM,fF,cE,eK,fC,eD,fh,gG,gH,fM,Nat.reduceAdd,Nat.reduceSub,gR,true_and,and_true,bz,if_true,if_false,ite_true,ite_false,g6,fU,ir];refine⟨cpow g0 (by lia),?_⟩;rw[bR];exact hh
inductive WX:qD->Nat->qN->Prop
 | c {d:af} {n:Nat} {R:qN} (p:PlnD d) (h:R (dQ (nmD d)) n):WX [d] n R
def zh_(Z:ZZ):Prop:=QF Z "is_name" 8 ["thing"] 1 1 WX
theorem zlq(D:DQ Z "is_name" 8 ["thing"]) (T:Txt Z.mg):zh_ Z:=by
 refine' okN ["thing"] D λY=>⟨_,(Jb (Jo (JK (J9 (JQ (JH (dl (Qo Wf T.isi T.str WS (dlv 0) Jv)))) (Qp (JQ (zqj Qj Qh Qj Qh dli (dl (Jw Qw Qv T.len Qs (Jk (dlv 0) Jn Jv))) dli))))) (Jc (Jf JC)) Jq) (Jc (Jf (Jw (Uv rfl) Uq T.all UF (Jk (dl (Jr (dnc ["letter"] [] (dil (zwE (Jh 0))) (λ_ _ _ _=>(dgv 0 (ndB rfl))) (λ_ _ _ _=>(Wy Qj Qh Qj Qh (dl JM) (dlv 0) (dl JM)))))) Jn Qr))))),?_⟩;intro ts n R S h;obtain @⟨d,n,R,p,h⟩:=h;cases d with
 | str z =>
  have hz:=p.str;have C:(aa "a").cps.toList=[97]:=by decide +kernel
  have J:(aa "z").cps.toList=[122]:=by decide +kernel
  have e:nmD (cH z)=(decide (1<=nN z)&&decide (nN z<=8)&&z.cps.toList.all λc=>decide (97<=c)&&decide (c<=122)):=rfl;rw[e]at h;wp_walk;lia
  ·refine Qt (cs:=nK z.cps) (D:=λc=>cH ⟨#[c]⟩) (λc=>dQ (decide (97<=c)&&decide (c<=122))) (by rw[QC];lia) ?_ ?_
   ·intro c N K2 U u;wp_walk;have z:c<97:=zm7.mp (show([c]:List Nat)<[97] from C▸hc);rw[decide_eq_false (show ¬97<=c by lia),cz]at u;exact u;have z:¬c<97:=λy=>hc (dv C▸zm7.mpr y);rw[decide_eq_true (show 97<=c by lia),cD]at u;have I:(!decide ((aa "z").cps.toList<(⟨#[c]⟩:Str).cps.toList))=decide (c<=122):=by
     rw[J];exact zsD
    rw[I];exact u
   ·wp_walk using Uk ?_;have x:1<=nN z:=by lia
    have v:nN z<=8:=by lia
    rw[decide_eq_true x,decide_eq_true v]at h;exact h
  have v:¬nN z<=8:=by lia
  rw[decide_eq_false v,ko,cz]at h;exact h;have x:¬1<=nN z:=by lia
  rw[decide_eq_false x,cz,cz]at h;exact h
 | dict G =>
  cases G with
  | nil =>wp_walk;exact h
  | cons a b=>exact absurd rfl (PlnD.pln p)
 | _ =>wp_walk;exact h
inductive Yk:qD->Nat->qN->Prop
 | c {i h:Int} {n:Nat} {R:qN} (g0:0<=h) (g1:h<=1000) (h':R (bu (i+2 ^ ap h)) n):Yk [lV [bu i,bu h]] n R
def Vp(Z:ZZ):Prop:=QF Z "end_of" 20 ["block"] 2 1 Yk
theorem zm_(D:DQ Z "end_of" 20 ["block"]) (l:zfd Z) (T:Txt Z.mg):Vp Z:=by refine' okN ["block"] D λo=>⟨_,(Jc (Jf (JR (dl (Je (dlv 0) dli)) (dl (Jd l o (dbv 0 Ja)))))),?_⟩;rintro ts n R hl @⟨i,h,n,R,g0,g1,hh⟩;wp_walk using WY.c ?_ ?_ ?_;lia;lia;exact hh
def IsPt(bits:Int)(d:af):Prop:=∃bs:List (Int×Int),d=lV (pD bs)/\Ptc bits bs
def Pl3(d:af):Prop:=Pln d/\∀ts,d=lV ts->fo ts<=1000000/\∀t∈ts,Pl2 t
theorem zoz{bits:Int}(v:0<=bits):∀(ts:qD),ts.all (J4 bits)=du->∃bs,ts=pD bs/\Bks bits bs
 | [],_=>⟨[],rfl,λb hb=>nomatch hb⟩
 | t::ts,h=>by rw[ni,aF]at h;obtain⟨bs,rfl,B⟩:=zoz v ts h.2;have o:=h.1;unfold J4 at o;split at o;rename_i b g;have:=(WM v).mp (show J4 bits (lV [bu b,bu g])=du from o);refine⟨(b,g)::bs,rfl,λc hc=>?_⟩;rcases ay.mp hc with rfl|hc;exact this;exact B c hc;cases o
theorem zm0:∀{bs cs:qB},pD bs=pD cs->bs=cs
 | [],[],_=>rfl
 | [],_::_,h=>by cases h
 | _::_,[],h=>by cases h
 | (a,b)::bs,(c,d)::cs,h=>by simp only[pD,aU,eh,gW,su,and_true]at h;obtain⟨⟨rfl,rfl⟩,h⟩:=h;rw[zm0 h]
inductive zet:qD->Nat->qN->Prop
 | c {bits:Int} {d:af} {n:Nat} {R:qN} (b0:0<=bits) (b1:bits<=64) (p:Pl3 d) (h:∀b:Bool,(b=du↔IsPt bits d)->R (dQ b) n):zet [bu bits,d] n R
def zgq(Z:ZZ):Prop:=QF Z "is_patch" 10 ["bits","thing"] 3 2 zet
theorem zju(D:DQ Z "is_patch" 10 ["bits","thing"]) (Le:zef Z) (K6:Vp Z) (T:Txt Z.mg):zgq Z:=by
 refine' okN ["bits","thing"] D λI=>⟨_,(Jb (Jo (JQ (JH (dl (Qo Uz T.isi T.tup Qn (dlv 1) Jv)))) (Jc (Jf JC)) Jq) (Jb (Jo (JQ (JH (dl (Jw (Uv rfl) Uq T.all UF (Jk (dl (Jr (dnc ["block"] [0] (dil (JP (Jh 1))) (λ_ _ _ _=>(dgv 0 (ndB rfl))) (λ_ _ _ _=>(Jd Le I (dbv 1 (dbv 0 Ja))))))) Jn Qr))))) (Jc (Jf JC)) Jq) (Jc (Jf (Jw (Uv rfl) Uq T.all UF (Jk (dl (Jr (dnc ["one","other"] [] (dil (zrr T.zip (Jh 1) (WU (dlv 1) (Ze Ji) Zn))) (λ_ _ _ _=>(JF rfl (Jj (dgv 0 (ndB rfl)) (Jj (dgv 1 (ndB rfl)) JD)))) (λ_ _ _ _=>(J3 Qj Qh (dl (Jd K6 I (dbv 0 Ja))) (dl (Je (dlv 1) dli)) (Jg _)))))) Jn Qr)))))),?_⟩;intro ts n R hl h;obtain @⟨bits,d,n,R,b0,b1,⟨p,G⟩,h⟩:=h;cases d with
 | dict U =>
  cases U with
  | nil =>have h:=h dy ⟨λz=>(by cases z),λ⟨bs,e,_⟩=>(by cases e)⟩;wp_walk;exact h
  | cons a b=>exact absurd rfl p
 | tuple ts =>
  obtain⟨L,G⟩:=G ts rfl;wp_walk;refine WG (λt=>dQ (J4 bits t)) (by lia) ?_ ?_
  ·intro t ht K2 S v;wp_walk using WI.c b0 b1 (G t ht) ?_;exact v
  ·wp_walk using Uk ?_
   ·obtain⟨bs,rfl,B⟩:=zoz b0 ts hc;rw[zqv,ztN];rw[JA]at L;refine Qt (cs:=bs.zip bs.tail) (D:=λq:(Int×Int)×(Int×Int)=>lV [prD q.1,prD q.2]) (λq:(Int×Int)×(Int×Int)=>dQ (decide (eB q.1<=q.2.1))) (by rw[lB];lia) ?_ ?_
    ·rintro⟨⟨i,g⟩,⟨j,k⟩⟩ C K2 S v;have J:=B _ (dZ C).1;have N:0<=g:=J.1;have g1:g<=bits:=J.2.1;wp_walk using Yk.c ?_ ?_ ?_;exact N;exact(show g<=1000 by lia);exact v
    ·wp_walk using Uk ?_;refine h _ ?_;rw[bM];constructor;intro al;exact⟨bs,rfl,B,(zk2 (bits:=bits)).mp λq C=>by simpa using al q C⟩;rintro⟨cs,e,P⟩ q C;have Y:bs=cs:=zm0 (by simpa using e);subst Y;simpa using(zk2 (bits:=bits)).mpr P.2 q C
   rename_i hc;refine h dy ⟨λz=>(by cases z),λ⟨bs,e,P⟩=>?_⟩;cases e;have:(pD bs).all (J4 bits)=du:=by rw[bM];intro x hx;obtain⟨b,hb,rfl⟩:=aA.mp hx;exact(WM b0).mpr (P.1 b hb)
   rw[this]at hc;cases hc
 | _ =>have h:=h dy ⟨λz=>(by cases z),λ⟨bs,e,_⟩=>(by cases e)⟩;wp_walk;exact h
inductive zex:qD->Nat->qN->Prop
 | c {bs:qB} {n:Nat} {R:qN} (hb:∀b∈bs,0<=b.2/\b.2<=64) (hl:fo bs<=1000000) (h:R (bu (bs.map λb=>(2:Int) ^ ap b.2).sum) n):zex [lV (pD bs)] n R
def zgt(Z:ZZ):Prop:=QF Z "count_of" 11 ["patch"] 2 1 zex
theorem zjz(D:DQ Z "count_of" 11 ["patch"]) (v:zfd Z) (T:Txt Z.mg):zgt Z:=by
 refine' okN ["patch"] D λo=>⟨_,(Jc (Jf (Jw (zos rfl) zwp T.sum zox (Jk (dl (Jr (dnc ["block"] [] (dil (JP (Jh 0))) (λ_ _ _ _=>(dgv 0 (ndB rfl))) (λ_ _ _ _=>(Jd v o (dbv 0 Ja)))))) Jn Qr)))),?_⟩;intro ts n R x h;obtain @⟨bs,n,R,hb,hl6,h⟩:=h;wp_walk;refine Qt (cs:=bs) (D:=prD) (λb=>bu (2 ^ ap b.2)) (by lia) ?_ ?_
 ·rintro⟨i,g⟩ hq K2 X2 hK2;have l:=hb _ hq;have u:0<=g:=l.1;have g1:g<=64:=l.2;wp_walk using WY.c ?_ ?_ ?_;exact u;exact(show g<=1000 by lia);exact hK2
 ·wp_walk using zy5 ?_;exact h
theorem zl1{hi:Int}(h:0<hi):Q5 0 hi hi.toNat.log2:=⟨by simp,by have:=znp h;lia,λz=>by have:=znk h;have:=z.2;lia⟩
theorem znL{lo hi:Int}{t:Nat}(h:lo<hi)(u:lo % 2 ^ t=0)(v:¬lo % 2 ^ (t+1)=0):Q5 lo hi (min (hi - lo).toNat.log2 t):=by have a:=znp (i:=hi - lo) (by lia);have b:=znk (i:=hi - lo) (by lia);rcases wB (hi - lo).toNat.log2 t with z|z;rw[fD z];exact⟨Yn z u,a,λy=>by have:=y.2;lia⟩;rw[Nat.min_eq_right z];exact⟨u,bT (Ux z) a,λy=>v y.1⟩
theorem zpS(t:Nat):((2:Int) ^ t).toNat.log2=t:=by
 have e:ap ((2:Int) ^ t)=2 ^ t:=by
  have:((2 ^ t:Nat):Int)=(2:Int) ^ t:=by rw[gZ];rfl
  rw[<- this];rfl
 rw[e,Nat.log2_two_pow]
inductive zbK:qD->Nat->qN->Prop
 | c {lo hi:Int} {n:Nat} {R:qN} (l0:0<=lo) (l1:lo<hi) (h:∀g:Nat,Q5 lo hi g->R (bu g) n):zbK [bu lo,bu hi] n R
def zcm(Z:ZZ):Prop:=QF Z "greatest_height" 21 ["begin","high"] 1 2 zbK
theorem zdR(D:DQ Z "greatest_height" 21 ["begin","high"]) (T:Txt Z.mg):zcm Z:=by
 refine' okN ["begin","high","room"] D λx=>⟨_,(Jb (dsv 2 (ndB rfl) (UT (dl (zi4 (dl (UT (dlv 1) (dlv 0))))) dli)) (Jb (Jo (Jl (Qc x) Qa (dlv 0) dli (Jg _)) (Jc (Jf (Jh 2))) Jq) (Jc (Jf (Jw (VC rfl) ZU T.min Yh (Jk (dlv 2) (Jk (dl (UT (dl (zi4 (dl (zwL (dlv 0) (dl (Yc (Jh 0))))))) dli)) Jn Z3) Jv)))))),?_⟩;intro ts n R C h;obtain @⟨lo,hi,n,R,l0,l1,h⟩:=h;have room:=zfB (i:=hi - lo) (by lia);wp_walk;rw[room];subst hc;have:=h _ (zl1 l1);rw[wK];exact this;obtain⟨t,t1,v⟩:=zxC (b:=lo) (by lia);have an:=ztE (b:=lo) (by lia) t1 v;have u:=zfB (i:=(2:Int) ^ t) (JE t);rw[zpS]at u;rw[an,room,u];have:=h _ (znL l1 t1 v);have e:(if (t:Int)<((hi - lo).toNat.log2:Int) then(t:Int) else((hi - lo).toNat.log2:Int))=((min (hi - lo).toNat.log2 t:Nat):Int):=by split <;> lia
 rw[e];exact this
inductive Yd:qD->Nat->qN->Prop
 | c {lo hi:Int} {n:Nat} {R:qN} (l0:0<=lo) (l1:lo<=hi) (l2:hi<=2 ^ 64) (h:∀bs,Jz lo hi bs->R (lV (pD bs)) n):Yd [bu lo,bu hi] n R
def zq2(Z:ZZ):Prop:=QF Z "span" 13 ["low","high"] 3 2 Yd
theorem zsl(D:DQ Z "span" 13 ["low","high"]) (Y:Vp Z) (Ld:zcm Z) (T:Txt Z.mg):zq2 Z:=by
 refine' okN ["low","high","blocks","begin","block"] D λI=>⟨_,(Jb (Uo (i:=2) (ndB rfl) rfl (dY rfl) (JU Ja)) (Jb (dsv 3 (ndB rfl) (Jh 0)) (Jb (zhx cF (Jl (Qk I) Qi (dlv 3) (dlv 1) (Jg _)) (Jb (dsv 4 (ndB rfl) (Jp (dbv 3 (dbc (Jd Ld I (dbv 3 (dbv 1 Ja))) Ja)))) (Jb (QD 2 (Jh 4)) (Jc (dsv 3 (ndB rfl) (Jd Y I (dbv 4 Ja))))))) (Uh 2 (Jc (Jf (QH UI Uy T.tup Qn (Jk (dlv 2) Jn Jv)))))))),?_⟩;intro ts n R hl h;obtain @⟨lo,hi,n,R,l0,l1,l2,h⟩:=h;obtain⟨all,A⟩:=zmm _ lo hi (aC _) l1;have al:=A.len l0 l2;wp_walk;refine zmb (λm J L=>L=n/\∃(bs rest:qB) (C:Int) (U:Option Cell),J=[ao (.val (bu lo)),ao (.val (bu hi)),ao (.own (pD bs)),ao (.val (bu C)),U]/\all=bs++rest/\Jz C hi rest/\lo<=C/\m=fo rest) (m:=fo all) ⟨rfl,[],all,lo,_,rfl,rfl,A,aL _,rfl⟩ ?_;rintro m J L NX RT BK ⟨rfl,bs,rest,C,U,rfl,x,S,lb,rfl⟩ hN hR hB;wp_walk
 ·cases rest with
  | nil=>have:C=hi:=S;lia
  | cons b r =>
   obtain⟨s1,s2,s3,s4,s5⟩:=S;refine zbK.c (by lia) hc λg G=>?_;have eg:ap b.2=g:=s4.uniq G;have eb:b=(C,(g:Int)):=gK s2 (by show b.2=(g:Int);lia);have gl:g<=64:=by
    rcases gP 64 g with z|z;have:=Ux (show 65<=g by lia);have:=G.2.1;have e:(2:Int) ^ 65=2*2 ^ 64:=by decide
    lia;exact z
   wp_walk using Yk.c (by lia) (by lia) ?_;rw[JA];have:=congrArg fo x;rw[aO]at this;lia;refine hN (fo r) _ _ (by simp) ⟨rfl,bs++[b],r,C+2 ^ ap (g:Int),ao (.val (lV [bu C,bu (g:Int)])),by rw[eb,<- UV],by rw[x];simp,?_,?_,rfl⟩;rw[eg]at s5;simpa using s5;have:=JE (ap (g:Int));lia
 ·have e:C=hi:=by have:=S.le;lia
  cases rest with
  | cons b r=>have:=S.1;lia
  | nil =>refine hB _ _ ?_;wp_walk;rw[cE]at x;rw[<- x];exact h _ A
inductive Zw:qD->Nat->qN->Prop
 | c {rs:qB} {n:Nat} {R:qN} (w:∀r∈rs,0<=r.1/\r.1<=r.2/\r.2<=2 ^ 64) (l:fo rs<=100000) (h:∀ps,PatS rs ps->R (lV (pD ps)) n):Zw [sJ (pD rs)] n R
theorem zmY:∀{rs:qB},(∀r∈rs,r.1<=r.2)->∃ps,PatS rs ps
 | [],_=>⟨[],rfl⟩
 | r::rs,h=>by obtain⟨a,A⟩:=zmm _ r.1 r.2 (aC _) (h r (by simp));obtain⟨b,B⟩:=zmY (rs:=rs) λs l=>h s (by simp[l]);exact⟨a++b,a,b,rfl,A,B⟩
theorem zk0{g:DTG}{d:DTE}{o:En}{n:Nat}{Rl:qD->Nat->Prop}:∀(xs acc:qD),(∀x∈xs,∀K:qN,K x n->g x o λl=>d l n K)->fo acc+fo xs<=16777216->Rl (acc++xs) n->Qb g dYes d o xs acc n Rl
 | [],acc,_,_,h=>(by simpa using h:Rl acc n)
 | x::xs,acc,hg,hl,h=>by
  have e:(λl=>dYes l n λb v=>if b=du then d l v λt u=>fo acc<16777216/\Qb g dYes d o xs (acc++[t]) u Rl else Qb g dYes d o xs acc v Rl)=λl=>d l n λt u=>fo acc<16777216/\Qb g dYes d o xs (acc++[t]) u Rl:=by funext l;exact propext ⟨λz=>by simpa[dYes] using z,λz=>by simpa[dYes] using z⟩
  show g x o λl=>dYes l n λb v=>if b=du then d l v λt u=>fo acc<16777216/\Qb g dYes d o xs (acc++[t]) u Rl else Qb g dYes d o xs acc v Rl
  rw[e];refine hg x (by simp) _ ⟨by simp at hl;lia,zk0 xs (acc++[x]) (λy C=>hg y (by simp[C])) (by simp at hl ⊢;lia) (by simpa using h)⟩
def WK(Z:ZZ):Prop:=QF Z "patch_of" 22 ["runs"] 4 1 Zw
theorem zjs(D:DQ Z "patch_of" 22 ["runs"]) (S:zq2 Z) (T:Txt Z.mg):WK Z:=by
 refine' okN ["runs"] D λI=>⟨_,(Jc (Jf (QH UI Uy T.tup Qn (Jk (dl (Jr (zkT (own:=["low","high","block"]) (capt:=[]) rfl (JB.of rfl) (dil (zn6 (Jh 0))) (λ_ _ _ _=>(JF rfl (Jj (dgv 0 (ndB rfl)) (Jj (dgv 1 (ndB rfl)) JD)))) (by decide) (λ_ _ _ _=>U3) (λ_ _ _ _=>(JP (Jd S I (dbv 0 (dbv 1 Ja))))) (λ_ _ _ _=>(dgv 2 (ndB rfl))) (by decide) (λ_ _ _ _=>U3) (λ_ _ _ _=>(Jh 2))))) Jn Qr)))),?_⟩;intro ts n R hl h;obtain @⟨rs,n,R,w,l,h⟩:=h;wp_walk;have key:∀(rs:qB) (acc ps:qB),(∀r∈rs,0<=r.1/\r.1<=r.2/\r.2<=2 ^ 64)->fo acc+130*fo rs<=16777216->PatS rs ps->∀K:qD->Nat->Prop,K (pD (acc++ps)) n ->
   U2 (UQ (QS (Qe 0) (QS (Qe 1) UP))) dYes (dItT (dFn Yd (JZ (dVar 0) (JZ (dVar 1) dNil)))) (Qe 2) dYes (dVar 2) [bj,bj,bj] (pD rs) (pD acc) n K:=by
  intro rs;induction rs with
  | nil =>intro acc ps _ _ P K G;cases(show ps=[] from P);rw[cE]at G;exact G
  | cons r rs ih =>
   intro acc ps w la P K G;obtain⟨a,b,rfl,N,U⟩:=P;have v:=w r (by simp);have ll:=N.len v.1 v.2.2;show UQ (QS (Qe 0) (QS (Qe 1) UP)) (lV [bu r.1,bu r.2]) [bj,bj,bj] λo=>dYes o n λb L=>if b=du then dItT (dFn Yd (JZ (dVar 0) (JZ (dVar 1) dNil))) o L λts Y=>Qb (Qe 2) dYes (dVar 2) o ts (pD acc) Y λC n4=>U2 (UQ (QS (Qe 0) (QS (Qe 1) UP))) dYes (dItT (dFn Yd (JZ (dVar 0) (JZ (dVar 1) dNil)))) (Qe 2) dYes (dVar 2) [bj,bj,bj] (pD rs) C n4 K else U2 (UQ (QS (Qe 0) (QS (Qe 1) UP))) dYes (dItT (dFn Yd (JZ (dVar 0) (JZ (dVar 1) dNil)))) (Qe 2) dYes (dVar 2) [bj,bj,bj] (pD rs) (pD acc) L K
   rw[aP]at la;wp_walk using Yd.c v.1 v.2.1 v.2.2 (λbs B=>?_);rw[B.uniq N];refine zk0 _ _ (λx hx K2 J=>?_) (by rw[JA,JA];lia) ?_
   ·wp_walk;exact J
   rw[ZO];exact ih (acc++a) b (λs hs=>w s (by simp[hs])) (by rw[aO];lia) U K (by rw[aM];exact G)
 obtain⟨ps,P⟩:=zmY (rs:=rs) λr I=>(w r I).2.1;refine key rs [] ps w (by simp;lia) P _ ?_;wp_walk;exact h ps P
theorem znz{bits:Int}{bs:qB}{t:af}{Rl:qD->Prop}(Y:t=sJ (pD bs)\/t=lV (pD bs))(hb:bits<=64)(B:Bks bits bs)(I:fo bs<100000)
  (h:∀cs:List (Int×Int),cs.Perm bs->cs.Pairwise (λa b=>a.1<=b.1)->Rl (pD cs)):Yu t Rl:=by
 have key:fo (pD bs)<100000/\(∀x∈pD bs,IsPr x)/\∀o:List af,o.Perm (pD bs)->o.Pairwise (λa b=>rkD a<=rkD b)->Rl o:=by
  refine⟨by rw[JA];exact I,λx hx=>?_,λo pm pw=>?_⟩;obtain⟨b,G,rfl⟩:=aA.mp hx;have:=B b G;exact⟨b.1,b.2,rfl,this.1,by have:=this.2.1;lia⟩;have C:o.Perm ((bs.map λb=>(b,prD b)).map (·.2)):=by
   have:(bs.map λb=>(b,prD b)).map (·.2)=pD bs:=by simp[pD]
   rw[this];exact pm
  obtain⟨zs,L,U⟩:=zg8 C;have S:∀z∈zs,z.2=prD z.1:=λz J=>by obtain⟨b,_,rfl⟩:=aA.mp (L.mem_iff.mp J);rfl
  have e:o=pD (zs.map (·.1)):=by rw[<- U];unfold pD;rw[bS];exact gD λz J=>S z J
  have pc:(zs.map (·.1)).Perm bs:=by
   have:=L.map (·.1);rw[bS]at this;have R:bs.map ((λx:(Int×Int)×af=>x.1)∘λb=>(b,prD b))=bs:=by show bs.map id=bs;exact oO _
   rwa [R]at this
  rw[e];have v:Bks bits (zs.map (·.1)):=λb hb=>B b (pc.mem_iff.mp hb);rw[e]at pw;unfold pD at pw;rw[dE]at pw;refine h _ pc (iG ?_ pw);intro a b ha hb N;have N:a.1*1000+a.2<=b.1*1000+b.2:=N;have a0:=(v a ha).1;have a1:=(v a ha).2.1;have b0:=(v b hb).1;have b1:=(v b hb).2.1;lia
 rcases Y with rfl|rfl <;> exact key
inductive Yo:qD->Nat->qN->Prop
 | c {bits:Int} {bs:qB} {t:af} {n:Nat} {R:qN} (ht:t=sJ (pD bs)\/t=lV (pD bs)) (b0:0<=bits) (b1:bits<=64) (B:Bks bits bs) (l:fo bs<100000) (h:∀rs,NR rs->(∀x,mR x rs↔mB x bs)->fo rs<=fo bs->R (sJ (pD rs)) n):Yo [t] n R
def WP(Z:ZZ):Prop:=QF Z "runs_of" 23 ["blocks"] 3 1 Yo
theorem zlm(D:DQ Z "runs_of" 23 ["blocks"]) (K6:Vp Z) (T:Txt Z.mg):WP Z:=by
 refine' okN ["blocks","runs","block","low","high"] D λC=>⟨_,(Jb (Uo (i:=1) (ndB rfl) rfl (dY rfl) (JU Ja)) (Jb (QQ cF rfl (Ut (Jr (zfN C T.srt (dlv 0) Jv))) (dgv 2 (ndB rfl)) (Jc (Jo (JK (Q3 (JH (Y3 1)) (Q4 (Jl Qj Qh (dl (Je (dlv 2) dli)) (dl (Je (dl (Je (Y3 1) (dl (Yc Ji)))) dli)) (Jg _))))) (Jb (QK (Je (Y3 1) (dl (Yc Ji))) (JF rfl (Jj (dgv 3 (ndB rfl)) (Jj (dgv 4 (ndB rfl)) JD)))) (Jc (zwD 1 (Yc Ji) (Jp (dbv 3 (dbc (Jw (VB rfl) ZS T.max Vy (Jk (dlv 4) (Jk (dl (Jd K6 C (dbv 2 Ja))) Jn U1) Jv)) Ja)))))) (Jc (QD 1 (Jp (dbc (Je (dlv 2) dli) (dbc (Jd K6 C (dbv 2 Ja)) Ja)))))))) (Uh 1 (Jc (Jf (Jh 1)))))),?_⟩;intro ts n R hl h;obtain @⟨bits,bs,t,n,R,ht,b0,b1,B,l,h⟩:=h;wp_walk;refine znz ht b1 B l λcs pm pw=>?_;have Bc:Bks bits cs:=λb hb=>B b (pm.mem_iff.mp hb);have lc:=pm.length_eq;refine znR 1 2 3 4 (λk a1 _ _ _ m=>m=n/\∃rs:List (Int×Int),a1=ao (.own (pD rs))/\NR rs/\(∀x,mR x rs↔mB x (cs.take k))/\fo rs<=k/\∀r∈rs,∀b∈cs.drop k,r.1<=b.1) ⟨rfl,[],rfl,⟨(λr C=>nomatch C),mO⟩,(λx=>⟨λz=>absurd z Qq,λz=>absurd z ZY⟩),aC _,λr C=>nomatch C⟩ ?_ ?_
 ·rintro k t' a1 a2 a3 a4 m K RT BK et ⟨rfl,rs,rfl,nr,me,lr,lo⟩ hK hRT hBK;obtain⟨i,g,S,rfl⟩:=YV et;have kl:=(aq.mp S).1;have Bb:=Bc _ (aQ S);have Y:0<=g:=Bb.1;have g1:g<=bits:=Bb.2.1;have pg:=JE (ap g);have tk:cs.take (k+1)=cs.take k++[(i,g)]:=by rw[dW,S];rfl
  have N:cs.drop k=(i,g)::cs.drop (k+1):=by rw[bO kl];congr 1;have:=aw kl;rw[S]at this;exact(aX this).symm
  have after:∀b∈cs.drop (k+1),i<=b.1:=λb hb=>by have:cs.Pairwise λa b=>a.1<=b.1:=pw;have:=(this.sublist (ke k cs));rw[N]at this;exact(cx.mp this).1 b hb
  have m1:∀x,mB x (cs.take (k+1))↔mB x (cs.take k)\/(i<=x/\x<i+2 ^ ap g):=λx=>by rw[tk,ZW,zjH];constructor;rintro(z|z|z);exact dY z;exact sr z;exact absurd z ZY;rintro(z|z);exact dY z;exact sr (dY z)
  have new:(∀r∈rs,r.2<i)->∀c2 c3 c4,K [ao (.val t),ao (.own (pD rs++[lV [bu i,bu (i+2 ^ ap g)]])),c2,c3,c4] m:=λU c2 c3 c4 =>
   hK _ _ _ _ _ ⟨rfl,rs++[(i,i+2 ^ ap g)],by rw[<- UV],⟨λr C=>by
    rcases au.mp C with z|z;exact nr.1 r z;cases av.mp z;show i<i+2 ^ ap g;lia,by
    rw[bP];exact⟨nr.2,cU _ _,λa ha b hb=>by cases av.mp hb;exact U a ha⟩⟩,(λx=>by
    rw[QZ,me,m1,J7];constructor;rintro(z|z|z);exact dY z;exact sr z;exact absurd z Qq;rintro(z|z);exact dY z;exact sr (dY z)),by simp;lia,λr C b hb=>by
    rcases au.mp C with z|z;exact lo r z b (by rw[N];simp[hb]);cases av.mp z;exact after b hb⟩
  rcases oA rs with rfl|⟨G,r,rfl⟩
  ·wp_walk using Yk.c Y (by lia) ?_;show 0<16777216;decide;exact new (λr C=>nomatch C) _ _ _;exact absurd hc (by simp[pD])
  ·rw[oB]at *;have sn:pD (G++[r])=pD G++[lV [bu r.1,bu r.2]]:=by simp[pD]
   have lr':fo G+1<=k:=by simpa using lr
   have r12:=nr.1 r (by simp);have rlo:r.1<=i:=lo r (by simp) (i,g) (by rw[N];simp);have I:=bP.mp nr.2;rw[sn]at new ⊢;wp_walk using zkC ?_,Yk.c Y (by lia) ?_;all_goals first
    | (exfalso;simp at hc;done)
    | (exfalso;rename_i y;simp at y;done)
    | (simp[JA];lia)
    | skip
   ·refine zur zkE ?_;wp_walk;rw[List.set_append_right _ _ (aC _),gR];have mx:(if i+2 ^ ap g > r.2 then i+2 ^ ap g else r.2)=max r.2 (i+2 ^ ap g):=by split <;> lia
    refine hK _ _ _ _ _ ⟨rfl,G++[(r.1,max r.2 (i+2 ^ ap g))],?_,⟨λs L=>?_,?_⟩,λx=>?_,by simp;lia,λs L b hb=>?_⟩;rw[mx];simp[pD];rcases au.mp L with z|z;exact nr.1 s (by simp[z]);cases av.mp z;show r.1<max r.2 _;lia;rw[bP];exact⟨I.1,cU _ _,λa ha b hb=>by cases av.mp hb;exact I.2.2 a ha r (by simp)⟩;have J:=me x;rw[QZ,J7]at J;rw[QZ,J7,m1,<- J];have nn:=Qq (x:=x);show _\/(r.1<=x/\x<max r.2 (i+2 ^ ap g))\/_↔_;constructor;rintro(z|z|z);exact dY (dY z);by_cases w:x<r.2;exact dY (sr (dY ⟨z.1,w⟩));exact sr (by lia);exact absurd z nn;rintro((z|z|z)|z);exact dY z;exact sr (dY (by lia));exact absurd z nn;exact sr (dY (by lia));rcases au.mp L with z|z;exact lo s (by simp[z]) b (by rw[N];simp[hb]);cases av.mp z;exact lo r (by simp) b (by rw[N];simp[hb])
   refine new (λs L=>?_) _ _ _;rcases au.mp L with z|z;have:=I.2.2 s z r (by simp);have:=nr.1 r (by simp);lia;cases av.mp z;lia
 ·rintro a1 a2 a3 a4 m ⟨rfl,rs,rfl,nr,me,lr,lo⟩;rw[JA]at me lr;rw[ff]at me;wp_walk;exact h rs nr (λx=>by rw[me x,znj pm]) (by lia)
inductive zhv:qD->Nat->qN->Prop
 | c {bits:Int} {bs:qB} {t:af} {n:Nat} {R:qN} (ht:t=sJ (pD bs)\/t=lV (pD bs)) (b0:0<=bits) (b1:bits<=64) (B:Bks bits bs) (l:fo bs<100000) (h:∀ps,CanP (λx=>mB x bs) ps->fo ps<=fo bs->R (lV (pD ps)) n):zhv [t] n R
def zkh(Z:ZZ):Prop:=QF Z "fewest" 12 ["blocks"] 5 1 zhv
theorem zm9(D:DQ Z "fewest" 12 ["blocks"]) (u:WK Z) (v:WP Z) (T:Txt Z.mg):zkh Z:=by refine' okN ["blocks"] D λo=>⟨_,(Jc (Jf (Jd u o (dbc (Jd v o (dbv 0 Ja)) Ja)))),?_⟩;intro ts n R G h;obtain @⟨bits,bs,t,n,R,ht,b0,b1,B,l,h⟩:=h;wp_walk using Yo.c ht b0 b1 B l (λrs nr me lr=>?_);have w:=UM b0 b1 nr me λx hx=>QP b0 B hx;wp_walk using Zw.c w ?_ (λps P=>?_);lia;have C:CanP (λx=>mB x bs) ps:=⟨rs,nr,me,P⟩;exact h ps C (C.le b0 B)
inductive Zv:qD->Nat->qN->Prop
 | c {rs:qB} {top:Int} {n:Nat} {R:qN} (nr:NR rs) (w:∀r∈rs,0<=r.1) (t0:0<=top) (l:fo rs<=100000) (h:∀(gs:qB) (B:Int),NR gs->(∀x,mR x gs↔0<=x/\x<B/\¬mR x rs)->fo gs<=fo rs+1->top<=B->(B=top\/∃r∈rs,B=r.2)->R (sJ (pD gs)) n):Zv [sJ (pD rs),bu top] n R
theorem zi_{rs:qB}{top:Int}{n:Nat}{R:qN}(nr:NR rs)(w:∀r∈rs,0<=r.1/\r.2<=top)(t0:0<=top)(l:fo rs<=100000)(h:∀gs,NR gs->(∀x,mR x gs↔0<=x/\x<top/\¬mR x rs)->fo gs<=fo rs+1->R (sJ (pD gs)) n):Zv [sJ (pD rs),bu top] n R:=Zv.c nr (λr o=>(w r o).1) t0 l λgs B u me v G C=>by
 have:B=top:=by rcases C with e|⟨r,o,e⟩;exact e;have:=(w r o).2;lia
 subst this;exact h gs u me v
def zcS(Z:ZZ):Prop:=QF Z "gaps_below" 24 ["runs","top"] 1 2 Zv
theorem zhe(D:DQ Z "gaps_below" 24 ["runs","top"]) (T:Txt Z.mg):zcS Z:=by
 refine' okN ["runs","top","gaps","begin","low","high"] D λC=>⟨_,(Jb (Uo (i:=2) (ndB rfl) rfl (dY rfl) (JU Ja)) (Jb (dsv 3 (ndB rfl) Ji) (Jb (QQ cF rfl (zn6 (Jh 0)) (JF rfl (Jj (dgv 4 (ndB rfl)) (Jj (dgv 5 (ndB rfl)) JD))) (Jb (Jo (Jl (Qk C) Qi (dlv 3) (dlv 4) (Jg _)) (Jc (QD 2 (Jp (dbv 3 (dbv 4 Ja))))) Jq) (Jc (dsv 3 (ndB rfl) (Jh 5))))) (Jb (Jo (Jl (Qk C) Qi (dlv 3) (dlv 1) (Jg _)) (Jc (QD 2 (Jp (dbv 3 (dbv 1 Ja))))) Jq) (Uh 2 (Jc (Jf (Jh 2)))))))),?_⟩;intro ts n R hl h;obtain @⟨rs,top,n,R,nr,w,t0,l,h⟩:=h;wp_walk;refine znR 2 3 4 5 (λk a2 a3 _ _ m=>m=n/\∃(gs:qB) (G:Int),a2=ao (.own (pD gs))/\a3=ao (.val (bu G))/\NR gs/\(∀x,mR x gs↔0<=x/\x<G/\¬mR x (rs.take k))/\fo gs<=k/\0<=G/\(G=0\/∃r∈rs,G=r.2)/\(∀r∈rs.take k,r.2<=G)/\(∀g∈gs,g.2<G)/\(∀r∈rs.drop k,(k=0/\G=0/\G<=r.1)\/G<r.1)) ⟨rfl,[],0,rfl,rfl,⟨(λr C=>nomatch C),mO⟩,(λx=>⟨λz=>absurd z Qq,λz=>by lia⟩),aC _,aL _,dY rfl,(λr C=>nomatch C),(λr C=>nomatch C),λr C=>dY ⟨rfl,rfl,w r C⟩⟩ ?_ ?_
 ·rintro k t' a2 a3 a4 a5 m K RT BK et ⟨rfl,gs,G,rfl,rfl,J,me,lg,be0,N,ti,gl,dr⟩ hK hRT hBK;obtain⟨lo,hi,S,rfl⟩:=YV et;have kl:=(aq.mp S).1;have U:=aQ S;have L:=nr.1 _ U;have L:lo<hi:=L;have wr:=w _ U;have wr1:0<=lo:=wr;have tk:rs.take (k+1)=rs.take k++[(lo,hi)]:=by rw[dW,S];rfl
  have dk:rs.drop k=(lo,hi)::rs.drop (k+1):=by rw[bO kl];congr 1;have:=aw kl;rw[S]at this;exact(aX this).symm
  have after:∀r∈rs.drop (k+1),hi<r.1:=λr C=>by have:=(nr.2.sublist (ke k rs));rw[dk]at this;exact(cx.mp this).1 r C
  have here:=dr (lo,hi) (by rw[dk];simp);have here:G<=lo:=by rcases here with z|z;exact z.2.2;exact bG z
  have mt:∀x,mR x (rs.take (k+1))↔mR x (rs.take k)\/(lo<=x/\x<hi):=λx=>by rw[tk,QZ,J7];constructor;rintro(z|z|z);exact dY z;exact sr z;exact absurd z Qq;rintro(z|z);exact dY z;exact sr (dY z)
  have old:∀x,G<=x->¬mR x (rs.take k):=λx hx ⟨r,C,h1,h2⟩=>by have:=ti r C;lia
  have go:∀(I:qB) (c4 c5:Option Cell),NR I->(∀x,mR x I↔mR x gs\/(G<=x/\x<lo))->fo I<=k+1->(∀g∈I,g.2<hi)->K [ao (.val (sJ (pD rs))),ao (.val (bu top)),ao (.own (pD I)),ao (.val (bu hi)),c4,c5] m:=λI c4 c5 n' m' l' g' =>
   hK _ _ _ _ _ ⟨rfl,I,hi,rfl,rfl,n',(λx=>by
    rw[m',me,mt];have Y:=old x;constructor;rintro(⟨a,b,c⟩|⟨a,b⟩);exact⟨a,by lia,λz=>h7 z c λz=>by lia⟩;exact⟨by lia,by lia,λz=>h7 z (Y a) λz=>by lia⟩;rintro⟨a,b,c⟩;by_cases y:x<G;exact dY ⟨a,y,λz=>c (dY z)⟩;refine sr ⟨by lia,?_⟩;by_cases u:x<lo;exact u;exact absurd (sr ⟨by lia,b⟩) c),l',by lia,sr ⟨_,U,rfl⟩,(λr C=>by
    rw[tk]at C;rcases au.mp C with z|z;have:=ti r z;lia;cases av.mp z;exact aL _),g',λr C=>sr (after r C)⟩
  wp_walk;rw[JA];lia;rw[UV];refine go (gs++[(G,lo)]) _ _ ⟨λr C=>?_,?_⟩ (λx=>?_) (by simp;lia) λg hg=>?_;rcases au.mp C with z|z;exact J.1 r z;cases av.mp z;exact hc;rw[bP];exact⟨J.2,cU _ _,λa ha b hb=>by cases av.mp hb;exact gl a ha⟩;rw[QZ,J7];constructor;rintro(z|z|z);exact dY z;exact sr z;exact absurd z Qq;rintro(z|z);exact dY z;exact sr (dY z);rcases au.mp hg with z|z;have:=gl g z;lia;cases av.mp z;exact L;refine go gs _ _ J (λx=>⟨dY,λz=>h7 z id λz=>by lia⟩) (by lia) λg hg=>?_;have:=gl g hg;lia
 ·rintro a2 a3 a4 a5 m ⟨rfl,gs,G,rfl,rfl,J,me,lg,be0,N,ti,gl,dr⟩;rw[JA]at me lg ti;rw[ff]at me ti;have old:∀x,G<=x->¬mR x rs:=λx hx ⟨r,C,h1,h2⟩=>by have:=ti r C;lia
  wp_walk;rw[JA];lia;rw[UV];refine h (gs++[(G,top)]) top ⟨λr C=>?_,?_⟩ (λx=>?_) (by simp;lia) (aL _) (dY rfl);rcases au.mp C with z|z;exact J.1 r z;cases av.mp z;exact hc;rw[bP];exact⟨J.2,cU _ _,λa ha b hb=>by cases av.mp hb;exact gl a ha⟩;rw[QZ,J7,me];have Y:=old x;constructor;rintro(⟨a,b,c⟩|z|z);exact⟨a,by lia,c⟩;exact⟨by have:=z.1;lia,z.2,Y z.1⟩;exact absurd z Qq;rintro⟨a,b,c⟩;by_cases y:x<G;exact dY ⟨a,y,c⟩;exact sr (dY ⟨by show G<=x;lia,b⟩);refine h gs G J me (by lia) (by lia) ?_;rcases N with z|z;exact dY (by lia);exact sr z
inductive zfF:qD->Nat->qN->Prop
 | c {bits:Int} {ps:qB} {n:Nat} {R:qN} (b0:1<=bits) (b1:bits<=64) (B:Bks bits ps) (l:fo ps<100000) (h:∀qs,CanP (λx=>0<=x/\x<2 ^ ap bits/\¬mB x ps) qs->fo qs<=130*(fo ps+1)->R (lV (pD qs)) n):zfF [bu bits,lV (pD ps)] n R
def zh7(Z:ZZ):Prop:=QF Z "rest_of" 14 ["bits","patch"] 5 2 zfF
theorem zln(D:DQ Z "rest_of" 14 ["bits","patch"]) (G:WK Z) (J:zcS Z) (I:WP Z) (T:Txt Z.mg):zh7 Z:=by
 refine' okN ["bits","patch"] D λo=>⟨_,(Jc (Jf (Jd G o (dbc (Jd J o (dbc (Jd I o (dbv 1 Ja)) (dbc (JO dli (dlv 0)) Ja))) Ja)))),?_⟩;intro ts n R S h;obtain @⟨bits,ps,n,R,b0,b1,B,l,h⟩:=h;wp_walk using Yo.c (sr rfl) (by lia) b1 B l (λrs nr me lr=>?_);exact cpow (by lia) (by lia);have w:=UM (by lia) b1 nr me λx hx=>QP (by lia) B hx;have L:∀r∈rs,0<=r.1/\r.2<=1*2 ^ ap bits:=λr o=>by have lt:=nr.1 r o;have:=QP (by lia) B ((me (r.2 - 1)).mp ⟨r,o,by lia,by lia⟩);have:=(w r o).1;rw[Qy];lia
 have U:=JE (ap bits);wp_walk using zi_ nr L (by lia) (by lia) (λgs C mg Y=>?_);have u:∀x,mR x gs↔0<=x/\x<2 ^ ap bits/\¬mB x ps:=λx=>by rw[mg,Qy,me]
 have v:=UM (by lia) b1 C u λx hx=>⟨hx.1,hx.2.1⟩;wp_walk using Zw.c v ?_ (λN P=>?_);lia;have:=P.len λr o=>⟨(v r o).1,(v r o).2.2⟩;exact h N ⟨gs,C,u,P⟩ (by lia)
theorem zrb{xs:qD}{i:Int}{k:Nat}{x:af}{R:af->Prop}(hi:i=(k:Int))(e:xs[k]?=ao x)(h:R x):oIx (sJ xs) (bu i) R:=by
 subst hi;have o:=(aq.mp e).1;rw[YE (x:=x)];exact h;unfold atI ixN;have u:xs[k]=x:=by rw[aw o]at e;exact aX e
 simp[o,u]
inductive W5:qD->Nat->qN->Prop
 | c {as bs:qB} {n:Nat} {R:qN} (na:NR as) (nb:NR bs) (la:fo as<=1000000) (lb:fo bs<=1000000) (h:∀cs,NR cs->(∀x,mR x cs↔mR x as/\mR x bs)->fo cs<=fo as+fo bs->R (sJ (pD cs)) n):W5 [sJ (pD as),sJ (pD bs)] n R
def zdJ(Z:ZZ):Prop:=QF Z "shared_runs" 25 ["ones","others"] 1 2 W5
theorem zf2(D:DQ Z "shared_runs" 25 ["ones","others"]) (T:Txt Z.mg):zdJ Z:=by
 refine' okN ["ones","others","shared","at","by","low","high"] D λC=>⟨_,(Jb (Uo (i:=2) (ndB rfl) rfl (dY rfl) (JU Ja)) (Jb (dsv 3 (ndB rfl) Ji) (Jb (dsv 4 (ndB rfl) Ji) (Jb (zhx cF (JK (Q3 (Jl (Qk C) Qi (dlv 3) (dl (Jw Qw Qv T.len Qs (Jk (dlv 0) Jn Jv))) (Jg _)) (Q4 (Jl (Qk C) Qi (dlv 4) (dl (Jw Qw Qv T.len Qs (Jk (dlv 1) Jn Jv))) (Jg _))))) (Jb (dsv 5 (ndB rfl) (Jw (VB rfl) ZS T.max Vy (Jk (dl (Je (dl (Je (dlv 0) (dlv 3))) dli)) (Jk (dl (Je (dl (Je (dlv 1) (dlv 4))) dli)) Jn Uc) Uc))) (Jb (dsv 6 (ndB rfl) (Jw (VC rfl) ZU T.min Yh (Jk (dl (Je (dl (Je (dlv 0) (dlv 3))) dli)) (Jk (dl (Je (dl (Je (dlv 1) (dlv 4))) dli)) Jn Uc) Uc))) (Jb (Jo (Jl (Qk C) Qi (dlv 5) (dlv 6) (Jg _)) (Jc (QD 2 (Jp (dbv 5 (dbv 6 Ja))))) Jq) (Jc (Jo (Jl (Qk C) Qi (dl (Je (dl (Je (dlv 0) (dlv 3))) dli)) (dl (Je (dl (Je (dlv 1) (dlv 4))) dli)) (Jg _)) (Jc (zrq (i:=3) (ndB rfl) rfl (dY rfl) Ji zre)) (Jc (zrq (i:=4) (ndB rfl) rfl (dY rfl) Ji zre)))))))) (Uh 2 (Jc (Jf (Jh 2)))))))),?_⟩;intro ts n R hl h;obtain @⟨as,bs,n,R,na,nb,la,lb,h⟩:=h;wp_walk;refine zmb (λm ρ L=>L=n/\∃(a b:Nat) (cs:qB) (G Y:Option Cell),ρ=[ao (.val (sJ (pD as))),ao (.val (sJ (pD bs))),ao (.own (pD cs)),ao (.val (bu a)),ao (.val (bu b)),G,Y]/\m=(fo as - a)+(fo bs - b)/\a<=fo as/\b<=fo bs/\ShI as bs cs a b) ⟨rfl,0,0,[],_,_,rfl,rfl,by lia,by lia,.zero⟩ ?_;rintro m ρ L NX RT BK ⟨rfl,a,b,cs,G,Y,rfl,rfl,ha,hb,I⟩ hN hR hB;have fin:(fo as<=a\/fo bs<=b)->BK [ao (.val (sJ (pD as))),ao (.val (sJ (pD bs))),ao (.own (pD cs)),ao (.val (bu a)),ao (.val (bu b)),G,Y] L:=λe=>hB _ _ (by wp_walk;exact h cs I.nr (I.fin e) (by have:=I.ln;lia));have lc:=I.ln;wp_walk
 ·rename_i hx;rw[JA]at hx hc;have U:a<fo as:=by lia
  have S:b<fo bs:=by lia
  obtain⟨p,N⟩:∃p,as[a]?=ao p:=⟨_,aw U⟩;obtain⟨q,eq⟩:∃q,bs[b]?=ao q:=⟨_,aw S⟩;have u:=I.stepA nb na N eq;have sB:=I.stepB nb na N eq;wp_walk using zrb (k:=a) rfl (ZL N) ?_,zrb (k:=b) rfl (ZL eq) ?_;rw[JA];lia;all_goals
   have e1:(if q.1 > p.1 then q.1 else p.1)=max p.1 q.1:=by split <;> lia
   have J:(if q.2<p.2 then q.2 else p.2)=min p.2 q.2:=by split <;> lia
   rename_i hd;rw[e1,J]at hd
  have x:shr2 p q=[(max p.1 q.1,min p.2 q.2)]:=by unfold shr2;rw[if_pos hd]
  have u:=u hc;rw[x]at u;exact hN ((fo as - (a+1))+(fo bs - b)) _ _ (by lia) ⟨rfl,a+1,b,cs++[(max p.1 q.1,min p.2 q.2)],_,_,by rw[e1,J,<- ZO];rfl,rfl,by lia,by lia,u⟩;have x:shr2 p q=[(max p.1 q.1,min p.2 q.2)]:=by unfold shr2;rw[if_pos hd]
  have sB:=sB hc;rw[x]at sB;exact hN ((fo as - a)+(fo bs - (b+1))) _ _ (by lia) ⟨rfl,a,b+1,cs++[(max p.1 q.1,min p.2 q.2)],_,_,by rw[e1,J,<- ZO];rfl,rfl,by lia,by lia,sB⟩;have x:shr2 p q=[]:=by unfold shr2;rw[if_neg hd]
  have u:=u hc;rw[x,cE]at u;exact hN ((fo as - (a+1))+(fo bs - b)) _ _ (by lia) ⟨rfl,a+1,b,cs,_,_,rfl,rfl,by lia,by lia,u⟩;have x:shr2 p q=[]:=by unfold shr2;rw[if_neg hd]
  have sB:=sB hc;rw[x,cE]at sB;exact hN ((fo as - a)+(fo bs - (b+1))) _ _ (by lia) ⟨rfl,a,b+1,cs,_,_,rfl,rfl,by lia,by lia,sB⟩
 rw[JA]at hc;exact fin (sr (by lia));rw[JA]at hc;exact fin (dY (by lia))
inductive zfD:qD->Nat->qN->Prop
 | c {bits:Int} {ps qs:qB} {n:Nat} {R:qN} (b0:0<=bits) (b1:bits<=64) (A:Bks bits ps) (B:Bks bits qs) (l1:fo ps<100000) (l2:fo qs<100000) (l3:fo ps+fo qs<=90000) (h:∀cs,CanP (λx=>mB x ps/\¬mB x qs) cs->fo cs<=130*(fo ps+fo qs+1)->R (lV (pD cs)) n):zfD [lV (pD ps),lV (pD qs)] n R
def zh6(Z:ZZ):Prop:=QF Z "without" 15 ["one","other"] 5 2 zfD
theorem zlk(D:DQ Z "without" 15 ["one","other"]) (K9:WP Z) (K7:WK Z) (Lq:zdJ Z) (La:zcS Z) (T:Txt Z.mg):zh6 Z:=by
 refine' okN ["one","other","runs","top"] D λo=>⟨_,(Jb (dsv 2 (ndB rfl) (Jd K9 o (dbv 0 Ja))) (Jb (dsv 3 (ndB rfl) (zqr (JH (dlv 2)) (Je (dl (Je (dlv 2) (dl (Yc Ji)))) dli) Ji)) (Jc (Jf (Jd K7 o (dbc (Jd Lq o (dbv 2 (dbc (Jd La o (dbc (Jd K9 o (dbv 1 Ja)) (dbv 3 Ja))) Ja))) Ja)))))),?_⟩;intro ts n R hl h;obtain @⟨bits,ps,qs,n,R,b0,b1,A,B,l1,l2,l3,h⟩:=h;wp_walk;refine Yo.c (sr rfl) b0 b1 A l1 (λrs nr me lr=>?_);have wr:=UM b0 b1 nr me λx hx=>QP b0 A hx;rcases oA rs with rfl|⟨I,r,rfl⟩
 ·have t0:(0:Int)<=0:=aL _;have tt:∀r∈([]:qB),r.2<=0:=λr o=>nomatch o;wp_walk
  ·refine Yo.c (sr rfl) b0 b1 B l2 (λss ns L ls=>?_);have ws:=UM b0 b1 ns L λx hx=>QP b0 B hx;wp_walk using Zv.c ns (λr o=>(ws r o).1) t0 (by lia) (λgs Bd S mg lg tb _=>?_);refine W5.c nr S (by lia) (by lia) (λcs J mc lc=>?_);have v:∀x,mR x cs↔mB x ps/\¬mB x qs:=λx=>by
    rw[mc,mg,L];constructor;rintro⟨G,N,z3,U⟩;exact⟨(me x).mp G,U⟩;rintro⟨G,N⟩;have C:=(me x).mpr G;refine⟨C,(QP b0 A G).1,?_,N⟩;obtain⟨r,o,_,y⟩:=C;have:=tt r o;lia
   have w:=UM b0 b1 J v λx hx=>QP b0 A hx.1;wp_walk using Zw.c w (by lia) (λY P=>?_);have:=P.len λr o=>⟨(w r o).1,(w r o).2.2⟩;exact h Y ⟨cs,J,v,P⟩ (by lia)
  exact absurd hc (by simp[pD])
 ·rw[oB]at *;have sn:pD (I++[r])=pD I++[lV [bu r.1,bu r.2]]:=by simp[pD]
  have wl:=wr r (by simp);have t0:0<=r.2:=by lia
  have tt:∀s∈I++[r],s.2<=r.2:=λs hs=>by rcases au.mp hs with z|z;have:=(bP.mp nr.2).2.2 s z r (by simp);lia;cases av.mp z;exact aL _
  rw[sn];wp_walk using zkC ?_;exact absurd hc (by simp)
  ·refine Yo.c (sr rfl) b0 b1 B l2 (λss ns L ls=>?_);have ws:=UM b0 b1 ns L λx hx=>QP b0 B hx;wp_walk using Zv.c ns (λr o=>(ws r o).1) t0 (by lia) (λgs Bd S mg lg tb _=>?_);rw[<- sn];refine W5.c nr S (by lia) (by lia) (λcs J mc lc=>?_);have v:∀x,mR x cs↔mB x ps/\¬mB x qs:=λx=>by
    rw[mc,mg,L];constructor;rintro⟨G,N,z3,U⟩;exact⟨(me x).mp G,U⟩;rintro⟨G,N⟩;have C:=(me x).mpr G;refine⟨C,(QP b0 A G).1,?_,N⟩;obtain⟨r,o,_,y⟩:=C;have:=tt r o;lia
   have w:=UM b0 b1 J v λx hx=>QP b0 A hx.1;wp_walk using Zw.c w (by lia) (λY P=>?_);have:=P.len λr o=>⟨(w r o).1,(w r o).2.2⟩;exact h Y ⟨cs,J,v,P⟩ (by lia)
inductive zew:qD->Nat->qN->Prop
 | c {bits a:Int} {bs:qB} {n:Nat} {R:qN} (b1:bits<=64) (P:Ptc bits bs) (hl:fo bs<1000000) (h:∀k:Nat,k<=fo bs->(∀(j:Nat) (b:Int×Int),j<k->bs[j]?=ao b->eB b<=a)->(∀(j:Nat) (b:Int×Int),k<=j->bs[j]?=ao b->a<eB b)->R (bu (k:Int)) n):zew [lV (pD bs),bu a] n R
def zgs(Z:ZZ):Prop:=QF Z "ended_by" 19 ["patch","address"] 3 2 zew
theorem zjy(D:DQ Z "ended_by" 19 ["patch","address"]) (K6:Vp Z) (T:Txt Z.mg):zgs Z:=by
 refine' okN ["patch","address","low","high","middle"] D λN=>⟨_,(Jb (dsv 2 (ndB rfl) Ji) (Jb (dsv 3 (ndB rfl) (Jw Qw Qv T.len Qs (Jk (dlv 0) Jn Jv))) (Jb (zhx cF (Jl (Qk N) Qi (dlv 2) (dlv 3) (Jg _)) (Jb (dsv 4 (ndB rfl) (zjX (dl (JR (dlv 2) (dlv 3))) dli)) (Jc (Jo (Jl Qj Qh (dl (Jd K6 N (dbc (Je (dlv 0) (dlv 4)) Ja))) (dlv 1) (Jg _)) (Jc (dsv 2 (ndB rfl) (JR (dlv 4) dli))) (Jc (dsv 3 (ndB rfl) (Jh 4))))))) (Jc (Jf (Jh 2)))))),?_⟩;rintro ts n R hl @⟨bits,a,bs,n,R,b1,P,hl6,hh⟩;have srt:=P.ends;wp_walk;rw[JA];refine zhE (m:=fo bs) (λm L S=>S=n/\∃lo hi:Nat,∃c,L=[ao (.val (lV (pD bs))),ao (.val (bu a)),ao (.val (bu (lo:Int))),ao (.val (bu (hi:Int))),c]/\lo<=hi/\hi<=fo bs/\m=hi - lo/\(∀(j:Nat) (b:Int×Int),j<lo->bs[j]?=ao b->eB b<=a)/\(∀(j:Nat) (b:Int×Int),hi<=j->bs[j]?=ao b->a<eB b)) ?_ ?_;refine⟨rfl,0,fo bs,bj,rfl,cR _,aC _,rfl,λj b o=>absurd o (Nat.not_lt_zero _),λj b o e=>?_⟩;rw[dz o]at e;cases e
 ·rintro m L S ⟨rfl,lo,hi,c,rfl,h1,Y,rfl,J,h4⟩;wp_walk;exact zwP
  ·have hm:(lo+hi) / 2<fo bs:=by lia
   obtain⟨b,G⟩:∃b,bs[(lo+hi) / 2]?=ao b:=⟨_,aw hm⟩;have hb:=P.1 b (aQ G);refine zsH (k:=(lo+hi) / 2) (by lia) (ZL G) ?_;have U:∀(i j:Nat) (x y:Int×Int),bs[i]?=ao x->bs[j]?=ao y->i<=j->eB x<=eB y:=λi j x y ei I hij=>by by_cases z:i=j;subst z;rw[ei]at I;cases I;exact aL _;obtain⟨l1,rfl⟩:=aq.mp ei;obtain⟨l2,rfl⟩:=aq.mp I;exact aJ.mp srt i j l1 l2 (by lia)
   wp_walk using Yk.c ?_ ?_ ?_;exact hb.1;have:=hb.2.1;lia
   ·have hc:eB b<=a:=hc;refine⟨_,?_,rfl,(lo+hi) / 2+1,hi,ao (.val (bu (((lo+hi) / 2:Nat):Int))),?_,by lia,Y,rfl,λj x o e=>?_,h4⟩;lia
    ·have C:((lo:Int)+hi) / 2=(((lo+hi) / 2:Nat):Int):=by lia
     first|(rw[C];done)|(rw[C];rfl)
    exact bT (U _ _ _ _ e G (by lia)) hc
   ·have hc:¬eB b<=a:=hc;refine⟨_,?_,rfl,lo,(lo+hi) / 2,ao (.val (bu (((lo+hi) / 2:Nat):Int))),?_,by lia,by lia,rfl,J,λj x o e=>?_⟩;lia
    ·have C:((lo:Int)+hi) / 2=(((lo+hi) / 2:Nat):Int):=by lia
     first|(rw[C];done)|(rw[C];rfl)
    have:=U _ _ _ _ G e (by lia);lia
  have e:lo=hi:=by lia
  subst e;exact hh lo Y J h4
inductive zc1:qD->Nat->qN->Prop
 | c {bits a:Int} {bs:qB} {n:Nat} {R:qN} (b1:bits<=64) (P:Ptc bits bs) (hl:fo bs<1000000) (h:∀b∈bs,b.1<=a->a<eB b->R (lV [bu b.1,bu b.2]) n) (h':(∀b∈bs,¬(b.1<=a/\a<eB b))->R fq n):zc1 [lV (pD bs),bu a] n R
def zeK(Z:ZZ):Prop:=QF Z "block_with" 16 ["patch","address"] 4 2 zc1
theorem zhf(D:DQ Z "block_with" 16 ["patch","address"]) (J:zgs Z) (T:Txt Z.mg):zeK Z:=by
 refine' okN ["patch","address","at"] D λC=>⟨_,(Jb (dsv 2 (ndB rfl) (Jd J C (dbv 0 (dbv 1 Ja)))) (Jb (Jo (JK (Q3 (Jl (Qk C) Qi (dlv 2) (dl (Jw Qw Qv T.len Qs (Jk (dlv 0) Jn Jv))) (Jg _)) (Q4 (Jl Qj Qh (dl (Je (dl (Je (dlv 0) (dlv 2))) dli)) (dlv 1) (Jg _))))) (Jc (Jf (Je (dlv 0) (dlv 2)))) Jq) (Jc (Jf US)))),?_⟩;rintro ts n R hl @⟨bits,a,bs,n,R,b1,P,hl6,hh,hn⟩;wp_walk using zew.c b1 P hl6 (λk U G L=>?_)
 ·rw[JA]at hc;have S:k<fo bs:=by lia
  obtain⟨b,o⟩:∃b,bs[k]?=ao b:=⟨_,aw S⟩;refine zsH (k:=k) rfl (ZL o) ?_;wp_walk;refine zsH (k:=k) rfl (ZL o) ?_;exact hh b (aQ o) (by assumption) (L k b (aC _) o);have hx:¬b.1<=a:=hc;refine hn λx l ⟨x0,N⟩=>?_;obtain⟨j,v,rfl⟩:=bh l;have u:=aw v;by_cases z:j<k;have:=G j _ z u;lia;by_cases y:j=k;subst y;rw[u]at o;cases o;exact hx x0;obtain⟨I,rfl⟩:=aq.mp o;have:=aJ.mp P.2 k j I v (by lia);have:=Qd bs[k];exact hx (by lia)
 rw[JA]at hc;refine hn λx l ⟨x0,N⟩=>?_;obtain⟨j,v,rfl⟩:=bh l;have:=G j _ (by lia) (aw v);lia
theorem zu4{bits:Int}{bs:qB}(P:Ptc bits bs){p q:Int×Int}{x:Int}(u:p∈bs)(o:q∈bs)(v:p.1<=x)(C:x<eB p)(I:q.1<=x)(G:x<eB q):p=q:=by obtain⟨i,hi,rfl⟩:=bh u;obtain⟨j,l,rfl⟩:=bh o;rcases dD i j with z|z|z;have:=aJ.mp P.2 i j hi l z;lia;subst z;rfl;have:=aJ.mp P.2 j i l hi z;lia
inductive W4:qD->Nat->qN->Prop
 | c {bits:Int} {bs:qB} {b:Int×Int} {n:Nat} {R:qN} (b0:0<=bits) (b1:bits<=64) (P:Ptc bits bs) (hl:fo bs<1000000) (B:IsBk bits b.1 b.2) (h:∀p∈bs,p.1<=b.1->eB b<=eB p->R (lV [bu p.1,bu p.2]) n) (h':(∀p∈bs,¬(p.1<=b.1/\eB b<=eB p))->R fq n):W4 [lV (pD bs),lV [bu b.1,bu b.2]] n R
def zdM(Z:ZZ):Prop:=QF Z "block_about" 17 ["patch","block"] 5 2 W4
theorem zf3(D:DQ Z "block_about" 17 ["patch","block"]) (L:zeK Z) (C:zmJ Z) (T:Txt Z.mg):zdM Z:=by
 refine' okN ["patch","block","found"] D λv=>⟨_,(Jb (dsv 2 (ndB rfl) (Jd L v (dbv 0 (dbc (Je (dlv 1) dli) Ja)))) (Jb (Jo (JK (Q3 (Jl zm5 znM (dlv 2) (dl US) (Jg _)) (Q4 (JH (dl (Jd C v (dbv 2 (dbv 1 Ja)))))))) (Jc (Jf (Jh 2))) Jq) (Jc (Jf US)))),?_⟩;rintro ts n R hl @⟨bits,bs,b,n,R,b0,b1,P,hl2,B,h,h'⟩;have bd:=B.bounds b0;have pe:=Qd b;have G:(2:Int) ^ ap bits<=2 ^ 64:=Bd.zdP (by lia);have N:=Bd.JE (ap b.2);have j1:b.1<2 ^ 64:=by lia
 have o:∀p∈bs,p.2<=1000:=λp l=>by have:=(P.1 p l).2.1;lia
 have u:∀p∈bs,0<=p.2:=λp l=>(P.1 p l).1;wp_walk using zc1.c b1 P hl2 (λp l i1 x=>?_) (λno=>?_),zjV.c (u _ l) (o _ l) bd.1 j1 ?_;exact absurd hc (by simp[isNone]);rw[zrk (P.1 p l) B]at hc;have hd:=of_decide_eq_true hc;exact h p l hd.1 hd.2;rw[zrk (P.1 p l) B]at hc;have hd:=of_decide_eq_false hc;refine h' λq I z=>?_;have J:q=p:=zu4 P I l z.1 (by lia) i1 x;subst J;exact hd z;exact h' λp l z=>no p l ⟨z.1,by lia⟩;exact absurd hc (by simp[isNone])
inductive UH:qD->Nat->qN->Prop
 | c {xs:List (af×af)} {n:Nat} {R:qN} (l:fo xs<=1000000) (h:R (lV (xs.map (·.1))) n):UH [lV (ppD xs)] n R
def VH(Z:ZZ):Prop:=QF Z "all_blocks" 29 ["pairs"] 1 1 UH
theorem zhg(D:DQ Z "all_blocks" 29 ["pairs"]) (T:Txt Z.mg):VH Z:=by
 refine' okN ["pairs"] D λv=>⟨_,(Jc (Jf (QH UI Uy T.tup Qn (Jk (dl (Jr (dnc ["block","name"] [] (dil (JP (Jh 0))) (λ_ _ _ _=>(JF rfl (Jj (dgv 0 (ndB rfl)) (Jj (dgv 1 (ndB rfl)) JD)))) (λ_ _ _ _=>(Jh 0))))) Jn Qr)))),?_⟩;intro ts n R C h;obtain @⟨xs,n,R,l,h⟩:=h;wp_walk;refine Qt (cs:=xs) (D:=λp=>lV [p.1,p.2]) (λp=>p.1) (by lia) ?_ ?_
 ·intro p G x I o;wp_walk;exact o
 ·wp_walk;exact h
inductive Yl:qD->Nat->qN->Prop
 | c {d:Deal} {nm:af} {n:Nat} {R:qN} (hw:QX nm) (hn:∀p∈d.2.2,IsNm p.2) (l:fo d.2.2<=1000000) (h:R (lV (pD (Jt d nm))) n):Yl [dlD d,nm] n R
def W0(Z:ZZ):Prop:=QF Z "kept_from" 31 ["deal","name"] 1 2 Yl
theorem zil(D:DQ Z "kept_from" 31 ["deal","name"]) (T:Txt Z.mg):W0 Z:=by
 refine' okN ["deal","name"] D λJ=>⟨_,(Jc (Jf (QH UI Uy T.tup Qn (Jk (dl (Jr (dnf ["block","theirs"] [1] (dil (JP (Je (dlv 0) dli))) (λ_ _ _ _=>(JF rfl (Jj (dgv 0 (ndB rfl)) (Jj (dgv 1 (ndB rfl)) JD)))) (λ_ _ _ _=>(Uu (Jl (QB J) QA (dlv 1) (dlv 2) (Jg _)))) (λ_ _ _ _=>(Jh 0))))) Jn Qr)))),?_⟩;intro ts n R L h;obtain @⟨d,nm,n,R,hw,G,l,h⟩:=h;obtain⟨bits,os,v⟩:=d;have l:fo v<=1000000:=l;have G:∀p∈v,IsNm p.2:=G;rw[show dlD (bits,os,v)=lV [bu bits,lV (oD os),lV (oD v)] from rfl];wp_walk;refine U4 (cs:=v) (D:=λp=>lV [prD p.1,cH p.2]) (λp=>!who p.2 nm) (λp=>prD p.1) (by lia) ?_ ?_
 ·intro p I S N x C;rcases hw with rfl|⟨s,rfl,ns⟩
  ·wp_walk;exact(zsu (G p I)).okd;exact x rfl
  ·wp_walk;exact C (by show(!decide (p.2=s))=dy;rw[decide_eq_true hc];rfl);exact x (by show(!decide (p.2=s))=du;rw[decide_eq_false hc];rfl)
 ·wp_walk;have:((v.filter λp=>!who p.2 nm).map λp=>prD p.1)=pD (Jt (bits,os,v) nm):=by
   unfold pD Jt;rw[bS];rfl
  rw[this];exact h
def Free(d:Deal)(nm:af)(x:Int):Prop:=0<=x/\x<2 ^ ap d.1/\¬mB x (d.2.1.map (·.1))/\¬mB x (Jt d nm)
theorem Vx{d:Deal}{nm:af}:∀b∈Jt d nm,b∈d.2.2.map (·.1):=λb hb=>by obtain⟨p,l,rfl⟩:=aA.mp hb;exact aA.mpr ⟨p,(cT.mp l).1,rfl⟩
theorem Vw{d:Deal}{nm:af}:fo (Jt d nm)<=fo d.2.2:=by unfold Jt;rw[aG];exact g7 _ _
inductive Vv:qD->Nat->qN->Prop
 | c {d:Deal} {nm:af} {n:Nat} {R:qN} (D:Dl d) (hw:QX nm) (l:fo d.2.1+fo d.2.2<100000) (h:∀qs,CanP (Free d nm) qs->fo qs<=130*(fo d.2.1+fo d.2.2+1)->R (lV (pD qs)) n):Vv [dlD d,nm] n R
def zeg(Z:ZZ):Prop:=QF Z "free_for" 27 ["deal","name"] 6 2 Vv
theorem zjx(D:DQ Z "free_for" 27 ["deal","name"]) (LR:zh7 Z) (Y:zkh Z) (K1:VH Z) (K4:W0 Z) (T:Txt Z.mg):zeg Z:=by
 refine' okN ["deal","name","bits","outs","kept"] D λv=>⟨_,(Jb (QK (Jh 0) (JF rfl (Jj (dgv 2 (ndB rfl)) (Jj (dgv 3 (ndB rfl)) (Jj (dgv 4 (ndB rfl)) JD))))) (Jc (Jf (Jd LR v (dbv 2 (dbc (Jd Y v (dbc (JR (dl (Jd K1 v (dbv 3 Ja))) (dl (Jd K4 v (dbv 0 (dbv 1 Ja))))) Ja)) Ja)))))),?_⟩;intro ts n R hl h;obtain @⟨d,nm,n,R,D,hw,l,h⟩:=h;obtain⟨bits,os,o⟩:=d;obtain⟨J,I,L,G,ag⟩:=D;have J:1<=bits:=J;have I:bits<=64:=I;have L:Shr bits os:=L;have G:Shr bits o:=G;have l:fo os+fo o<100000:=l;have S:=Vw (d:=(bits,os,o)) (nm:=nm);have S:fo (Jt (bits,os,o) nm)<=fo o:=S;have eo:(os.map λp=>(prD p.1,cH p.2)).map (·.1)=pD (os.map (·.1)):=by simp[pD]
 have B:Bks bits (os.map (·.1)++Jt (bits,os,o) nm):=λb hb=>by rcases au.mp hb with z|z;exact L.1.1 b z;exact G.1.1 b (Vx b z)
 rw[show dlD (bits,os,o)=lV [bu bits,lV (oD os),lV (oD o)] from rfl];have kf:∀{n:Nat} {R:qN},R (lV (pD (Jt (bits,os,o) nm))) n->Yl [lV [bu bits,lV (oD os),lV (oD o)],nm] n R:=λ{n R} z=>Yl.c (d:=(bits,os,o)) hw (λp hp=>G.2 p hp) (by show fo o<=_;lia) z;have ab:∀{n:Nat} {R:qN},R (lV (pD (os.map (·.1)))) n->UH [lV (oD os)] n R:=λ{n R} z=>by rw[Yp];exact UH.c (by simp;lia) (by rw[eo];exact z)
 wp_walk using kf ?_,ab ?_;rw[JA,JA,aG];lia;rw[ZO];wp_walk using zhv.c (sr rfl) (by lia) I B ?_ (λps C N=>?_);simp;lia;have N:fo ps<=fo os+fo o:=by rw[aO,aG]at N;lia
 have Bp:=(C.ptc (bits:=bits) (by lia) λx hx=>QP (by lia) B hx).1;wp_walk using zfF.c J I Bp (by lia) (λU Q lq=>?_);refine h U ?_ (by show fo U<=130*(fo os+fo o+1);lia);obtain⟨rs,r1,r2,r3⟩:=Q;refine⟨rs,r1,λx=>?_,r3⟩;rw[r2];show(0<=x/\x<2 ^ ap bits/\¬mB x ps)↔Free (bits,os,o) nm x;rw[C.mem,ZW];show _↔0<=x/\x<2 ^ ap bits/\¬mB x (os.map (·.1))/\¬mB x (Jt (bits,os,o) nm);constructor;rintro⟨a,b,c⟩;exact⟨a,b,λz=>c (dY z),λz=>c (sr z)⟩;rintro⟨a,b,c,e⟩;exact⟨a,b,λz=>h7 z c e⟩
def Ys:af->Bool
 | lV [_,_]=>true
 | _=>false
inductive zfH:qD->Nat->qN->Prop
 | c {d:af} {n:Nat} {R:qN} (p:Pln d) (h:R (dQ (Ys d)) n):zfH [d] n R
def zh9(Z:ZZ):Prop:=QF Z "is_pair" 28 ["thing"] 1 1 zfH
theorem zlp(D:DQ Z "is_pair" 28 ["thing"]) (T:Txt Z.mg):zh9 Z:=by
 refine' okN ["thing"] D λo=>⟨_,(Jc (Jf (Ud (Qo Uz T.isi T.tup Qn (dlv 0) Jv) (QJ (J3 (Qc o) Qa (dl (Jw Qw Qv T.len Qs (Jk (dlv 0) Jn Jv))) dli (Jg _)))))),?_⟩;intro ts n R x h;obtain @⟨d,n,R,p,h⟩:=h;cases d with
 | tuple ts =>
  have e:Ys (lV ts)=decide ((fo ts:Int)=2):=by
   match ts with
   | []=>rfl
   | [_]=>rfl
   | [_,_]=>rfl
   | _::_::_::r =>symm;show decide _=dy;rw[decide_eq_false_iff_not];simp only[aP];lia
  rw[e]at h;wp_walk;exact h
 | dict v =>
  cases v with
  | nil =>wp_walk;exact h
  | cons a b=>exact absurd rfl p
 | _ =>wp_walk;exact h
def htD(bits:Int):af->Bool|bu i=>decide (0<=i)&&decide (i<=bits)|_=>false
inductive zdw:qD->Nat->qN->Prop
 | c {bits:Int} {d:af} {n:Nat} {R:qN} (p:Pln d) (h:R (dQ (htD bits d)) n):zdw [bu bits,d] n R
def zfe(Z:ZZ):Prop:=QF Z "is_height" 36 ["bits","thing"] 2 2 zdw
theorem zim(D:DQ Z "is_height" 36 ["bits","thing"]) (v:WJ Z) (T:Txt Z.mg):zfe Z:=by
 refine' okN ["bits","thing"] D λu=>⟨_,(Jc (Jf (Ud (Jd v u (dbv 1 Ja)) (QJ (Wy Qj Qh Qj Qh dli (dlv 1) (dlv 0)))))),?_⟩;intro ts n R x h;obtain @⟨bits,d,n,R,p,h⟩:=h;cases d with
 | int i =>have h:R (dQ (decide (0<=i)&&decide (i<=bits))) n:=h;wp_walk using UJ (b:=du) rfl p ?_;rw[decide_eq_true hc,cD]at h;exact h;rw[decide_eq_false hc,cz]at h;exact h
 | _ =>wp_walk using UJ (b:=dy) rfl p ?_;exact h
def adD(bits:Int):af->Bool|bu i=>decide (0<=i)&&decide (i<2 ^ ap bits)|_=>false
inductive zc0:qD->Nat->qN->Prop
 | c {bits:Int} {d:af} {n:Nat} {R:qN} (b0:0<=bits) (b1:bits<=64) (p:Pln d) (h:R (dQ (adD bits d)) n):zc0 [bu bits,d] n R
def zeJ(Z:ZZ):Prop:=QF Z "is_address" 37 ["bits","thing"] 2 2 zc0
theorem zhd(D:DQ Z "is_address" 37 ["bits","thing"]) (v:WJ Z) (T:Txt Z.mg):zeJ Z:=by
 refine' okN ["bits","thing"] D λu=>⟨_,(Jc (Jf (Ud (Jd v u (dbv 1 Ja)) (QJ (Wy Qj Qh (Qk u) Qi dli (dlv 1) (dl (JO dli (dlv 0)))))))),?_⟩;intro ts n R x h;obtain @⟨bits,d,n,R,b0,b1,p,h⟩:=h;cases d with
 | int i =>
  have h:R (dQ (decide (0<=i)&&decide (i<2 ^ ap bits))) n:=h;wp_walk using UJ (b:=du) rfl p ?_;all_goals first
   | exact cpow (by lia) (by lia)
   | skip
  rw[decide_eq_true hc,cD]at h;rw[Qy];exact h;rw[decide_eq_false hc,cz]at h;exact h
 | _ =>wp_walk using UJ (b:=dy) rfl p ?_;exact h
def ptD(bits:Int)(k:Str)(d:af):Bool:=if k=aa "height" then htD bits d else if k=aa "address" then adD bits d else J4 bits d
inductive zfG:qD->Nat->qN->Prop
 | c {bits:Int} {k:Str} {d:af} {n:Nat} {R:qN} (b0:0<=bits) (b1:bits<=64) (p:PlnD d) (h:R (dQ (ptD bits k d)) n):zfG [bu bits,cH k,d] n R
theorem zuy{d:af}(h:PlnD d):Pl2 d:=⟨h.pln,λts e t o=>by subst e;exact(h.tup.2 t o).pln⟩
def zh8(Z:ZZ):Prop:=QF Z "is_part" 35 ["bits","kind","thing"] 3 3 zfG
theorem zlo(D:DQ Z "is_part" 35 ["bits","kind","thing"]) (u:zef Z) (v:zfe Z) (x:zeJ Z) (T:Txt Z.mg):zh8 Z:=by refine' okN ["bits","kind","thing"] D λl=>⟨_,(Jb (Jo (Jl (Qc l) Qa (dlv 1) (dl JM) (Jg _)) (Jc (Jf (Jd v l (dbv 0 (dbv 2 Ja))))) Jq) (Jb (Jo (Jl (Qc l) Qa (dlv 1) (dl JM) (Jg _)) (Jc (Jf (Jd x l (dbv 0 (dbv 2 Ja))))) Jq) (Jc (Jf (Jd u l (dbv 0 (dbv 2 Ja))))))),?_⟩;intro ts n R C h;obtain @⟨bits,k,d,n,R,b0,b1,p,h⟩:=h;unfold ptD at h;wp_walk using zdw.c p.pln ?_,zc0.c b0 b1 p.pln ?_,WI.c b0 b1 (zuy p) ?_;rw[if_pos hc]at h;exact h;rename_i o;rw[if_neg o,if_pos hc]at h;exact h;rename_i o;rw[if_neg o,if_neg hc]at h;exact h
def Zo:List (Str×List Str):=[(aa "take",[aa "height"]),(aa "near",[aa "height",aa "address"]),(aa "give",[aa "block"]),(aa "grow",[aa "block"]),(aa "keep",[aa "block"]),(aa "loose",[aa "block"]),(aa "move",[aa "block",aa "block"])]
def hEq:qD->Bool
 | [lV [_,bu g],lV [_,bu h]]=>decide (g=h)
 | _=>false
def prtD(bits:Int)(w:Str)(ps:qD):Bool:=match getT Zo w with
 | none=>false
 | some o=>decide (fo ps=fo o)&&((o.zip ps).all λq=>ptD bits q.1 q.2)&&(decide (w≠aa "move")||hEq ps)
def dedD(bits:Int):af->Bool
 | lV (cH w::nm::ps)=>nmD nm&&prtD bits w ps
 | _=>false
inductive zfI:qD->Nat->qN->Prop
 | c {bits:Int} {d:af} {n:Nat} {R:qN} (b0:0<=bits) (b1:bits<=64) (p:PlnD d) (h:R (dQ (dedD bits d)) n):zfI [bu bits,d] n R
theorem zjb{bits:Int}{d:af}(h:J4 bits d=du):∃b g:Int,d=lV [bu b,bu g]:=by unfold J4 at h;split at h;exact⟨_,_,rfl⟩;cases h
theorem zoV{l:List Str}{ps:qD}:zipD (l.map cH) ps=(l.zip ps).map λq=>lV [cH q.1,q.2]:=by unfold zipD;rw[List.zip_map_left,bS];rfl
theorem zmM{bits:Int}{d:af}:ptD bits (aa "block") d=J4 bits d:=by unfold ptD;rw[if_neg (by decide +kernel),if_neg (by decide +kernel)]
theorem zsx:getT Zo (aa "move")=ao [aa "block",aa "block"]:=by decide +kernel
def zia(Z:ZZ):Prop:=QF Z "is_deed" 34 ["bits","thing"] 4 2 zfI
theorem zlr(D:DQ Z "is_deed" 34 ["bits","thing"]) (U:zh_ Z) (LU:zh8 Z) (N:StD Z.P Z.w Z.K Z.mg "PARTS" Zo) (T:Txt Z.mg):zia Z:=by
 refine' okN ["bits","thing","word","name","parts","kinds"] D λG=>⟨_,(Jb (Jo (JK (J9 (JQ (JH (dl (Qo Uz T.isi T.tup Qn (dlv 1) Jv)))) (Qp (Jl (Qk G) Qi (dl (Jw Qw Qv T.len Qs (Jk (dlv 1) Jn Jv))) dli (Jg _))))) (Jc (Jf JC)) Jq) (Jb (ztf (i:=2) (j:=3) (k:=4) rfl (ndB rfl) rfl rfl rfl (dY rfl) (dY rfl) (dY rfl) (Jh 1)) (Jb (Jo (JK (J9 (JQ (JH (dl (Qo Wf T.isi T.str WS (dlv 2) Jv)))) (J9 (ztd N (Jh 2)) (Qp (JQ (JH (dl (Jd U G (dbv 3 Ja))))))))) (Jc (Jf JC)) Jq) (Jb (dsv 5 (ndB rfl) (ztn N (Jh 2))) (Jb (Jo (Jl (QB G) QA (dl (Jw Qw Qv T.len Qs (Jk (dlv 4) Jn Jv))) (dl (Jw Qw Qv T.len Qs (Jk (dlv 5) Jn Jv))) (Jg _)) (Jc (Jf JC)) Jq) (Jb (Jo (JQ (JH (dl (Jw (Uv rfl) Uq T.all UF (Jk (dl (Jr (dnc ["kind","part"] [0] (dil (zrr T.zip (Jh 5) (Jh 4))) (λ_ _ _ _=>(JF rfl (Jj (dgv 0 (ndB rfl)) (Jj (dgv 1 (ndB rfl)) JD)))) (λ_ _ _ _=>(Jd LU G (dbv 2 (dbv 0 (dbv 1 Ja)))))))) Jn Qr))))) (Jc (Jf JC)) Jq) (Jc (Jf (zru (J3 (QB G) QA (dlv 2) (dl JM) (Jg _)) (QJ (J3 (Qc G) Qa (dl (Je (dl (Je (dlv 4) dli)) dli)) (dl (Je (dl (Je (dlv 4) dli)) dli)) (Jg _)))))))))))),?_⟩;intro ts n R hl h;obtain @⟨bits,d,n,R,b0,b1,p,h⟩:=h;cases d with
 | dict C =>
  cases C with
  | nil =>wp_walk;exact h
  | cons a b=>exact absurd rfl p.pln
 | tuple ts =>
  obtain⟨S,I⟩:=p.tup;match ts,I,h with
  | [],_,h =>wp_walk;all_goals first|exact h|(exfalso;simp at hc;done)
  | [x],_,h =>
   have e:dedD bits (lV [x])=dy:=by unfold dedD;split <;> simp_all
   rw[e]at h;wp_walk;all_goals first|exact h|(exfalso;simp at hc;done)
  | x::nm::ps,I,h =>
   have pn:=I nm (by simp);cases x with
   | str w =>
    have e:dedD bits (lV (cH w::nm::ps))=(nmD nm&&prtD bits w ps):=rfl;rw[e]at h;unfold prtD at h;cases g:getT Zo w with
    | none =>rw[g]at h;simp only[ko]at h;wp_walk using WX.c pn ?_;all_goals first|exact h|(exfalso;simp at hc;done)|(exfalso;rw[g]at *;simp at *;done)
    | some C =>
     rw[g]at h;dsimp only at h;wp_walk using WX.c pn ?_;exfalso;simp at hc;lia
     ·rename_i h1 h2;rw[hc,cD]at h;refine⟨C,g,?_⟩;wp_walk
      ·have J:fo ps=fo C:=by simp at hc;lia
       rw[decide_eq_true J,cD]at h;rw[zoV];refine Qt (cs:=C.zip ps) (D:=λq:Str×af=>lV [cH q.1,q.2]) (λq=>dQ (ptD bits q.1 q.2)) (by rw[lB];simp at S;lia) ?_ ?_
       ·intro q hq K2 X2 L;have Y:=I q.2 (by have:=(dZ hq).2;simp[this]);wp_walk using zfG.c b0 b1 Y ?_;exact L
       ·wp_walk using Uk ?_
        ·rename_i v;subst hc;rw[v,cD,decide_eq_false (λz:aa "move" ≠ aa "move"=>z rfl),vg]at h;rw[zsx]at g;cases g;match ps,J,v,h with
         | [p0,p1],_,v,h =>simp only[iQ,pV,ni,List.all_nil,iF,aF,zmM]at v;obtain⟨b',g',rfl⟩:=zjb v.1;obtain⟨b'',g'',rfl⟩:=zjb v.2;wp_walk;exact h
        rename_i v;rw[v,cD,decide_eq_true hc,wD]at h;exact h;rw[hc,cz]at h;exact h
      have J:¬fo ps=fo C:=by simp at hc;lia
      rw[decide_eq_false J,cz,cz]at h;exact h
     rw[hc,cz]at h;exact h;exfalso;rw[g]at hc;cases hc
   | dict ds =>
    have px:=I _ (cP ..);cases ds with
    | nil =>have h:R (dQ dy) n:=h;wp_walk;all_goals first|exact h|(exfalso;simp at hc;lia)
    | cons a b=>exact absurd rfl px.pln
   | _ =>have h:R (dQ dy) n:=h;wp_walk;all_goals first|exact h|(exfalso;simp at hc;lia)
 | _ =>wp_walk;exact h
inductive zdx:qD->Nat->qN->Prop
 | c {qs:qB} {h:Int} {n:Nat} {R:qN} (l:fo qs<=1000000) (h0:(∀q∈qs,q.2<h)->R fq n) (h1:∀q∈qs,h<=q.2->(∀p∈qs,h<=p.2->q.2<p.2\/(q.2=p.2/\q.1<=p.1))->R (lV [bu q.1,bu h]) n):zdx [lV (pD qs),bu h] n R
def zfg(Z:ZZ):Prop:=QF Z "first_fit" 54 ["free","height"] 1 2 zdx
theorem zin(D:DQ Z "first_fit" 54 ["free","height"]) (T:Txt Z.mg):zfg Z:=by
 refine' okN ["free","height","fits","tall","begin"] D λC=>⟨_,(Jb (Zf (Yi (i:=2) (ndB rfl) rfl (dY rfl) (own:=["begin","tall"]) (capt:=[1]) rfl (JB.of rfl) (dil (JP (Jh 0))) (λ_ _ _ _=>(JF rfl (Jj (dgv 0 (ndB rfl)) (Jj (dgv 1 (ndB rfl)) JD)))) (by decide) (λ_ _ _ _=>(Uu (Jl Yq gp_B (dlv 1) (dlv 2) (Jg _)))) (λ_ _ _ _=>(Jp (dbv 1 (dbv 0 Ja)))))) (Jb (Jo (JQ (JH (dlv 2))) (Jc (Jf US)) Jq) (Jb (QK (Jw (zou C rfl) zs4 T.min Yh (Jk (dlv 2) Jn Jv)) (JF rfl (Jj (dgv 3 (ndB rfl)) (Jj (dgv 4 (ndB rfl)) JD)))) (Jc (Jf (Jp (dbv 4 (dbv 1 Ja)))))))),?_⟩;intro ts n R S h;obtain @⟨qs,h,n,R,l,h0,h1⟩:=h;wp_walk;refine U4 (cs:=qs) (D:=prD) (λq=>decide (h<=q.2)) (λq=>prD (q.2,q.1)) (by lia) ?_ ?_
 ·intro q o K X I G;wp_walk;exact I (decide_eq_true hc);exact G (decide_eq_false hc)
 ·have e:(oG (λq:Int×Int=>prD (q.2,q.1)) (qs.filter λq=>decide (h<=q.2)))=pD ((qs.filter λq=>decide (h<=q.2)).map λq=>(q.2,q.1)):=by
   unfold pD;rw[bS];rfl
  have u:∀q,q∈(qs.filter λq=>decide (h<=q.2))↔q∈qs/\h<=q.2:=λq=>by rw[cT,decide_eq_true_eq]
  wp_walk;refine h0 λq o=>?_;rw[List.isEmpty_iff,gJ]at hc;have:=u q;rw[hc]at this;have no:¬h<=q.2:=λz=>nomatch this.mpr ⟨o,z⟩;lia
  ·rw[e];refine zvD (λz=>?_) λb hb L=>?_;rw[gJ]at z;rw[z]at hc;cases hc
   ·obtain⟨q,o,rfl⟩:=aA.mp hb;obtain⟨N,J⟩:=(u q).mp o;wp_walk;refine h1 q N J λp x v=>?_;have:=L (p.2,p.1) (aA.mpr ⟨p,(u p).mpr ⟨x,v⟩,rfl⟩);rw[cN,Ne,pLt_iff]at this;dsimp only at this;lia
inductive WW:qD->Nat->qN->Prop
 | c {d:Deal} {nm:af} {h:Int} {n:Nat} {R:qN} (D:Dl d) (hw:QX nm) (l:fo d.2.1+fo d.2.2<100000) (l2:fo d.2.1+fo d.2.2<=1000) (k:∀qs,CanP (Free d nm) qs->fo qs<=130*(fo d.2.1+fo d.2.2+1)->((∀q∈qs,q.2<h)->R fq n)/\∀q∈qs,h<=q.2->(∀p∈qs,h<=p.2->q.2<p.2\/(q.2=p.2/\q.1<=p.1))->R (lV [bu q.1,bu h]) n):WW [dlD d,nm,bu h] n R
def zff(Z:ZZ):Prop:=QF Z "fitting" 53 ["deal","name","height"] 7 3 WW
theorem zls(D:DQ Z "fitting" 53 ["deal","name","height"]) (x:zfg Z) (G:zeg Z) (T:Txt Z.mg):zff Z:=by refine' okN ["deal","name","height"] D λo=>⟨_,(Jc (Jf (Jd x o (dbc (Jd G o (dbv 0 (dbv 1 Ja))) (dbv 2 Ja))))),?_⟩;intro ts n R I h;obtain @⟨d,nm,h,n,R,D,hw,l,l2,k⟩:=h;wp_walk using Vv.c D hw l (λu C v=>?_),zdx.c ?_ ?_ ?_;lia;exact(k u C v).1;exact(k u C v).2
def exO(os:List NP)(nm:Str)(gs cs:BL):List NP:=(os.filter λp=>decide (p.1∉gs))++cs.map λb=>(b,nm)
theorem zrA{gs:BL}{b:Int×Int}:((pD gs).any λt=>t.eqv (prD b))=decide (b∈gs):=by
 rw[gh,iq,decide_eq_true_eq];constructor;rintro⟨t,l,e⟩;obtain⟨c,hc,rfl⟩:=aA.mp l;have:c=b:=by simpa[prD,dP,iE,Prod.ext_iff] using e
 exact this▸hc;intro hb;exact⟨prD b,aA.mpr ⟨b,hb,rfl⟩,by simp[prD,dP,iE]⟩
def zfJ:GD:=λts n R=>∃(d:Deal) (nm:Str) (gs cs:BL),ts=[dlD d,cH nm,lV (pD gs),lV (pD cs)]/\fo d.2.1+fo cs<100000/\fo d.2.1+fo cs<=1000/\fo gs<=1000 /\
 ∀rs:List NP,rs.Perm (exO d.2.1 nm gs cs)->rs.Pairwise (λa b=>npRk rs a<=npRk rs b)->R (dlD (d.1,rs,d.2.2)) n
theorem zj1{d:Deal}{nm:Str}{gs cs:BL}{n:Nat}{R:qN}(l:fo d.2.1+fo cs<100000)(o:fo d.2.1+fo cs<=1000)(v:fo gs<=1000)(h:∀rs:List NP,rs.Perm (exO d.2.1 nm gs cs)->rs.Pairwise (λa b=>npRk rs a<=npRk rs b)->R (dlD (d.1,rs,d.2.2)) n):zfJ [dlD d,cH nm,lV (pD gs),lV (pD cs)] n R:=⟨d,nm,gs,cs,rfl,l,o,v,h⟩
def zfh(Z:ZZ):Prop:=QF Z "exchanged" 56 ["deal","name","gone","come"] 1 4 zfJ
theorem zio(D:DQ Z "exchanged" 56 ["deal","name","gone","come"]) (T:Txt Z.mg):zfh Z:=by
 refine' okN ["deal","name","gone","come","bits","outs","kept","staying"] D λI=>⟨_,(Jb (QK (Jh 0) (JF rfl (Jj (dgv 4 (ndB rfl)) (Jj (dgv 5 (ndB rfl)) (Jj (dgv 6 (ndB rfl)) JD))))) (Jb (Zf (Yi (i:=7) (ndB rfl) rfl (dY rfl) (own:=["pair"]) (capt:=[2]) rfl (JB.of rfl) (dil (JP (Jh 5))) (λ_ _ _ _=>(dgv 0 (ndB rfl))) (by decide) (λ_ _ _ _=>(Uu (Jl (zm2 I) zqb (dl (Je (dlv 0) dli)) (dlv 1) rfl))) (λ_ _ _ _=>(Jh 0)))) (Jc (Jf (Jp (dbv 4 (dbc (QH UI Uy T.tup Qn (Jk (dl (Jr (zfM I T.srt (dl (Jr (zn3 (dlv 7) (dl (Jr (dnc ["block"] [1] (dil (JP (Jh 3))) (λ_ _ _ _=>(dgv 0 (ndB rfl))) (λ_ _ _ _=>(Jp (dbv 0 (dbv 1 Ja)))))))))) Z3))) Jn U1)) (dbv 6 Ja)))))))),?_⟩;intro ts n R N h;obtain⟨⟨bits,os,G⟩,nm,gs,cs,rfl,l,C,l2,h⟩:=h;have l:fo os+fo cs<100000:=l;have C:fo os+fo cs<=1000:=C;have e:dlD (bits,os,G)=lV [bu bits,lV (oD os),lV (oD G)]:=rfl;rw[e];wp_walk;refine U4 (cs:=os) (D:=λp=>lV [prD p.1,cH p.2]) (λp=>decide (p.1∉gs)) (λp=>lV [prD p.1,cH p.2]) (by lia) ?_ ?_
 ·intro p U Y S x v;wp_walk;exact UA;intro t J;obtain⟨b,_,rfl⟩:=aA.mp J;exact UA;rw[zrA]at hc;exact v (by simpa using hc);rw[zrA]at hc;exact x (by simpa using hc)
 ·wp_walk;refine Qt (cs:=cs) (D:=prD) (λb=>lV [prD b,cH nm]) (by lia) ?_ ?_
  ·intro b hb K X L;wp_walk;exact L
  ·have lf:fo (os.filter λp=>decide (p.1∉gs))<=fo os:=g7 ..;wp_walk;simp only[aG];lia;refine⟨exO os nm gs cs,?_,?_,λo pm pw=>?_⟩;simp only[oD,exO,dM,bS];rfl;simp only[exO,aG,aO];lia
   ·wp_walk;exact h o pm (pw.imp λ{a b} h=>by unfold npRk at h ⊢;rw[(pm.filter _).length_eq,(pm.filter _).length_eq];exact h)
def znK:GD:=λts n R=>∃(d:Deal) (w:af) (nm:Str) (h:Int),ts=[dlD d,lV [w,cH nm,bu h]]/\Dl d/\IsNm nm/\fo d.2.1+fo d.2.2+1<100000/\fo d.2.1+fo d.2.2<=900/\∀o,CanP (Free d (cH nm)) o->(∃q∈o,h<=q.2) /\
 ∀q∈o,h<=q.2->(∀p∈o,h<=p.2->q.2<p.2\/(q.2=p.2/\q.1<=p.1))->∀rs:List NP,rs.Perm (d.2.1++[((q.1,h),nm)])->rs.Pairwise (λa b=>npRk rs a<=npRk rs b)->R (lV [dlD (d.1,rs,d.2.2),lV [bu q.1,bu h]]) n
theorem zta{os:List NP}{nm:Str}{cs:BL}:exO os nm [] cs=os++cs.map λb=>(b,nm):=by simp[exO]
def zq1(Z:ZZ):Prop:=QF Z "take" 44 ["deal","deed"] 8 2 znK
theorem zsk(D:DQ Z "take" 44 ["deal","deed"]) (I:zff Z) (G:zfh Z) (T:Txt Z.mg):zq1 Z:=by
 refine' okN ["deal","deed","name","height","block"] D λv=>⟨_,(Jb (QK (WU (dlv 1) (Ze Ji) Zn) (JF rfl (Jj (dgv 2 (ndB rfl)) (Jj (dgv 3 (ndB rfl)) JD)))) (Jb (dsv 4 (ndB rfl) (Jd I v (dbv 0 (dbv 2 (dbv 3 Ja))))) (Jb (Jo (Jl V0 VM (dlv 4) (dl US) (Jg _)) (Jc znY) Jq) (Jc (Jf (Jp (dbc (Jd G v (dbv 0 (dbv 2 (dbc (Jp Ja) (dbc (Jp (dbv 4 Ja)) Ja))))) (dbv 4 Ja)))))))),?_⟩;intro ts n R N h;obtain⟨d,w,nm,h,rfl,D,L,l,U,k⟩:=h;wp_walk;rw[show cutD [w,cH nm,bu h] (ao 1) bj=[cH nm,bu h] from rfl];have hw:QX (cH nm):=sr ⟨nm,rfl,L⟩;wp_walk using WW.c D hw ?_ ?_ (λx C S=>?_);lia;lia;intro no;obtain⟨q,o,u⟩:=(k x C).1;exact absurd (no q o) (by lia)
 ·intro q o u J;wp_walk;exact absurd hc (by simp[isNone])
  ·refine zj1 (d:=d) (nm:=nm) (gs:=[]) (cs:=[(q.1,h)]) (by simp;lia) (by simp;lia) (by simp) λrs pm pw=>?_;wp_walk;exact(k x C).2 q o u J rs (by rw[zta]at pm;exact pm) pw
theorem zrE:getT Zo (aa "take")=ao [aa "height"]:=by decide +kernel
theorem zqq{bits h:Int}{nm:Str}(o:IsNm nm)(h0:0<=h)(v:h<=bits):dedD bits (lV [cH (aa "take"),cH nm,bu h])=du:=by
 show(nmD (cH nm)&&prtD bits (aa "take") [bu h])=du;rw[show nmD (cH nm)=du from zsv.mpr o,cD];unfold prtD;rw[zrE];have e:htD bits (bu h)=du:=by simp[htD,h0,v]
 simp[ptD,e];exact dY (by decide +kernel)
theorem zva{nm:Str}(l:IsNm nm):nN nm<=1000000:=by have:=l.2.1;lia
def zwu:GD:=λts n R=>∃(d:Deal) (nm:Str) (h:Int),ts=[dlD d,lV [cH (aa "take"),cH nm,bu h]]/\Dl d/\IsNm nm/\0<=h/\h<=d.1/\znK ts n R
def zq3(Z:ZZ):Prop:=QF Z "done" 52 ["deal","deed"] 9 2 zwu
theorem zsm(D:DQ Z "done" 52 ["deal","deed"]) (L:zq1 Z) (I:zia Z) (G:StF Z.P Z.w Z.K Z.mg "DEEDS" ["take","near","give","grow","keep","loose","move"]) (T:Txt Z.mg):zq3 Z:=by refine' okN ["deal","deed","act"] D λx=>⟨_,(Jb (Jo (JQ (JH (dl (Jd I x (dbc (Je (dlv 0) dli) (dbv 1 Ja)))))) (Jc znY) Jq) (zte (i:=2) G (.cons L Ye.nil) x (ndB rfl) (Je (dlv 1) dli) (dbv 0 (dbv 1 Ja)))),?_⟩;intro ts n R S h;obtain⟨d,nm,h,rfl,D,C,h0,J,k⟩:=h;obtain⟨bits,os,v⟩:=d;have U:1<=bits:=D.1;have N:bits<=64:=D.2.1;have pl:PlnD (lV [cH (aa "take"),cH nm,bu h]):=zkk (by simp) (zfq (zkl (by decide +kernel)) (zfq (zkl (zva C)) (zfq zpt zps)));rw[show dlD (bits,os,v)=lV [bu bits,lV (oD os),lV (oD v)] from rfl]at k ⊢;wp_walk;refine zfI.c (by lia) N pl ?_;rw[zqq C h0 J];wp_walk;rfl;refine⟨_,jc _,rfl,?_⟩;wp_walk;exact k
def wOut:Str:=aa "out"
def Jy:Str:=aa "kept"
def Js:Str:=aa "free"
def Vg(d:Deal)(nm:af)(rs:List NP):Prop:=∃(css:List (List (Int×Int))) (fs:qB),fo css=fo (Jt d nm)/\(∀(i:Nat) b c,(Jt d nm)[i]?=ao b->css[i]?=ao c->CanP (λx=>mB x [b]/\¬mB x (d.2.1.map (·.1))) c)/\CanP (Free d nm) fs /\
 rs.Perm ((d.2.1.map λp=>(p.1,wOut))++(css.flatten.map λb=>(b,Jy))++fs.map λb=>(b,Js))
theorem zkN{α:Type}{m:Nat}:∀{css:List (List α)},(∀c∈css,fo c<=m)->fo css.flatten<=m*fo css
 | [],_=>by simp
 | c::css,h=>by have u:=h c (jc _);have o:=zkN (css:=css) λc hc=>h c (jk _ hc);rw[mT,aO,aP,Nat.mul_succ];lia
inductive zb5:qD->Nat->qN->Prop
 | c {d:Deal} {nm:af} {n:Nat} {R:qN} (D:Dl d) (hw:QX nm) (l:fo d.2.1+fo d.2.2<100000) (l1:fo d.2.1<=20) (l2:fo d.2.2<=20) (h:∀rs:List NP,Vg d nm rs->fo rs<=90000->rs.Pairwise (λa b=>npRk rs a<=npRk rs b)->R (lV (oD rs)) n):zb5 [dlD d,nm] n R
def zcR(Z:ZZ):Prop:=QF Z "refusal_paper" 61 ["deal","name"] 7 2 zb5
theorem zeW(D:DQ Z "refusal_paper" 61 ["deal","name"]) (K1:VH Z) (K4:W0 Z) (LW:zh6 Z) (Lf:zeg Z) (T:Txt Z.mg):zcR Z:=by
 refine' okN ["deal","name","outs","rows"] D λI=>⟨_,(Jb (dsv 2 (ndB rfl) (Jd K1 I (dbc (Je (dlv 0) dli) Ja))) (Jb (zth (Yi (i:=3) (ndB rfl) rfl (dY rfl) (own:=["block"]) (capt:=[]) rfl (JB.of rfl) (dil (JP (Jh 2))) (λ_ _ _ _=>(dgv 0 (ndB rfl))) (by decide) (λ_ _ _ _=>U3) (λ_ _ _ _=>(Jp (dbv 0 (dbc JM Ja)))))) (Jb (zn0 (i:=3) (ndB rfl) rfl (dY rfl) (zkT (own:=["block","part"]) (capt:=[2]) rfl (JB.of rfl) (dil (JP (Jd K4 I (dbv 0 (dbv 1 Ja))))) (λ_ _ _ _=>(dgv 0 (ndB rfl))) (by decide) (λ_ _ _ _=>U3) (λ_ _ _ _=>(JP (Jd LW I (dbc (Jp (dbv 0 Ja)) (dbv 2 Ja))))) (λ_ _ _ _=>(dgv 1 (ndB rfl))) (by decide) (λ_ _ _ _=>U3) (λ_ _ _ _=>(Jp (dbv 1 (dbc JM Ja)))))) (Jb (zn0 (i:=3) (ndB rfl) rfl (dY rfl) (dnc ["block"] [] (dil (JP (Jd Lf I (dbv 0 (dbv 1 Ja))))) (λ_ _ _ _=>(dgv 0 (ndB rfl))) (λ_ _ _ _=>(Jp (dbv 0 (dbc JM Ja)))))) (Uh 3 (Jc (Jf (QH UI Uy T.tup Qn (Jk (dl (Jr (zfM I T.srt (dlv 3) Jv))) Jn U1))))))))),?_⟩;intro ts n R hl h;obtain @⟨d,nm,n,R,D,hw,l,l1,l2,h⟩:=h;obtain⟨bits,os,o⟩:=d;have e:dlD (bits,os,o)=lV [bu bits,lV (oD os),lV (oD o)]:=rfl;have lk:=Vw (d:=(bits,os,o)) (nm:=nm);have ab:∀{m:Nat} {R':qN},R' (lV (pD (os.map (·.1)))) m->UH [lV (oD os)] m R':=λh'=>by rw[Yp];refine UH.c (by simp;lia) ?_;rw[show((os.map λp=>(prD p.1,cH p.2)).map (·.1))=pD (os.map (·.1)) by unfold pD;rw[bS,bS];rfl];exact h'
 rw[e];wp_walk using ab ?_,Yl.c (d:=(bits,os,o)) hw ?_ ?_ ?_,Vv.c (d:=(bits,os,o)) D hw l (λfs F lf=>?_);refine Qt (cs:=os.map (·.1)) (D:=prD) (λb=>lV [prD b,cH wOut]) (by simp;lia) ?_ ?_
 ·intro b hb K X v;wp_walk;exact v
 wp_walk;have D':=D;obtain⟨b0,U,S1,S2,_⟩:=D';have b0:1<=bits:=b0;have U:bits<=64:=U;have l1:fo os<=20:=l1;have l2:fo o<=20:=l2;have lk:fo (Jt (bits,os,o) nm)<=20:=by have:fo (Jt (bits,os,o) nm)<=fo o:=lk;lia
 refine Yl.c (d:=(bits,os,o)) hw S2.2 (by show fo o<=_;lia) ?_;wp_walk;refine zol (cs:=Jt (bits,os,o) nm) (D:=prD) (G:=λb=>lV [prD b,cH Jy]) (P:=λb c=>CanP (λx=>mB x [b]/\¬mB x (os.map (·.1))) c/\fo c<=130*22) (130*22) (λ_ _ h=>h.2) ?_ ?_
 ·intro b hb acc K X ha v;have N:IsBk bits b.1 b.2:=S2.1.1 b (Vx b hb);wp_walk;refine zfD.c (ps:=[b]) (bits:=bits) (by lia) U (λc hc=>by cases av.mp hc;exact N) S1.1.1 (by simp) (by rw[aG];lia) (by rw[aG];simp;lia) λcs C lc=>?_;have Y:fo cs<=130*22:=by rw[aG]at lc;simp at lc;lia
  wp_walk;refine zgP (cs:=cs) (D:=prD) (λb=>lV [prD b,cH Jy]) ?_ cs acc (λ_ h=>h) (by lia) (v cs ⟨C,Y⟩);intro c hc K X v;wp_walk;exact v
 ·intro css el pw;have lf:fo css.flatten<=130*22*20:=by
   refine ba (zkN (m:=130*22) λc hc=>?_) ?_;obtain⟨i,hi⟩:=dB.mp hc;have il:=(aq.mp hi).1;exact(pw i _ c (aw (by lia)) hi).2;rw[el];lia
  wp_walk;simp only[aG];lia;refine Vv.c (d:=(bits,os,o)) D hw l λfs F J=>?_;have J:fo fs<=130*41:=by have:fo fs<=130*(fo os+fo o+1):=J;lia
  wp_walk;refine Qt (cs:=fs) (D:=prD) (λb=>lV [prD b,cH Js]) (by lia) ?_ ?_
  ·intro c hc K X v;wp_walk;exact v
  wp_walk;simp only[aG,aO];lia;refine⟨(os.map λp=>(p.1,wOut))++(css.flatten.map λb=>(b,Jy))++(fs.map λb=>(b,Js)),?_,?_,λL pm S=>?_⟩;simp only[oD,dM,bS];rfl;simp only[aG,aO];lia
  ·wp_walk;refine h L ⟨css,fs,el,λi b c eb ec=>(pw i b c eb ec).1,F,pm⟩ (by rw[pm.length_eq];simp only[aG,aO];lia) ?_;exact S.imp λ{a b} h=>by unfold npRk at h ⊢;rw[(pm.filter _).length_eq,(pm.filter _).length_eq];exact h
theorem zgn{d:Deal}{nm:af}{rs:List NP}(D:Dl d)(h:Vg d nm rs):(∀r∈rs,IsBk d.1 r.1.1 r.1.2/\(r.2=wOut\/r.2=Jy\/r.2=Js))/\rs≠[]:=by
 obtain⟨css,fs,el,pw,F,pm⟩:=h;have v:0<=d.1:=by have:=D.1;lia
 have R:∀x,Free d nm x->0<=x/\x<2 ^ ap d.1:=λx hx=>⟨hx.1,hx.2.1⟩;have pc:∀c∈css,∃b∈Jt d nm,CanP (λx=>mB x [b]/\¬mB x (d.2.1.map (·.1))) c:=λc hc=>by obtain⟨i,hi⟩:=dB.mp hc;have U:=(aq.mp hi).1;exact⟨_,dO (by lia),pw i _ c (aw (by lia)) hi⟩
 have bk:∀b∈Jt d nm,IsBk d.1 b.1 b.2:=λb hb=>D.2.2.2.1.1.1 b (Vx b hb);refine⟨λr u=>?_,λz=>?_⟩;rcases au.mp (pm.mem_iff.mp u) with u|u;rcases au.mp u with u|u;obtain⟨p,N,rfl⟩:=aA.mp u;exact⟨D.2.2.1.1.1 p.1 (aA.mpr ⟨p,N,rfl⟩),dY rfl⟩;obtain⟨b,hb,rfl⟩:=aA.mp u;obtain⟨c,hc,G⟩:=kR.mp hb;obtain⟨k,Y,C⟩:=pc c hc;have:=(C.ptc (bits:=d.1) v λx hx=>QP v (λc hc=>by cases av.mp hc;exact bk k Y) hx.1).1 b G;exact⟨this,sr (dY rfl)⟩;obtain⟨b,hb,rfl⟩:=aA.mp u;exact⟨(F.ptc (bits:=d.1) v R).1 b hb,sr (sr rfl)⟩;rw[z]at pm;have e:=List.Perm.nil_eq pm;have J:=(nX.mp e.symm);have I:=(nX.mp J.1);have o:d.2.1=[]:=gJ.mp I.1;have S:css.flatten=[]:=gJ.mp I.2;have f0:fs=[]:=gJ.mp J.2;have pp:=JE (ap d.1);have nf:¬Free d nm 0:=λhf=>by have:=(F.mem 0).mpr hf;rw[f0]at this;obtain⟨b,hb,_⟩:=this;exact nomatch hb
 apply nf;refine⟨aL _,pp,λ⟨b,hb,_⟩=>by(rw[o]at hb;exact(nomatch hb)),λ⟨b,hb,L⟩=>?_⟩;obtain⟨i,hi⟩:=dB.mp hb;have U:=(aq.mp hi).1;have C:=pw i b _ hi (aw (by lia));have m0:mB 0 (css[i]'(by lia)):=(C.mem 0).mpr ⟨⟨b,av.mpr rfl,L⟩,λ⟨b,hb,_⟩=>by(rw[o]at hb;exact(nomatch hb))⟩;obtain⟨c,hc,_⟩:=m0;have:c∈css.flatten:=kR.mpr ⟨_,dO (by lia),hc⟩;rw[S]at this;exact nomatch this
def zwt:GD:=λts n R=>∃(d:Deal) (nm:af) (h:Int),ts=[dlD d,nm,bu h]/\Dl d/\QX nm/\fo d.2.1+fo d.2.2<100000/\fo d.2.1<=20/\fo d.2.2<=20 /\
 ∀o,CanP (Free d nm) o->(∀q∈o,h<=q.2->(∀p∈o,h<=p.2->q.2<p.2\/(q.2=p.2/\q.1<=p.1))->R (lV [cH (aa "block"),lV [bu q.1,bu h]]) n)/\((∀q∈o,q.2<h)->∀rs:List NP,Vg d nm rs->fo rs<=90000->rs.Pairwise (λa b=>npRk rs a<=npRk rs b)->R (lV [cH (aa "none"),lV (oD rs)]) n)
theorem zzo{d:Deal}{nm:af}{h:Int}{n:Nat}{R:qN}(D:Dl d)(hw:QX nm)(l:fo d.2.1+fo d.2.2<100000)(v:fo d.2.1<=20)(x:fo d.2.2<=20)(k:∀o,CanP (Free d nm) o->(∀q∈o,h<=q.2->(∀p∈o,h<=p.2->q.2<p.2\/(q.2=p.2/\q.1<=p.1))->R (lV [cH (aa "block"),lV [bu q.1,bu h]]) n)/\((∀q∈o,q.2<h)->∀rs:List NP,Vg d nm rs->fo rs<=90000->rs.Pairwise (λa b=>npRk rs a<=npRk rs b)->R (lV [cH (aa "none"),lV (oD rs)]) n)):zwt [dlD d,nm,bu h] n R:=⟨d,nm,h,rfl,D,hw,l,v,x,k⟩
def zuo(Z:ZZ):Prop:=QF Z "had" 59 ["deal","name","height"] 8 3 zwt
theorem zu7(D:DQ Z "had" 59 ["deal","name","height"]) (G:zff Z) (I:zcR Z) (T:Txt Z.mg):zuo Z:=by
 refine' okN ["deal","name","height","block"] D λo=>⟨_,(Jb (dsv 3 (ndB rfl) (Jd G o (dbv 0 (dbv 1 (dbv 2 Ja))))) (Jb (Jo (Jl zm5 znM (dlv 3) (dl US) (Jg _)) (Jc (Jf (Jp (dbc JM (dbv 3 Ja))))) Jq) (Jc (Jf (Jp (dbc JM (dbc (Jd I o (dbv 0 (dbv 1 Ja))) Ja))))))),?_⟩;intro ts n R S h;obtain⟨d,nm,h,rfl,D,hw,l,x,L,k⟩:=h;wp_walk using WW.c D hw l ?_ (λu C U=>?_);lia
 ·intro no;wp_walk using zb5.c D hw l x L (λrs RR lr pw=>?_);all_goals first
   | exact absurd hc (by decide)
   | exact(k u C).2 no rs RR lr pw
 ·intro q N v J;wp_walk;all_goals first
   | exact absurd hc (by decide)
   | exact absurd hc aT
   | exact absurd hc.symm aT
   | exact(k u C).1 q N v J
theorem zii:∀(ts:qD),ts.all Ys=du->∃xs,ts=ppD xs
 | [],_=>⟨[],rfl⟩
 | t::ts,h=>by rw[ni,aF]at h;obtain⟨xs,rfl⟩:=zii ts h.2;have l:=h.1;unfold Ys at l;split at l;rename_i a b;exact⟨(a,b)::xs,rfl⟩;cases l
def wdD:af->Bool
 | cH s=>decide (s=wOut\/s=Jy\/s=Js)
 | _=>false
theorem in_words{s:Str}:([cH (aa "out"),cH (aa "kept"),cH (aa "free")].any λt=>t.eqv (cH s))=wdD (cH s):=by
 have e:∀a:Str,(cH a).eqv (cH s)=decide (s=a):=λa=>by rw[gh,decide_eq_true_eq];simp only[dP,beq_iff_eq];exact eq_comm
 rw[kX,kX,kX,List.any_nil,e,e,e,uZ];show _=decide (s=wOut\/s=Jy\/s=Js);rw[gh,decide_eq_true_eq,iL,iL,decide_eq_true_eq,decide_eq_true_eq,decide_eq_true_eq];exact aY
def IsWd(s:Str):Prop:=s=wOut\/s=Jy\/s=Js
theorem zmO:∀{xs:List (af×af)}{bs:qB},xs.map (·.1)=pD bs->(∀p∈xs,wdD p.2=du)->∃os:List NP,ppD xs=oD os/\os.map (·.1)=bs/\∀p∈os,IsWd p.2
 | [],[],_,_=>⟨[],rfl,rfl,λp l=>nomatch l⟩
 | [],_::_,h,_=>by cases h
 | _::_,[],h,_=>by cases h
 | (a,b)::xs,c::bs,h,hn=>by
  simp only[pD,aU,eh]at h;obtain⟨rfl,h⟩:=h;obtain⟨os,o,u,v⟩:=zmO (xs:=xs) (bs:=bs) h λp l=>hn p (by simp[l]);have hb:=hn (prD c,b) (by simp);have hb:wdD b=du:=hb;cases b with
  | str s =>refine⟨(c,s)::os,?_,?_,?_⟩;show lV [prD c,cH s]::ppD xs=lV [prD c,cH s]::oD os;rw[o];simp[u];intro p l;rcases ay.mp l with rfl|l;have hb:decide (s=wOut\/s=Jy\/s=Js)=du:=hb;show s=wOut\/s=Jy\/s=Js;exact of_decide_eq_true hb;exact v p l
  | _=>cases hb
theorem zks{k:Nat}:∀{ts:qD},bL ts=du->cm ts<=k->∀t∈ts,OkK k t
 | [],_,_,t,ht=>nomatch ht
 | x::xs,h1,h2,t,ht=>by
  have a:x.canLay0=du/\bL xs=du:=by simpa[bL] using h1
  simp only[cm]at h2;rcases ay.mp ht with rfl|z;exact⟨a.1,by lia⟩;exact zks a.2 (by lia) t z
theorem WC{k:Nat}{ts:qD}(h:OkK k (lV ts)):∀t∈ts,OkK k t:=zks (by simpa only[bX] using h.1) (by have:=h.2;simp only[eC]at this;lia)
theorem zmS{d:af}(h:PlnD d):Pl2 d:=⟨h.pln,λts e t o=>by subst e;exact(h.tup.2 t o).pln⟩
theorem zmR{d:af}(h:PlnD d):Pl3 d:=⟨h.pln,λts e=>by subst e;exact⟨h.tup.1,λt l=>zmS (h.tup.2 t l)⟩⟩
def PapR(bits:Int)(rs:List NP):Prop:=Ptc bits (rs.map (·.1))/\((rs.map (·.1)).map λb=>(2:Int) ^ ap b.2).sum=2 ^ ap bits/\∀r∈rs,IsWd r.2
def zzq(bits:Int)(d:af):Prop:=∃rs:List NP,d=lV (oD rs)/\PapR bits rs
inductive zeu:qD->Nat->qN->Prop
 | c {bits:Int} {d:af} {n:Nat} {R:qN} (b0:0<=bits) (b1:bits<=64) (p:PlnD d) (o:OkK 40 d) (h:∀b:Bool,(b=du↔zzq bits d)->R (dQ b) n):zeu [bu bits,d] n R
def zgr(Z:ZZ):Prop:=QF Z "is_paper" 62 ["bits","thing"] 4 2 zeu
theorem zjv(D:DQ Z "is_paper" 62 ["bits","thing"]) (K1:VH Z) (LL:zgq Z) (LM:zgt Z) (LX:zh9 Z) (L9:StG Z.K Z.mg "WORDS" [aa "out",aa "kept",aa "free"]) (T:Txt Z.mg):zgr Z:=by
 refine' okN ["bits","thing","blocks"] D λI=>⟨_,(Jb (Jo (JK (J9 (JQ (JH (dl (Qo Uz T.isi T.tup Qn (dlv 1) Jv)))) (Qp (JQ (JH (dl (Jw (Uv rfl) Uq T.all UF (Jk (dl (Jr (dnc ["row"] [] (dil (JP (Jh 1))) (λ_ _ _ _=>(dgv 0 (ndB rfl))) (λ_ _ _ _=>(Jd LX I (dbv 0 Ja)))))) Jn Qr)))))))) (Jc (Jf JC)) Jq) (Jb (Jo (JQ (JH (dl (Jw (Uv rfl) Uq T.all UF (Jk (dl (Jr (dnc ["block","word"] [] (dil (JP (Jh 1))) (λ_ _ _ _=>(JF rfl (Jj (dgv 0 (ndB rfl)) (Jj (dgv 1 (ndB rfl)) JD)))) (λ_ _ _ _=>(Ud (Qo Wf T.isi T.str WS (dlv 1) Jv) (QJ (J3 (zq8 I) zwq (dlv 1) (dl (zqs (ds:=[cH (aa "out"),cH (aa "kept"),cH (aa "free")]) L9)) rfl))))))) Jn Qr))))) (Jc (Jf JC)) Jq) (Jb (dsv 2 (ndB rfl) (Jd K1 I (dbv 1 Ja))) (Jc (Jf (Ud (Jd LL I (dbv 0 (dbv 2 Ja))) (QJ (J3 (Qc I) Qa (dl (Jd LM I (dbv 2 Ja))) (dl (JO dli (dlv 0))) (Jg _))))))))),?_⟩;intro ts n R hl h;obtain @⟨bits,d,n,R,b0,b1,p,o,h⟩:=h;cases d with
 | dict U =>
  cases U with
  | nil =>have h:=h dy ⟨λz=>(by cases z),λ⟨bs,e,_⟩=>(by cases e)⟩;wp_walk;exact h
  | cons a b=>exact absurd rfl p.pln
 | tuple ts =>
  obtain⟨l6,p3⟩:=p.tup;wp_walk;refine WG (λt=>dQ (Ys t)) (by lia) ?_ ?_
  ·intro t J K2 X2 v;wp_walk using zfH.c (p3 t J).pln ?_;exact v
  ·wp_walk using Uk ?_
   ·obtain⟨xs,rfl⟩:=zii ts hc;have lx:fo xs<=1000000:=by simpa[ppD] using l6
    have px:∀q∈xs,PlnD q.1/\PlnD q.2:=λq G=>by have:=(p3 (lV [q.1,q.2]) (aA.mpr ⟨q,G,rfl⟩)).tup.2;exact⟨this _ (by simp),this _ (by simp)⟩
    have pl:Pl3 (lV (xs.map (·.1))):=zmR (zkk (by rw[aG];exact lx) λt J=>by obtain⟨q,G,rfl⟩:=aA.mp J;exact(px q G).1);refine Qt (cs:=xs) (D:=λp=>lV [p.1,p.2]) (λp=>dQ (wdD p.2)) (by lia) ?_ ?_
    ·intro q G K2 X2 v;have pq:=(px q G).2;have oq:OkK 40 q.2:=WC (WC o (lV [q.1,q.2]) (aA.mpr ⟨q,G,rfl⟩)) q.2 (by simp);obtain⟨qa,qb⟩:=q;dsimp only at *;cases qb with
     | dict U =>
      cases U with
      | nil =>wp_walk;exact v
      | cons a b=>exact absurd rfl pq.pln
     | str s =>wp_walk;exact oq.okd;intro t J;simp only[ay,aS,or_false]at J;rcases J with rfl|rfl|rfl <;> exact(zjB (by decide +kernel)).okd;have e:([cH (aa "out"),cH (aa "kept"),cH (aa "free")].any λt=>t.eqv (cH s))=wdD (cH s):=in_words;rw[e];exact v
     | _ =>wp_walk;exact v
    ·wp_walk using Uk ?_
     ·have al:∀q∈xs,wdD q.2=du:=bM.mp hc;wp_walk using UH.c lx ?_,zet.c b0 b1 pl (λb hb=>?_)
      ·obtain⟨bs,L,P⟩:=hb.mp hc;have L:=fQ L;have lb:fo bs<=1000000:=by have:=congrArg fo L;rw[aG,JA]at this;lia
       rw[L];refine zex.c (λb hb=>⟨(P.1 b hb).1,bT (P.1 b hb).2.1 b1⟩) lb ?_;wp_walk;all_goals first
        | exact cpow (by lia) (by lia)
        | skip
       refine h _ ?_;rw[decide_eq_true_eq,bR];constructor;intro sm;obtain⟨os,e1,Y,e3⟩:=zmO (bs:=bs) L al;exact⟨os,by rw[e1],by rw[Y];exact P,by rw[Y];exact sm,e3⟩;rintro⟨os,e,_,sm,_⟩;have C:ppD xs=oD os:=fQ e;rw[Yp]at C;have:=Wu C;subst this;have:bs=os.map (·.1):=zm0 (by rw[<- L];simp[pD]);rw[this];exact sm
      have N:b=dy:=hc;refine h dy ⟨λz=>(by cases z),λ⟨os,e,S⟩=>?_⟩;have C:ppD xs=oD os:=fQ e;rw[Yp]at C;have:=Wu C;subst this;have:IsPt bits (lV ((os.map λp=>(prD p.1,cH p.2)).map (·.1))):=⟨os.map (·.1),by simp[pD],S.1⟩;rw[hb.mpr this]at N;cases N
     refine h dy ⟨λz=>(by cases z),λ⟨os,e,S⟩=>?_⟩;have C:ppD xs=oD os:=fQ e;rw[Yp]at C;have:=Wu C;subst this;have:((os.map λp=>(prD p.1,cH p.2)).all λp=>wdD p.2)=du:=bM.mpr λq G=>by obtain⟨o,ho,rfl⟩:=aA.mp G;exact decide_eq_true (S.2.2 o ho)
     rw[this]at hc;cases hc
   refine h dy ⟨λz=>(by cases z),λ⟨os,e,S⟩=>?_⟩;cases e;have:(oD os).all Ys=du:=by rw[bM];intro x hx;obtain⟨o,_,rfl⟩:=aA.mp hx;rfl
   rw[this]at hc;cases hc
 | _ =>have h:=h dy ⟨λz=>(by cases z),λ⟨bs,e,_⟩=>(by cases e)⟩;wp_walk;exact h
def rowN(d:Deal)(nm:af)(h:Int)(rs:List NP)(r:NP):Prop:=(r.2=wOut->∃p∈d.2.1.map (·.1),p.1<=r.1.1/\eB r.1<=eB p)/\(r.2=Jy->∃p∈Jt d nm,p.1<=r.1.1/\eB r.1<=eB p)/\(r.2=Js->r.1.2<h/\((bW r.1.1 (2 ^ ap r.1.2),r.1.2),Js)∉rs)
def zwT(d:Deal)(nm:af)(h:Int)(rs:List NP):Prop:=∀r∈rs,rowN d nm h rs r
theorem zeq{bits:Int}{os o:List NP}{nm:af}(P:Ptc bits (o.map (·.1))):Ptc bits (Jt (bits,os,o) nm):=by
 refine⟨λb hb=>P.1 b (Vx b hb),?_⟩;have:(Jt (bits,os,o) nm).Sublist (o.map (·.1)):=by unfold Jt;exact(List.filter_sublist).map _
 exact P.2.sublist this
def Wj(d:Deal)(nm:af)(h:Int)(t:af):Prop:=∃rs:List NP,t=lV (oD rs)/\PapR d.1 rs/\zwT d nm h rs
inductive VG:qD->Nat->qN->Prop
 | c {d:Deal} {nm:af} {h:Int} {t:af} {n:Nat} {R:qN} (D:Dl d) (hw:QX nm) (l1:fo d.2.1<=1000) (l2:fo d.2.2<=1000) (p:PlnD t) (o:OkK 40 t) (k:∀b:Bool,(b=du↔Wj d nm h t)->R (dQ b) n):VG [dlD d,nm,bu h,t] n R
def zeH(Z:ZZ):Prop:=QF Z "shows_none" 60 ["deal","name","height","paper"] 6 4 VG
theorem zhb(D:DQ Z "shows_none" 60 ["deal","name","height","paper"]) (K1:VH Z) (K4:W0 Z) (LN:zgr Z) (Lg:zdM Z) (Lw:zeI Z) (T:Txt Z.mg):zeH Z:=by
 refine' okN ["deal","name","height","paper","outs","kept","free","block","word"] D λC=>⟨_,(Jb (Jo (JQ (JH (dl (Jd LN C (dbc (Je (dlv 0) dli) (dbv 3 Ja)))))) (Jc (Jf JC)) Jq) (Jb (dsv 4 (ndB rfl) (Jd K1 C (dbc (Je (dlv 0) dli) Ja))) (Jb (dsv 5 (ndB rfl) (Jd K4 C (dbv 0 (dbv 1 Ja)))) (Jb (znZ (i:=6) (ndB rfl) rfl (dY rfl) (own:=["block","word"]) (capt:=[]) (zmA C) rfl (JB.of rfl) (dil (JP (Jh 3))) (λ_ _ _ _=>(JF rfl (Jj (dgv 0 (ndB rfl)) (Jj (dgv 1 (ndB rfl)) JD)))) (by decide) (λ_ _ _ _=>(Uu (Jl (Qc C) Qa (dlv 1) (dl JM) (Jg _)))) (λ_ _ _ _=>(Jh 0)) (λ_ _ _ _=>JC)) (Jb (QQ cF rfl (JP (Jh 3)) (JF rfl (Jj (dgv 7 (ndB rfl)) (Jj (dgv 8 (ndB rfl)) JD))) (Jb (Jo (JK (Q3 (Jl (Qc C) Qa (dlv 8) (dl JM) (Jg _)) (Q4 (Jl V0 VM (dl (Jd Lg C (dbv 4 (dbv 7 Ja)))) (dl US) (Jg _))))) (Jc (Jf JC)) Jq) (Jb (Jo (JK (Q3 (Jl (Qc C) Qa (dlv 8) (dl JM) (Jg _)) (Q4 (Jl V0 VM (dl (Jd Lg C (dbv 5 (dbv 7 Ja)))) (dl US) (Jg _))))) (Jc (Jf JC)) Jq) (Jc (Jo (JK (Q3 (Jl (Qc C) Qa (dlv 8) (dl JM) (Jg _)) (Q4 (JK (J9 (Jl Yq gp_B (dl (Je (dlv 7) dli)) (dlv 2) (Jg _)) (Qp (Jl (zq7 (zmA C)) zrm (dl (Jd Lw C (dbv 7 Ja))) (dlv 6) rfl))))))) (Jc (Jf JC)) Jq))))) (Jc (Jf JC))))))),?_⟩;intro ts n R hl h;obtain @⟨⟨bits,os,ks⟩,nm,h,t,n,R,D,hw,l1,l2,p,o,k⟩:=h;have D':=D;obtain⟨b0,Y,S1,S2,_⟩:=D';have b0:1<=bits:=b0;have Y:bits<=64:=Y;have l1:fo os<=1000:=l1;have l2:fo ks<=1000:=l2;have e:dlD (bits,os,ks)=lV [bu bits,lV (oD os),lV (oD ks)]:=rfl;have ab:∀{m:Nat} {R':qN},R' (lV (pD (os.map (·.1)))) m->UH [lV (oD os)] m R':=λh'=>by rw[Yp];refine UH.c (by simp;lia) ?_;rw[show((os.map λp=>(prD p.1,cH p.2)).map (·.1))=pD (os.map (·.1)) by unfold pD;rw[bS,bS];rfl];exact h'
 have N:0<=bits:=by lia
 rw[e];wp_walk using zeu.c N Y p o (λb hb=>?_),ab ?_
 ·obtain⟨rs,rfl,PR⟩:=hb.mp hc;have lr:fo rs<=1000000:=by have:=p.tup.1;rw[UU]at this;exact this
  refine Yl.c (d:=(bits,os,ks)) hw S2.2 (by show fo ks<=_;lia) ?_;wp_walk;refine zi6 (cs:=rs) (D:=λr=>lV [prD r.1,cH r.2]) (λr=>decide (r.2=Js)) (λr=>r.1) (λ_=>dQ du) (by lia) ?_ ?_
  ·intro r C K X U hX;wp_walk;exact U (decide_eq_true hc);exact hX (decide_eq_false hc)
  ·generalize hfr:List.foldl (λacc b=>putT acc b.1 (dQ du)) [] (List.filter (λr=>decide (r.2=Js)) rs)=fr;have hf:∀b:Int×Int,f6 (valT fr b)=du↔(b,Js)∈rs:=λb=>by
    rw[zj_,<- hfr,zfL (F:=λr:NP=>r.1) (G:=λ_=>dQ du)];constructor;rintro(z|z);simp at z;obtain⟨r,C,rfl⟩:=aA.mp z;obtain⟨J,I⟩:=cT.mp C;have I:r.2=Js:=of_decide_eq_true I;rw[<- I];exact J;intro z;exact sr (aA.mpr ⟨(b,Js),cT.mpr ⟨z,decide_eq_true rfl⟩,rfl⟩)
   have PK:Ptc bits (Jt (bits,os,ks) nm):=zeq S2.1;have lk:fo (Jt (bits,os,ks) nm)<1000000:=fe Vw (by show fo ks<_;lia);wp_walk;refine zrp 7 8 (λj _ _ m=>m=n/\∀(i:Nat) r,i<j->rs[i]?=ao r->rowN (bits,os,ks) nm h rs r) ⟨rfl,λi r z=>by lia⟩ ?_ ?_
   ·rintro j x _ _ m K RT BK ej ⟨rfl,hi⟩ U hRT hBK;obtain⟨r,er,rfl⟩:=zne ej;have C:=aQ er;have B:IsBk bits r.1.1 r.1.2:=PR.1.1 r.1 (aA.mpr ⟨r,C,rfl⟩);have g0:0<=r.1.2:=B.1;have g1:r.1.2<=bits:=B.2.1;have bad:¬rowN (bits,os,ks) nm h rs r->RT (dQ dy) m:=λnr=>hRT _ _ (k dy ⟨λz=>(by cases z),λ⟨rs',e',_,sh⟩=>by
     have:rs=rs':=znd (fQ e');subst this;exact(nr (sh r C)).elim⟩)
    have good:rowN (bits,os,ks) nm h rs r->m=m/\∀(i:Nat) q,i<j+1->rs[i]?=ao q->rowN (bits,os,ks) nm h rs q:=λnr=>⟨rfl,λi q hq eq=>by rcases iI.mp hq with z|rfl;exact hi i q z eq;rw[er]at eq;cases eq;exact nr⟩;have hwd:=PR.2.2 r C;obtain⟨⟨b,g⟩,w⟩:=r;dsimp only at B g0 g1 hwd ⊢;have l1':fo (os.map (·.1))<1000000:=by rw[aG];lia
    have e1:¬wOut=aa "kept":=by decide +kernel
    have e2:¬wOut=aa "free":=by decide +kernel
    have e3:¬Jy=aa "out":=by decide +kernel
    have e4:¬Jy=aa "free":=by decide +kernel
    have e5:¬Js=aa "out":=by decide +kernel
    have e6:¬Js=aa "kept":=by decide +kernel
    rcases hwd with v|v|v
    ·have v:w=wOut:=v;subst v;wp_walk;all_goals first
      | exact absurd ‹wOut=aa "kept"› e1
      | exact absurd ‹wOut=aa "free"› e2
      | exact absurd (rfl:wOut=aa "out") ‹¬wOut=aa "out"›
      | skip
     refine W4.c (b:=(b,g)) N Y S1.1 l1' B (λp L J I=>?_) (λno=>?_)
     ·wp_walk;all_goals first
       | exact absurd ‹wOut=aa "kept"› e1
       | exact absurd ‹wOut=aa "free"› e2
       | exact absurd hc aT
       | exact absurd ‹isNone fq=dy› fj
       | exact fj (show du=dy from ‹isNone fq=dy›)
       | exact U _ _ _ (good ⟨λ_=>⟨p,L,J,I⟩,λz=>absurd z e1,λz=>absurd z e2⟩)
     ·wp_walk;all_goals first
       | exact absurd hc aT
       | exact absurd ‹isNone fq=dy› fj
       | exact fj (show du=dy from ‹isNone fq=dy›)
       | exact bad λz=>by obtain⟨p,L,J,I⟩:=z.1 rfl;exact no p L ⟨J,I⟩
    ·have v:w=Jy:=v;subst v;wp_walk;all_goals first
      | exact absurd ‹Jy=aa "out"› e3
      | exact absurd ‹Jy=aa "free"› e4
      | exact absurd (rfl:Jy=aa "kept") ‹¬Jy=aa "kept"›
      | skip
     refine W4.c (b:=(b,g)) N Y PK lk B (λp L J I=>?_) (λno=>?_)
     ·wp_walk;all_goals first
       | exact absurd ‹Jy=aa "free"› e4
       | exact absurd hc aT
       | exact absurd ‹isNone fq=dy› fj
       | exact fj (show du=dy from ‹isNone fq=dy›)
       | exact U _ _ _ (good ⟨λz=>absurd z e3,λ_=>⟨p,L,J,I⟩,λz=>absurd z e4⟩)
     ·wp_walk;all_goals first
       | exact absurd hc aT
       | exact absurd ‹isNone fq=dy› fj
       | exact fj (show du=dy from ‹isNone fq=dy›)
       | exact bad λz=>by obtain⟨p,L,J,I⟩:=z.2.1 rfl;exact no p L ⟨J,I⟩
    ·have v:w=Js:=v;subst v;wp_walk;all_goals first
      | exact absurd ‹Js=aa "out"› e5
      | exact absurd ‹Js=aa "kept"› e6
      | exact absurd (rfl:Js=aa "free") ‹¬Js=aa "free"›
      | skip
     exact bad λz=>by have:=(z.2.2 rfl).1;dsimp only at this;lia
     ·refine zcZ.c g0 (by lia) ?_;wp_walk;refine zv6 (k:=(bW b (2 ^ ap g),g)) ?_;wp_walk;exact bad λz=>(z.2.2 rfl).2 ((hf _).mp hc);refine U _ _ _ (good ⟨λz=>absurd z e5,λz=>absurd z e6,λ_=>⟨by dsimp only;lia,λz=>?_⟩⟩);rw[(hf _).mpr z]at hc;cases hc
   ·rintro _ _ m ⟨rfl,hi⟩;wp_walk;refine k du ⟨λ_=>⟨rs,rfl,PR,λr C=>?_⟩,λ_=>rfl⟩;obtain⟨i,ei⟩:=dB.mp C;exact hi i r (by have:=(aq.mp ei).1;rw[UU];exact this) ei
 refine k dy ⟨λz=>(by cases z),λ⟨rs,e,PR,_⟩=>?_⟩;rw[hb.mpr ⟨rs,e,PR⟩]at hc;cases hc
theorem scH:UY ["_law_script","_law_k","_law_cell"] ["_law_script","_law_k"] (JT (top 64)):=⟨rfl,rfl,rfl,by decide +kernel,rfl,by decide +kernel,by decide +kernel⟩
theorem ziu{f:ai}{fd:dU}(D:Def K mg "_law_hand" (top 64) ["_law_script","_law_k"] f fd) (T:Txt mg):FnOk P w K mg base CX0 1 f fd ["_law_script","_law_k"] (V7 K):=by
 refine D.F.ok scH (λx H Q E h=>?_) (λC A outer s H x Q E L h=>?_);obtain⟨a,ns,k,rfl,_⟩:=h;rfl;obtain⟨a,ns,k,rfl,u,J,G,N,q⟩:=h;refine⟨_,QM (Q1 (i:=2) scH.nd rfl (dY rfl) JN)
  (QM (VS (zjo zuY (pv 1) (V2 zi9 T.len Qs (pb_v 0 Ua)) (Jg _)) (Zi (Q1 (i:=2) scH.nd rfl (dY rfl) (UL U0 (pv 0) (pv 1) (λ_ _=>rfl)))) Wv)
  (Zi (ZR (zmW (zq5 (JL Q9 (pv 2) (VR VA T.int boot_int (zuP (zmX Yq (pv 2) (JL zuV JN JN) (Jg _)) Ua)))
   (zq5 (JL Ul (JL Ul (JL Yb (pv 2) JN) (JL Q9 JN (pv 1))) JN) (pb_i Ua))))))),?_⟩
 refine⟨_,rfl,_,rfl,a,_,rfl,dY u,_,_,rfl,rfl,_,rfl,?_⟩;have fin:∀c:Int,tRet (tLst (QW (tOp (rI CMul λi j=>V.int (i*j)) (tVar 2) (tCB (λxs H Q=>(∃i,xs=[.int i]/\Q (.int i) H)\/∃k,xs=[.bl k]/\Q (.int (if k then 1 else 0)) H) (QW (tOp (rI0 λi j=>.bl (decide (j<=i))) (tVar 2) (tOp (rI CPow λi j=>.int (i ^ ap j)) (tC (.int 10)) (tC (.int 18)))) tNil)))
   (QW (tOp (rI0 λi j=>.int (i+j)) (tOp (rI0 λi j=>.int (i+j)) (tOp (rI (λ_ j=>0<j) λi j=>.int (i % j)) (tVar 2) (tC (.int 2305843009213693951))) (tOp (rI CMul λi j=>V.int (i*j)) (tC (.int 7919)) (tVar 1))) (tC (.int 3))) (QW (tC (.int 0)) tNil))))
   { nx:=λ_ H'=>Q .non H',rt:=Q } [ao (.ref a),ao (.int k),ao (.int c)] H:=by
  intro c;refine⟨_,rfl,_,rfl,_,_,rfl,rfl,⟨by decide,by decide,by decide⟩,_,_,rfl,rfl,sr ⟨_,rfl,_,_,rfl,rfl,sr ?_,?_⟩⟩;split <;> decide;refine⟨_,rfl,_,_,rfl,rfl,(by show(0:Int)<2305843009213693951;decide),_,rfl,_,_,rfl,rfl,dY ⟨by decide,by decide⟩,_,_,rfl,rfl,_,_,rfl,rfl,(by show 3<=sizeLine;decide),λl v=>?_⟩;refine q l _ v ⟨_,_,_,J1,?_,?_,aL _,aL _⟩ (zo5 v);lia;lia
 refine zvW (λc=>?_) (λc=>?_);have I:ap k<fo ns:=by rw[aG]at c;lia
 refine⟨_,rfl,_,rfl,a,_,_,V.int (ns[ap k]),rfl,rfl,u,?_,?_⟩;exact zfY G (by rw[bK,aw I];rfl);exact fin _;exact fin 0
def zfk(Z:ZZ):Prop:=FQ Z "_law_hand" (top 64) ["_law_script","_law_k"] 1 (V7 Z.K)
theorem zha(D:Dq Z.K Z.mg "_law_hand" (top 64) ["_law_script","_law_k"]) (T:Txt Z.mg):zfk Z:=by obtain⟨f,fd,D⟩:=D;exact⟨f,fd,D,ziu D T⟩
theorem zh1{H:Hp}{hd:ai}{o:HO}:zwU hd H (upd H hd o):=λb u e n=>by rw[Ju n];exact e
theorem scT:UY ["_law_hand_here","_law_many","_law_digit","_law_turn","_law_mixed","_law_other"] ["_law_hand_here","_law_many"] (JT (top 65)):=⟨rfl,rfl,rfl,by decide +kernel,rfl,by decide +kernel,by decide +kernel⟩
theorem zpD{f:ai}{fd:dU}(D:Def K mg "_law_take" (top 65) ["_law_hand_here","_law_many"] f fd) (T:Txt mg):FnOk P w K mg base CX0 1 f fd ["_law_hand_here","_law_many"] zqP:=by
 refine D.F.ok scT (λx H Q E h=>?_) (λG A outer s H x Q E I h=>?_);obtain⟨hd,many,n,rfl,_⟩:=h;rfl;obtain⟨hd,many,n,rfl,⟨d,m,t,u,m0,m1,t0,t1⟩,J,v,C,q⟩:=h;refine⟨_,QM (VS (zjo QO (UL U0 (pv 0) JN (λ_ _=>rfl)) JN (Jg _))
   (QM (Q1 (i:=2) scT.nd rfl (dY rfl) (JL Yb (UL U0 (pv 0) JN (λ_ _=>rfl)) (pv 1)))
   (QM (ZQ (JL WD (UL U0 (pv 0) JN (λ_ _=>rfl)) (pv 1)) (pg_sub (pv 0) JN set_list))
   (Zi (ZR (pv 2))))) Wv)
  (QM (ZQ (JL Ul (UL U0 (pv 0) JN (λ_ _=>rfl)) JN) (pg_sub (pv 0) JN set_list))
  (QM (Q1 (i:=3) scT.nd rfl (dY rfl) (UL U0 (pv 0) JN (λ_ _=>rfl)))
  (QM (Q1 (i:=4) scT.nd rfl (dY rfl) (JL Yb (JL Q9 (UL U0 (pv 0) JN (λ_ _=>rfl)) (JL Ul (JL Ul JN (JL Q9 (JL Q9 JN (pv 3)) (pv 3))) (JL Q9 JN (pv 3)))) JN))
  (QM (Q1 (i:=5) scT.nd rfl (dY rfl) (JL Ul (JL Ul (JL Yb (pv 4) JN) (JL Q9 (pv 3) JN)) JN))
  (QM (Q1 (i:=4) scT.nd rfl (dY rfl) (JL Yb (JL Q9 (pv 4) (pv 5)) JN))
  (Zi (ZR (JL Yb (JL Ul (JL WD (pv 4) JN) (JL WD (pv 4) JN)) (pv 1))))))))),?_⟩
 refine⟨_,rfl,hd,_,_,_,rfl,rfl,.of u,rfl,_,_,rfl,rfl,_,rfl,?_⟩;refine zvW (λc=>?_) (λc=>?_);refine⟨_,rfl,hd,_,_,_,rfl,rfl,.of u,rfl,_,rfl,_,_,rfl,rfl,v,?_⟩;refine⟨_,rfl,hd,_,_,_,rfl,rfl,.of u,rfl,_,rfl,_,_,rfl,rfl,⟨v,C⟩,?_⟩;refine⟨_,rfl,hd,_,_,0,rfl,rfl,u,rfl,?_⟩;refine⟨_,rfl,?_⟩;exact q _ _ (gj _ (by lia)) (fW _ v) ⟨_,_,_,J1,m0,m1,t0,by lia⟩ zh1;refine⟨_,rfl,hd,_,_,_,rfl,rfl,.of u,rfl,_,_,rfl,rfl,?_⟩;refine⟨_,rfl,hd,_,_,2,rfl,rfl,u,rfl,?_⟩;refine⟨_,rfl,hd,_,_,_,rfl,rfl,.of J1,rfl,?_⟩;refine⟨_,rfl,hd,_,_,_,rfl,rfl,.of J1,rfl,_,rfl,_,_,rfl,rfl,dY ⟨by decide,by decide⟩,_,rfl,_,_,rfl,rfl,sr ⟨by lia,by lia⟩,_,_,rfl,rfl,_,rfl,_,_,rfl,rfl,dY ⟨by decide,by decide⟩,_,_,rfl,rfl,_,_,rfl,rfl,dY ⟨by lia,by lia⟩,_,_,rfl,rfl,(by show(0:Int)<2305843009213693921;decide),?_⟩;refine⟨_,rfl,_,_,rfl,rfl,(by show(0:Int)<1000003;decide),_,rfl,_,_,rfl,rfl,sr ⟨by decide,by decide⟩,_,_,rfl,rfl,_,_,rfl,rfl,?_⟩;refine⟨_,rfl,_,rfl,_,_,rfl,rfl,dY ⟨by lia,by lia⟩,_,_,rfl,rfl,(by show(0:Int)<2305843009213693907;decide),?_⟩;refine⟨_,rfl,_,_,rfl,rfl,⟨by decide,by decide⟩,_,rfl,_,_,rfl,rfl,⟨by decide,by decide⟩,_,_,rfl,rfl,_,rfl,_,_,rfl,rfl,v,?_⟩;exact q _ _ (gj _ (by lia)) (fW _ v) ⟨_,_,_,J1,m0,m1,by lia,by lia⟩ zh1
theorem ziq{f:ai}{fd:dU}(D:Def K mg "_law_take" (top 65) ["_law_hand_here","_law_many"] f fd) (T:Txt mg):FnOk P w K mg base CX0 1 f fd ["_law_hand_here","_law_many"] (spD K 2 Y4) :=
 (zpD D T).imp zo2
def U5(Z:ZZ):Prop:=QF Z "_law_take" 65 ["_law_hand_here","_law_many"] 1 2 Y4
theorem zg_(D:Dq Z.K Z.mg "_law_take" (top 65) ["_law_hand_here","_law_many"]) (T:Txt Z.mg):U5 Z:=by obtain⟨f,fd,D⟩:=D;exact⟨f,fd,D,ziq D T⟩
def VI:GD:=λts n R=>match ts with
 | [h,sJ xs]=>h=HAND/\xs≠[]/\fo xs<=1000000/\n<=1000000000000/\∀x∈xs,R x (n+1)
 | [h,lV xs]=>h=HAND/\xs≠[]/\fo xs<=1000000/\n<=1000000000000/\∀x∈xs,R x (n+1)
 | _=>False
theorem VF{xs:qD}{n:Nat}{R:qN}(h0:xs≠[])(u:fo xs<=1000000)(o:n<=1000000000000)(h:∀x∈xs,R x (n+1)):VI [HAND,sJ xs] n R:=⟨rfl,h0,u,o,h⟩
def Ym(Z:ZZ):Prop:=QF Z "_law_pick" 66 ["_law_hand_here","_law_some"] 2 2 VI
theorem zir(D:DQ Z "_law_pick" 66 ["_law_hand_here","_law_some"]) (G:U5 Z) (T:Txt Z.mg):Ym Z:=by
 refine' okN ["_law_hand_here","_law_some"] D λx=>⟨_,(Jc (Jf (Je (dlv 1) (dl (Jd G x (dbv 0 (dbc (Jw Qw Qv T.len Qs (Jk (dlv 1) Jn Jv)) Ja))))))),?_⟩;intro ts n R J h;cases ts with
 | nil=>exact e9 h
 | cons hd ts=>cases ts with
  | nil=>exact e9 h
  | cons t ts=>cases ts with
   | cons _ _=>cases t <;> exact e9 h
   | nil=>cases t with
    | list xs =>
     obtain⟨rfl,h0,I,u,h⟩:=h;have v:0<fo xs:=lH.mpr h0;wp_walk using Um (by lia) (by lia) u (λr o C=>?_);have l:ap r<fo xs:=by lia
     rw[YE (zfY o (aw l))];exact h _ (dO l)
    | tuple xs =>
     obtain⟨rfl,h0,I,u,h⟩:=h;have v:0<fo xs:=lH.mpr h0;wp_walk using Um (by lia) (by lia) u (λr o C=>?_);have l:ap r<fo xs:=by lia
     rw[ZD (zfY o (aw l))];exact h _ (dO l)
    | _=>exact e9 h
def zdA:GD:=λts n R=>match ts with
 | [h]=>h=HAND/\n<=1000000000000/\∀b:Int,1<=b->b<=64->R (bu b) (n+1)
 | _=>False
theorem zj2{n:Nat}{R:qN}(l:n<=1000000000000)(h:∀b:Int,1<=b->b<=64->R (bu b) (n+1)):zdA [HAND] n R:=⟨rfl,l,h⟩
def zfo(Z:ZZ):Prop:=QF Z "_law_bits" 67 ["_law_hand_here"] 3 1 zdA
theorem ziy(D:DQ Z "_law_bits" 67 ["_law_hand_here"]) (o:Ym Z) (T:Txt Z.mg):zfo Z:=by refine' okN ["_law_hand_here"] D λl=>⟨_,(Jc (Jf (Jd o l (dbv 0 (dbc (Jr (JU (dbc Ji (dbc Ji (dbc Ji (dbc Ji (dbc Ji (dbc Ji (dbc Ji (dbc Ji (dbc Ji (dbc Ji Ja)))))))))))) Ja))))),?_⟩;intro ts n R v h;unfold zdA at h;split at h;obtain⟨rfl,u,h⟩:=h;simp only[Va,Z9,Vb,Z8,u_dC,ZK,Z4,Z6,Z5,Vk,ZJ,Vs,Vu,Vm,Vl,Vt,Z7,ZV,Zl,YX,YY,YZ,Zk,Y0,Zs,YO,YQ,oSub,oMul,oMod,UN,oShl,oShr,oXor,oAnd,isNone,isInt,isBool,isTup,isStr,l_gI,ZC,Y6,Y7,Y8,Yw,Yy,Yz,Yx,YK,YM,YN,YL,YB,YC,Zg,YA,Zq,YH,YF,YG,Zc,Zd,YR,Za,Zb,YS,YT,Yv,YJ,YI,Y9,Zr,Zh,Zp,Uf,Ug,Ur,Uw,UC,UD,UB,UA,Qm,JV,capV,aU,fL,aP,dh,cJ,gF,eM,fF,cE,eK,fC,eD,fh,gG,gH,fM,Nat.reduceAdd,Nat.reduceSub,gR,true_and,and_true,bz,if_true,if_false,ite_true,ite_false,g6,fU,ir,VI];refine⟨by simp,by decide,u,λx hx=>?_⟩;simp only[ay,aS,or_false]at hx;rcases hx with rfl|rfl|rfl|rfl|rfl|rfl|rfl|rfl|rfl|rfl <;> exact h _ (by decide) (by decide);exact e9 h
def zc3:GD:=λts n R=>match ts with
 | [h,bu bits]=>h=HAND/\1<=bits/\bits<=64/\n<=1000000000000 - 10/\∀i h:Int,IsBk bits i h->R (lV [bu i,bu h]) (n+3)
 | _=>False
theorem zeU{bits:Int}{n:Nat}{R:qN}(x:1<=bits)(v:bits<=64)(o:n<=1000000000000 - 10)(h:∀i h:Int,IsBk bits i h->R (lV [bu i,bu h]) (n+3)):zc3 [HAND,bu bits] n R:=⟨rfl,x,v,o,h⟩
def zcU(Z:ZZ):Prop:=QF Z "_law_block" 68 ["_law_hand_here","_law_bits_here"] 3 2 zc3
theorem zhk(D:DQ Z "_law_block" 68 ["_law_hand_here","_law_bits_here"]) (G:Ym Z) (C:U5 Z) (T:Txt Z.mg):zcU Z:=by
 refine' okN ["_law_hand_here","_law_bits_here","_law_height"] D λv=>⟨_,(Jb (dsv 2 (ndB rfl) (Jw (VC rfl) ZU T.min Yh (Jk (dlv 1) (Jk (dl (Jd G v (dbv 0 (dbc (Jr (JU (dbc Ji (dbc Ji (dbc Ji (dbc Ji (dbc Ji (dbc Ji (dbc (Jd C v (dbv 0 (dbc (JR (dlv 1) dli) Ja))) (dbv 1 Ja)))))))))) Ja)))) Jn U1) Jv))) (Jc (Jf (Jp (dbc (Z1 (dl (Jd C v (dbv 0 (dbc (JO dli (dl (UT (dlv 1) (dlv 2)))) Ja)))) (dl (JO dli (dlv 2)))) (dbv 2 Ja)))))),?_⟩;intro ts n R Y h;unfold zc3 at h;split at h;rename_i hd bits;obtain⟨rfl,b0,b1,hn,h⟩:=h;simp only[Va,Z9,Vb,Z8,u_dC,ZK,Z4,Z6,Z5,Vk,ZJ,Vs,Vu,Vm,Vl,Vt,Z7,ZV,Zl,YX,YY,YZ,Zk,Y0,Zs,YO,YQ,oSub,oMul,oMod,UN,oShl,oShr,oXor,oAnd,isNone,isInt,isBool,isTup,isStr,l_gI,ZC,Y6,Y7,Y8,Yw,Yy,Yz,Yx,YK,YM,YN,YL,YB,YC,Zg,YA,Zq,YH,YF,YG,Zc,Zd,YR,Za,Zb,YS,YT,Yv,YJ,YI,Y9,Zr,Zh,Zp,Uf,Ug,Ur,Uw,UC,UD,UB,UA,Qm,JV,capV,aU,fL,aP,dh,cJ,gF,eM,fF,cE,eK,fC,eD,fh,gG,gH,fM,Nat.reduceAdd,Nat.reduceSub,gR,true_and,and_true,bz,if_true,if_false,ite_true,ite_false,g6,fU,ir,VI,Y4];refine⟨by lia,by lia,by lia,λr r0 r1=>⟨by simp,by decide,by lia,λx hx=>?_⟩⟩;have S:∃b:Int,x=bu b/\0<=b:=by simp only[ay,aS,or_false]at hx;rcases hx with h|h|h|h|h|h|h|h <;> first|exact⟨_,h,by decide⟩|exact⟨_,h,by lia⟩
 obtain⟨b,rfl,bb⟩:=S;simp only[Va,Z9,Vb,Z8,u_dC,ZK,Z4,Z6,Z5,Vk,ZJ,Vs,Vu,Vm,Vl,Vt,Z7,ZV,Zl,YX,YY,YZ,Zk,Y0,Zs,YO,YQ,oSub,oMul,oMod,UN,oShl,oShr,oXor,oAnd,isNone,isInt,isBool,isTup,isStr,l_gI,ZC,Y6,Y7,Y8,Yw,Yy,Yz,Yx,YK,YM,YN,YL,YB,YC,Zg,YA,Zq,YH,YF,YG,Zc,Zd,YR,Za,Zb,YS,YT,Yv,YJ,YI,Y9,Zr,Zh,Zp,Uf,Ug,Ur,Uw,UC,UD,UB,UA,Qm,JV,capV,aU,fL,aP,dh,cJ,gF,eM,fF,cE,eK,fC,eD,fh,gG,gH,fM,Nat.reduceAdd,Nat.reduceSub,gR,true_and,and_true,bz,if_true,if_false,ite_true,ite_false,g6,fU,ir,Y4];have key:∀m:Int,0<=m->m<=bits->(CPow 1 (bits - m)/\(0:Int)<1*2 ^ ap (bits - m)/\1*2 ^ ap (bits - m)<(2:Int) ^ 128/\n+1+1<=1000000000000/\∀r:Int,0<=r->r<1*2 ^ ap (bits - m)->CPow 1 m/\CMul r (1*2 ^ ap m)/\R (lV [bu (r*(1*2 ^ ap m)),bu m]) (n+1+1+1)):=by intro m m0 m1;have U:(1:Int)*2 ^ ap (bits - m)=2 ^ ap (bits - m):=bR _;have I:(1:Int)*2 ^ ap m=2 ^ ap m:=bR _;rw[U,I];refine⟨cpow (by lia) (by lia),JE _,zmP (by lia),by lia,λk L J=>⟨cpow m0 (by lia),dY ⟨by lia,?_⟩,?_⟩⟩;have:=zdP (k:=ap (bits - m)) (by lia);lia;exact h _ m ⟨m0,m1,k,L,rfl,J⟩
 exact key (if b<bits then b else bits) (by split <;> lia) (by split <;> lia);exact e9 h
inductive W3:qD->Nat->qN->Prop
 | c {bits i h:Int} {n:Nat} {R:qN} (b0:1<=bits) (b1:bits<=64) (hn:n<=1000000000000 - 100) (B:IsBk bits i h) (h':∀j g:Int,IsBk bits j g->R (lV [bu j,bu g]) (n+7)):W3 [HAND,bu bits,lV [bu i,bu h]] n R
def zfi(Z:ZZ):Prop:=QF Z "_law_near" 69 ["_law_hand_here","_law_bits_here","_law_block_here"] 4 3 W3
theorem zis(D:DQ Z "_law_near" 69 ["_law_hand_here","_law_bits_here","_law_block_here"]) (I:Ym Z) (C:zcU Z) (T:Txt Z.mg):zfi Z:=by
 refine' okN ["_law_hand_here","_law_bits_here","_law_block_here","_law_begin","_law_height","_law_size","_law_some"] D λv=>⟨_,(Jb (QK (Jh 2) (JF rfl (Jj (dgv 3 (ndB rfl)) (Jj (dgv 4 (ndB rfl)) JD)))) (Jb (dsv 5 (ndB rfl) (JO dli (dlv 4))) (Jb (Uo (i:=6) (ndB rfl) rfl (dY rfl) (JU (dbv 2 (dbc (Jp (dbv 3 (dbc (Jw (VB rfl) ZS T.max Vy (Jk dli (Jk (dl (UT (dlv 4) dli)) Jn Z3) zml)) Ja))) (dbc (Jd C v (dbv 0 (dbv 1 Ja))) (dbc (Jd C v (dbv 0 (dbv 1 Ja))) Ja)))))) (Jb (Jo (Jl QO gp_B (dlv 4) dli (Jg _)) (Jc (QD 6 (Jp (dbc (JR (dlv 3) (dl (zjX (dlv 5) dli))) (dbc (UT (dlv 4) dli) Ja))))) Jq) (Jb (Jo (Jl (Qk v) Qi (dlv 4) (dlv 1) (Jg _)) (Jb (QD 6 (Jp (dbc (UT (dlv 3) (dl (Wb (dlv 3) (dl (Z1 dli (dlv 5)))))) (dbc (JR (dlv 4) dli) Ja)))) (Jc (QD 6 (Jp (dbc (zn_ (dlv 3) (dlv 5)) (dbv 4 Ja)))))) Jq) (Jb (Jo (Jl Qj Qh (dl (JR (dlv 3) (dl (Z1 dli (dlv 5))))) (dl (JO dli (dlv 1))) (Jg _)) (Jc (QD 6 (Jp (dbc (JR (dlv 3) (dlv 5)) (dbv 4 Ja))))) Jq) (Uh 6 (Jc (Jf (Jd I v (dbv 0 (dbv 6 Ja)))))))))))),?_⟩;rintro ts n R hl @⟨bits,i,h,n,R,b0,b1,hn,B,hh⟩;have h0:=B.1;have J:=B.2.1;have o:∀j g:Int,IsBk bits j g->∀m,m=n+7->R (lV [bu j,bu g]) m:=λj g b m e=>e▸hh j g b;have G:IsBk bits i (if h - 1 > 0 then h - 1 else 0):=by
  split;exact B.low (by lia);by_cases z:h=0;subst z;exact B;have:h=1:=by lia
  subst this;exact B.low (by decide)
 wp_walk using zeU ?_ ?_ ?_ (λ_ _ _=>?_),VF ?_ ?_ ?_ ?_;all_goals first
  | lia
  | exact cpow (by lia) (by lia)
  | exact zzn
  | exact zwP
  | (rw[Qy];exact Int.mul_pos (by decide) (JE _))
  | (intro z;simp at z;done)
  | (simp only[eM,fF,aP,dh];decide)
  | skip
 all_goals
  simp only[eM,fF,oR,Qy]at *;repeat' (with_reducible refine oV ?_ ?_)
 all_goals first
  | exact o _ _ B _ rfl
  | exact o _ _ G _ rfl
  | exact o _ _ (by assumption) _ rfl
  | exact o _ _ (B.up (by lia)) _ rfl
  | exact o _ _ (B.abt (by lia)) _ rfl
  | exact o _ _ (B.oth (by lia)) _ rfl
  | exact o _ _ (B.nxt (by assumption)) _ rfl
  | (intro x hx;simp at hx)
inductive zcE:qD->Nat->qN->Prop
 | c {bits most:Int} {n:Nat} {R:qN} (b0:1<=bits) (b1:bits<=64) (m0:0<=most) (m1:most<=1000) (hn:n<=1000000000000 - 100000) (h:∀(bs:qB) (m:Nat),Bks bits bs->fo bs<=ap most->m<=n+1+12*ap most->R (sJ (pD bs)) m):zcE [HAND,bu bits,bu most] n R
def zdO(Z:ZZ):Prop:=QF Z "_law_blocks" 70 ["_law_hand_here","_law_bits_here","_law_most"] 5 3 zcE
theorem zf5(D:DQ Z "_law_blocks" 70 ["_law_hand_here","_law_bits_here","_law_most"]) (Y:U5 Z) (K8:zcU Z) (LD:zfi Z) (K0:Ym Z) (T:Txt Z.mg):zdO Z:=by
 refine' okN ["_law_hand_here","_law_bits_here","_law_most","_law_found","_law_k","_law_block_here"] D λG=>⟨_,(Jb (Uo (i:=3) (ndB rfl) rfl (dY rfl) (JU Ja)) (Jb (QQ cF rfl (WV T.ran (Jd Y G (dbv 0 (dbc (JR (dlv 2) dli) Ja)))) (dgv 4 (ndB rfl)) (Jb (dsv 5 (ndB rfl) (Jd K8 G (dbv 0 (dbv 1 Ja)))) (Jb (Jo (JK (Q3 (Jl (QB G) QA (Y3 3) (dl (Jr (JU Ja))) (Jg _)) (Q4 (Jl QO gp_B (dl (Jd Y G (dbv 0 (dbc Ji Ja)))) dli (Jg _))))) (Jc (dsv 5 (ndB rfl) (Jd LD G (dbv 0 (dbv 1 (dbc (zwJ K0 G (Jk (dlv 0) (Jk (Y3 3) Jn Jv) Jv)) Ja)))))) Jq) (Jc (QD 3 (Jh 5)))))) (Uh 3 (Jc (Jf (Jh 3)))))),?_⟩;rintro ts n R hl @⟨bits,most,n,R,b0,b1,m0,m1,hn,hh⟩;wp_walk using Um ?_ ?_ ?_ (λr r0 r1=>?_);lia;lia;lia;lia;lia;refine UZ (λk J m=>∃bs:List (Int×Int),∃S L,J=[ao (.val HAND),ao (.val (bu bits)),ao (.val (bu most)),ao (.own (pD bs)),S,L]/\Bks bits bs/\fo bs=k/\m<=n+1+12*k) ⟨[],_,_,rfl,(λb hb=>nomatch hb),rfl,by lia⟩ ?_ ?_
 ·rintro k t J m K et ⟨bs,S,L,rfl,B,N,hm⟩ hK;obtain⟨hk2,rfl⟩:=zgp et;have hk3:k<1000:=by lia
  have fin:∀(i h:Int) (x4 U:Option Cell) (I:Nat),IsBk bits i h->I<=m+12->K [ao (.val HAND),ao (.val (bu bits)),ao (.val (bu most)),ao (.own (pD bs++[lV [bu i,bu h]])),x4,U] I:=λi h x4 U I C hm' =>
   hK _ _ ⟨bs++[(i,h)],_,_,by rw[<- UV],B.app C,by simp[N],by lia⟩
  wp_walk using zeU ?_ ?_ ?_ (λi h C=>?_),Um ?_ ?_ ?_ (λq q0 q1=>?_),VF ?_ ?_ ?_ ?_,W3.c ?_ ?_ ?_ ?_ (λj g C'=>?_);all_goals first
   | lia
   | exact zu5
   | exact zjq
   | (rw[JA];lia)
   | decide
   | (intro z
      have y:dP (sJ (pD bs)) (sJ [])=dy:=by assumption
      rw[ztb]at y;have y2:bs=[]:=by have:=congrArg fo z;rw[JA]at this;exact gL.mp this
      rw[y2]at y;cases y)
   | exact fin _ _ _ _ _ (by assumption) (by lia)
   | skip
  all_goals
   intro x hx;obtain⟨b,hb,rfl⟩:=aA.mp hx;refine⟨zlw,?_⟩;have C0:=B b hb;wp_walk using W3.c ?_ ?_ ?_ ?_ (λj g C'=>?_);all_goals first
    | lia
    | exact C0
    | (rw[JA];lia)
    | exact fin _ _ _ _ _ (by assumption) (by lia)
 ·rintro J m ⟨bs,S,L,rfl,B,N,hm⟩;have el:fo bs<=ap most:=by
   rw[N];unfold QL;simp;lia
  wp_walk;exact hh bs m B el (by lia)
inductive W1:qD->Nat->qN->Prop
 | c {bits most:Int} {n:Nat} {R:qN} (b0:1<=bits) (b1:bits<=64) (m0:0<=most) (m1:most<64) (hn:n<=1000000000000 - 100000) (h:∀(bs:qB) (m:Nat),Ptc bits bs->fo bs<=ap most->m<=n+1+12*ap most->R (lV (pD bs)) m):W1 [HAND,bu bits,bu most] n R
def zeM(Z:ZZ):Prop:=QF Z "_law_patch" 71 ["_law_hand_here","_law_bits_here","_law_most"] 6 3 W1
theorem zhi(D:DQ Z "_law_patch" 71 ["_law_hand_here","_law_bits_here","_law_most"]) (Lr:zdO Z) (T:Txt Z.mg):zeM Z:=by
 refine' okN ["_law_hand_here","_law_bits_here","_law_most","_law_found","_law_begin","_law_height"] D λU=>⟨_,(Jb (Uo (i:=3) (ndB rfl) rfl (dY rfl) (JU Ja)) (Jb (QQ cF rfl (Ut (Jd Lr U (dbv 0 (dbv 1 (dbv 2 Ja))))) (JF rfl (Jj (dgv 4 (ndB rfl)) (Jj (dgv 5 (ndB rfl)) JD))) (Jc (Jo (JH (dl (Jw (Uv rfl) Uq T.all UF (Jk (dl (Jr (dnc ["_law_one"] [4,5] (zqp (Y3 3)) (λ_ _ _ _=>(dgv 0 (ndB rfl))) (λ_ _ _ _=>(zru (J3 Qj Qh (dl (JR (dlv 1) (dl (JO dli (dlv 2))))) (dl (Je (dlv 0) dli)) (Jg _)) (QJ (J3 Qj Qh (dl (JR (dl (Je (dlv 0) dli)) (dl (JO dli (dl (Je (dlv 0) dli)))))) (dlv 1) (Jg _)))))))) Jn Qr)))) (Jc (QD 3 (Jp (dbv 4 (dbv 5 Ja))))) Jq))) (Uh 3 (Jc (Jf (QH UI Uy T.tup Qn (Jk (dl (Jr (zfN U T.srt (dlv 3) Jv))) Jn U1))))))),?_⟩;rintro ts n R hl @⟨bits,most,n,R,b0,b1,m0,m1,hn,hh⟩;wp_walk using zcE.c ?_ ?_ ?_ ?_ ?_ (λbs m B hlen hm=>?_);lia;lia;lia;lia;lia;refine UZ (λk J I=>I=m/\∃cs:List (Int×Int),∃N L,J=[ao (.val HAND),ao (.val (bu bits)),ao (.val (bu most)),ao (.own (pD cs)),N,L]/\Bks bits cs/\(cs.Pairwise λa b=>eB a<=b.1\/eB b<=a.1)/\fo cs<=k) ⟨rfl,[],_,_,rfl,(λb hb=>nomatch hb),mO,aC _⟩ ?_ ?_
 ·rintro k t J I K et ⟨rfl,cs,N,L,rfl,C,u,hk⟩ hK;obtain⟨i,h,Y,rfl⟩:=YV et;have hb:=B _ (aQ Y);have h0:0<=h:=hb.1;have h1:h<=bits:=hb.2.1;have hk3:k<64:=by
   have:=(aq.mp Y).1;lia
  wp_walk;refine Qt (D:=prD) (λb=>dQ (decide (i+2 ^ ap h<=b.1)||decide (eB b<=i))) (by lia) ?_ ?_
  ·rintro⟨S,h'⟩ x K2 X2 hK2;have G:=C _ x;have h0':0<=h':=G.1;have h1':h'<=bits:=G.2.1;wp_walk;exact cpow (by lia) (by lia);have hc:i+2 ^ ap h<=S:=by rw[Qy]at hc;exact hc
   rw[decide_eq_true hc]at hK2;exact hK2;exact cpow (by lia) (by lia);have hc:¬i+2 ^ ap h<=S:=by rw[Qy]at hc;exact hc
   rw[decide_eq_false hc]at hK2;rw[Qy];exact hK2
  ·wp_walk using Uk ?_;rw[JA];lia;have al:∀b∈cs,i+2 ^ ap h<=b.1\/eB b<=i:=λb hb=>by
    have:=bM.mp hc b hb;simpa using this
   refine hK _ _ ⟨rfl,cs++[(i,h)],_,_,by rw[<- UV],C.app hb,?_,by simp;lia⟩;rw[bP];refine⟨u,cU _ _,λa ha b x=>?_⟩;cases av.mp x;rcases al a ha with z|z;exact sr z;exact dY z;exact hK _ _ ⟨rfl,cs,_,_,rfl,C,u,by lia⟩
 ·rintro J I ⟨rfl,cs,N,L,rfl,C,u,hk⟩;rw[JA]at hk;wp_walk;refine zvC b1 C u (by lia) λes P pm=>?_;wp_walk;exact hh es _ P (by have:=pm.length_eq;lia) (by lia)
def nmL(l:List Nat)(k c:Nat):Str:=⟨bm (l.take k++[c]++l.drop k)⟩
theorem zvb{u:List Nat}{k c:Nat}(C:fo u<=7)(v:∀x∈u,97<=x/\x<=122)(hc:97<=c/\c<=122):IsNm (nmL u k c):=by
 have e:(nmL u k c).cps.toList=u.take k++[c]++u.drop k:=rfl;have l:nN (nmL u k c)=fo u+1:=by rw[<- QC,e];simp;lia
 refine⟨by lia,by lia,λx hx=>?_⟩;rw[e]at hx;simp only[au,av]at hx;rcases hx with(hx|rfl)|hx;exact v x (dI hx);exact hc;exact v x (gv hx)
theorem zsw{l:List Nat}{k c d:Nat}(h:nmL l k c=nmL l k d):c=d:=by have e:l.take k++[c]++l.drop k=l.take k++[d]++l.drop k:=congrArg (λs:Str=>nK s.cps) h;rw[aM,aM]at e;have:=List.append_cancel_left e;simpa using this
theorem zoh{step:Int}(h:step=1\/step=3\/step=5\/step=7\/step=9\/step=11){first i j:Int}(l:0<=i)(i1:i<26)(o:0<=j)(j1:j<26)(e:(first+step*i) % 26=(first+step*j) % 26):i=j:=by rcases h with rfl|rfl|rfl|rfl|rfl|rfl <;> lia
inductive zc2:qD->Nat->qN->Prop
 | c {many:Int} {n:Nat} {R:qN} (m0:0<=many) (m1:many<=26) (hn:n<=1000000000000 - 1000) (h:∀nms:List Str,fo nms=ap many->(∀s∈nms,IsNm s)->nms.Nodup->R (sJ (nms.map cH)) (n+5)):zc2 [HAND,bu many] n R
def zeN(Z:ZZ):Prop:=QF Z "_law_names" 72 ["_law_hand_here","_law_many"] 3 2 zc2
theorem zhj(D:DQ Z "_law_names" 72 ["_law_hand_here","_law_many"]) (J:U5 Z) (Y:Ym Z) (T:Txt Z.mg):zeN Z:=by
 refine' okN ["_law_hand_here","_law_many","_law_letters","_law_first","_law_step","_law_stem","_law_at"] D λG=>⟨_,(Jb (dsv 2 (ndB rfl) JM) (Jb (QK (Jp (dbc (Jd J G (dbv 0 (dbc Ji Ja))) (dbc (Jd Y G (dbv 0 (dbc (Jr (JU (dbc Ji (dbc Ji (dbc Ji (dbc Ji (dbc Ji (dbc Ji Ja)))))))) Ja))) Ja))) (JF rfl (Jj (dgv 3 (ndB rfl)) (Jj (dgv 4 (ndB rfl)) JD)))) (Jb (dsv 5 (ndB rfl) (ztm (dl (Je (dlv 2) (dl (Jd J G (dbv 0 (dbc Ji Ja)))))) (dl (Jd Y G (dbv 0 (dbc (Jr (JU (dbc Ji (dbc Ji (dbc Ji (dbc Ji (dbc Ji Ja))))))) Ja)))))) (Jb (dsv 6 (ndB rfl) (Jd J G (dbv 0 (dbc (JR (dl (Jw Qw Qv T.len Qs (Jk (dlv 5) Jn Jv))) dli) Ja)))) (Jc (Jf (Jr (dnc ["_law_k"] [5,2,6,3,4] (dil (WV T.ran (Jh 1))) (λ_ _ _ _=>(dgv 0 (ndB rfl))) (λ_ _ _ _=>(JR (dl (JR (dl (WU (dlv 1) Zn (Ze (Jh 3)))) (dl (Je (dlv 2) (dl (Wb (dl (JR (dlv 4) (dl (Z1 (dlv 5) (dlv 0))))) dli)))))) (dl (WU (dlv 1) (Ze (Jh 3)) Zn)))))))))))),?_⟩;intro ts n R hl h;obtain @⟨many,n,R,m0,m1,hn,h⟩:=h;wp_walk using Um ?_ ?_ ?_ (λr r0 r1=>?_),VF ?_ ?_ ?_ (λx hx=>?_);all_goals first|lia|exact cpow (by lia) (by lia)|(simp;done)|skip
 rename_i first f0 f1
 revert r r0 r1;intro l l0 l1;obtain⟨step,rfl,v⟩:∃s:Int,x=bu s/\(s=1\/s=3\/s=5\/s=7\/s=9\/s=11):=by simp only[ay,aS,or_false]at hx;rcases hx with rfl|rfl|rfl|rfl|rfl|rfl <;> exact⟨_,rfl,by simp⟩
 refine zvL (k:=ap l) (by decide) (by lia) (letters (by lia)) ?_;wp_walk using VF ?_ ?_ ?_ (λy hy=>?_);all_goals first|lia|exact cpow (by lia) (by lia)|(simp;done)|skip
 obtain⟨m,rfl,mm0,mm7⟩:∃m:Int,y=bu m/\0<=m/\m<=7:=by simp only[ay,aS,or_false]at hy;rcases hy with rfl|rfl|rfl|rfl|rfl <;> exact⟨_,rfl,by decide,by decide⟩
 have C:(repS (⟨#[97+ap l]⟩:Str) m).cps.toList=cG (ap m) (97+ap l):=by
  rw[zpk];show(cG (ap m) [97+ap l]).flatten=_;generalize ap m=k;induction k with
  | zero=>rfl
  | succ k ih=>rw[cJ,mT,ih,cJ];rfl
 have u:nN (repS (⟨#[97+ap l]⟩:Str) m)=ap m:=by rw[<- QC,C,kD]
 wp_walk using Um ?_ ?_ ?_ (λa a0 a1=>?_);lia;lia;show 1<=100;decide;rw[u];lia;rw[u];lia;rw[u];lia;lia;lia;lia;rw[u]at a1;generalize repS (⟨#[97+ap l]⟩:Str) m=Lb at C u;have U:∀x∈nK Lb.cps,97<=x/\x<=122:=λx hx=>by rw[C]at hx;have:=List.eq_of_mem_replicate hx;lia
 refine Qt (cs:=dw (ap many)) (D:=λ(i:Nat)=>bu (0+(i:Int))) (λi=>cH (nmL (nK Lb.cps) (ap a) (97+ap ((first+step*(i:Int)) % 26)))) (by simp;lia) ?_ ?_
 ·intro i hi K2 X2 S;have hi:=hY.mp hi;have q0:0<=(first+step*(0+(i:Int))) % 26:=gj _ (by decide);have q1:(first+step*(0+(i:Int))) % 26<26:=fW _ (by decide);wp_walk using zvL (k:=ap ((first+step*(0+(i:Int))) % 26)) (by decide) (by lia) (letters (by lia)) ?_;all_goals first
   | lia
   | exact dY ⟨by lia,by lia⟩
   | skip
  have l3:nN (cutS Lb bj (ao a))<=7:=by rw[<- QC,zfR (k:=ap a) (by lia)];have:=QC Lb;simp;lia
  show(cutS Lb bj (ao a)).length+1<=16777216;lia;have l3:nN (cutS Lb bj (ao a))<=7:=by rw[<- QC,zfR (k:=ap a) (by lia)];have:=QC Lb;simp;lia
  have l4:nN (cutS Lb (ao a) bj)<=7:=by rw[<- QC,zi5 (k:=ap a) (by lia) (by lia),dN];have:=QC Lb;lia
  rw[<- QC,zj5,aO,QC];show _+1+_<=_;lia;have e:(cutS Lb bj (ao a)++(⟨#[97+ap ((first+step*(0+(i:Int))) % 26)]⟩:Str)++cutS Lb (ao a) bj)=nmL (nK Lb.cps) (ap a) (97+ap ((first+step*(i:Int)) % 26)):=by apply L2.Str.ext';rw[zj5,zj5,zfR (k:=ap a) (by lia),zi5 (k:=ap a) (by lia) (by lia),wL];rfl
  rw[e];exact S
 have e:((dw (ap many)).map λ(i:Nat)=>cH (nmL (nK Lb.cps) (ap a) (97+ap ((first+step*(i:Int)) % 26))))=((dw (ap many)).map λ(i:Nat)=>nmL (nK Lb.cps) (ap a) (97+ap ((first+step*(i:Int)) % 26))).map cH:=by rw[bS];rfl
 rw[e];have I:∀i:Nat,0<=(first+step*(i:Int)) % 26/\(first+step*(i:Int)) % 26<26:=λi=>⟨gj _ (by decide),fW _ (by decide)⟩;refine h _ (by simp) (λs hs=>?_) ?_;obtain⟨i,hi,rfl⟩:=aA.mp hs;have:=I i;have:=QC Lb;exact zvb (by lia) U (by lia);rw[List.Nodup,dE];refine iG ?_ (List.nodup_range (n:=ap many));intro i j hi hj ne e;have hi:=hY.mp hi;have hj:=hY.mp hj;have e':=zsw e;have:=I i;have:=I j;have:=zoh v (first:=first) (i:=i) (j:=j) (by lia) (by lia) (by lia) (by lia) (by lia);exact ne (by lia)
def zfK:GD:=λts n R=>∃(bits most:Int) (o:List Str),ts=[HAND,bu bits,sJ (nD o),bu most]/\1<=bits/\bits<=64/\0<=most/\most<64/\o≠[]/\fo o<=1000/\(∀s∈o,IsNm s)/\n<=1000000000000 - 200000 /\
 ∀(d:Deal) (m:Nat),Dl d->d.1=bits->fo d.2.1<=ap most->fo d.2.2<=ap most->(∀p∈d.2.1++d.2.2,p.2∈o)->m<=n+10000->R (dlD d) m
theorem zfV{bits most:Int}{o:List Str}{n:Nat}{R:qN}(C:1<=bits)(x:bits<=64)(m0:0<=most)(m1:most<64)(ne:o≠[])(l:fo o<=1000)(u:∀s∈o,IsNm s)(v:n<=1000000000000 - 200000)
 (h:∀(d:Deal) (m:Nat),Dl d->d.1=bits->fo d.2.1<=ap most->fo d.2.2<=ap most->(∀p∈d.2.1++d.2.2,p.2∈o)->m<=n+10000->R (dlD d) m):zfK [HAND,bu bits,sJ (nD o),bu most] n R:=⟨bits,most,o,rfl,C,x,m0,m1,ne,l,u,v,h⟩
def zfm(Z:ZZ):Prop:=QF Z "_law_deal" 73 ["_law_hand_here","_law_bits_here","_law_names_here","_law_most"] 7 4 zfK
theorem ziw(D:DQ Z "_law_deal" 73 ["_law_hand_here","_law_bits_here","_law_names_here","_law_most"]) (Lj:zeM Z) (K0:Ym Z) (KZ:U5 Z) (T:Txt Z.mg):zfm Z:=by
 refine' okN ["_law_hand_here","_law_bits_here","_law_names_here","_law_most","_law_outs","_law_kept","_law_block_here","_law_name","_law_size","_law_there"] D λN=>⟨_,(Jb (Zf (Yi (i:=4) (ndB rfl) rfl (dY rfl) (own:=["_law_block_here"]) (capt:=[0,2]) rfl (JB.of rfl) (dil (JP (Jd Lj N (dbv 0 (dbv 1 (dbv 3 Ja)))))) (λ_ _ _ _=>(dgv 0 (ndB rfl))) (by decide) (λ_ _ _ _=>U3) (λ_ _ _ _=>(Jp (dbv 0 (dbc (Jd K0 N (dbv 1 (dbv 2 Ja))) Ja)))))) (Jb (Uo (i:=5) (ndB rfl) rfl (dY rfl) (JU Ja)) (Jb (QQ cF rfl (JP (Jd Lj N (dbv 0 (dbv 1 (dbv 3 Ja))))) (dgv 6 (ndB rfl)) (Jb (dsv 7 (ndB rfl) (Jd K0 N (dbv 0 (dbv 2 Ja)))) (Jb (dsv 8 (ndB rfl) (JO dli (dl (Je (dlv 6) dli)))) (Jb (Zf (Yi (i:=9) (ndB rfl) rfl (dY rfl) (own:=["_law_one"]) (capt:=[8,6]) rfl (JB.of rfl) (dil (Ut (Jh 4))) (λ_ _ _ _=>(dgv 0 (ndB rfl))) (by decide) (λ_ _ _ _=>(Uu (JK (Q3 (Jl (Qk N) Qi (dl (Je (dl (Je (dlv 0) dli)) dli)) (dl (JR (dl (Je (dlv 2) dli)) (dlv 1))) (Jg _)) (Q4 (Jl (Qk N) Qi (dl (Je (dlv 2) dli)) (dl (JR (dl (Je (dl (Je (dlv 0) dli)) dli)) (dl (JO dli (dl (Je (dl (Je (dlv 0) dli)) dli)))))) (Jg _))))))) (λ_ _ _ _=>(Jh 0)))) (Jb (Jo (JK (J9 (Jl (Qc N) Qa (dlv 9) (dl (Jr (JU Ja))) (Jg _)) (Qp (Jl (Qc N) Qa (dl (Jd KZ N (dbv 0 (dbc Ji Ja)))) dli (Jg _))))) (Jc (dsv 7 (ndB rfl) (Je (dl (Jr (zn3 (dl (Jr (dnc ["_law_one"] [] (dil (Ut (Jh 9))) (λ_ _ _ _=>(dgv 0 (ndB rfl))) (λ_ _ _ _=>(Je (dlv 0) dli))))) (dl (Jr (JU (dbv 7 Ja))))))) dli))) Jq) (Jc (Jo (Jl (Qc N) Qa (dl (Jr (dnf ["_law_one"] [7] (dil (Ut (Jh 9))) (λ_ _ _ _=>(dgv 0 (ndB rfl))) (λ_ _ _ _=>(Uu (Jl (QB N) QA (dl (Je (dlv 0) dli)) (dlv 1) (Jg _)))) (λ_ _ _ _=>(Jh 0))))) (dl (Jr (JU Ja))) (Jg _)) (Jc (QD 5 (Jp (dbv 6 (dbv 7 Ja))))) Jq))))))) (Uh 5 (Jc (Jf (Jp (dbv 1 (dbc (QH UI Uy T.tup Qn (Jk (dlv 4) Jn Jv)) (dbc (QH UI Uy T.tup Qn (Jk (dlv 5) Jn Jv)) Ja)))))))))),?_⟩;intro ts n R hl h;obtain⟨bits,most,I,rfl,b0,b1,m0,m1,ne,l,hm,hn,h⟩:=h;have pick:∀{n:Nat} {Q:qN},n<=1000000000000->(∀s∈I,Q (cH s) (n+1))->VI [HAND,sJ (nD I)] n Q:=λ{n Q} hn J=>VF (by intro z;cases I with|nil=>exact ne rfl|cons a b=>cases z) (by simp[nD];lia) hn λx hx=>by obtain⟨s,hs,rfl⟩:=aA.mp hx;exact J s hs
 wp_walk using W1.c b0 b1 m0 m1 ?_ (λbs m P hlen hm1=>?_);lia;refine Z0 (λj acc Y=>Y=m+j/\∃os:List ((Int×Int)×Str),acc=oD os/\os.map (·.1)=bs.take j/\∀p∈os,p.2∈I) ⟨rfl,[],rfl,by simp,λp C=>nomatch C⟩ ?_ ?_
 ·rintro j x acc Y K ej ⟨rfl,os,rfl,e1,e2⟩ hK;obtain⟨i,g,eb,rfl⟩:=YV ej;have jl:=(aq.mp eb).1;have lo:fo os=j:=by
   have:=congrArg fo e1;simp at this;lia
  wp_walk using pick ?_ (λs hs=>?_);lia;rw[UU];lia;refine hK _ _ ⟨by lia,os++[((i,g),s)],by simp[oD],?_,?_⟩;rw[dM,e1,dW,eb];rfl;intro p C;rcases au.mp C with z|z;exact e2 p z;cases av.mp z;exact hs
 ·rintro acc Y ⟨rfl,os,rfl,e1,e2⟩;rw[JA,ff]at e1;wp_walk using W1.c b0 b1 m0 m1 ?_ (λcs m2 P2 hlen2 hm2=>?_);rw[JA];lia;rw[JA]at hm2;have lo:fo os=fo bs:=by rw[<- aG (f:=(·.1)),e1]
  have Bo:∀p∈os,IsBk bits p.1.1 p.1.2:=λp C=>P.1 _ (by rw[<- e1];exact aA.mpr ⟨p,C,rfl⟩);refine zwx 5 6 7 8 9 (λk a5 _ _ _ _ Y=>Y<=m2+2*k/\∃L:List ((Int×Int)×Str),a5=ao (.own (oD L))/\(L.map (·.1)).Sublist (cs.take k)/\(∀q∈L,q.2∈I)/\Agr os L) ⟨by lia,[],rfl,by simp,λq J=>(nomatch J),λp C q J=>(nomatch J)⟩ ?_ ?_
  ·rintro k t a5 a6 a7 a8 a9 Y K RT BK et ⟨hm',L,rfl,sb,kn,ag⟩ hK hRT hBK;obtain⟨i,g,eb,rfl⟩:=YV et;have kl:=(aq.mp eb).1;have Bb:=P2.1 _ (aQ eb);have g0:0<=g:=Bb.1;have g1:g<=bits:=Bb.2.1;have pg:=JE (ap g);have tk:cs.take (k+1)=cs.take k++[(i,g)]:=by rw[dW,eb];rfl
   have lks:fo L<=64:=by have:=sb.length_le;simp at this;lia
   have skip:∀(G:Nat) (b6 b7 b8 b9:Option Cell),G<=Y+2->K [ao (.val HAND),ao (.val (bu bits)),ao (.val (sJ (nD I))),ao (.val (bu most)),ao (.val (sJ (oD os))),ao (.own (oD L)),b6,b7,b8,b9] G:=λG b6 b7 b8 b9 h2 =>
    hK _ _ _ _ _ _ ⟨by lia,L,rfl,by rw[tk];exact sb.trans (List.sublist_append_left _ _),kn,ag⟩
   have put:∀(G:Nat) (b6 b7 b8 b9:Option Cell) (s:Str),G<=Y+2->s∈I->(∀p∈os,p.1.1<i+2 ^ ap g->i<p.1.1+2 ^ ap p.1.2->p.2=s)->K [ao (.val HAND),ao (.val (bu bits)),ao (.val (sJ (nD I))),ao (.val (bu most)),ao (.val (sJ (oD os))),ao (.own (oD L++[lV [lV [bu i,bu g],cH s]])),b6,b7,b8,b9] G:=λG b6 b7 b8 b9 s h2 hs al =>
    hK _ _ _ _ _ _ ⟨by lia,L++[((i,g),s)],by simp[oD],by rw[tk,dM];exact sb.append (AV _),(λq J=>by
     rcases au.mp J with z|z;exact kn q z;cases av.mp z;exact hs),λp C q J=>by
     rcases au.mp J with z|z;exact ag p C q z;cases av.mp z;by_cases y:p.1.1<i+2 ^ ap g/\i<p.1.1+2 ^ ap p.1.2;exact dY (al p C y.1 y.2);right;show eB p.1<=i\/i+2 ^ ap g<=p.1.1;unfold eB;lia⟩
   wp_walk using pick ?_ (λs hs=>?_);lia;exact cpow (by lia) (by lia);refine U4 (cs:=os) (D:=λp=>lV [prD p.1,cH p.2]) (λp=>decide (p.1.1<i+2 ^ ap g)&&decide (i<p.1.1+2 ^ ap p.1.2)) (λp=>lV [prD p.1,cH p.2]) (by lia) ?_ ?_
   ·intro p C K2 X2 U hX2;have Bp:=Bo p C;have p0:=Bp.1;have p1:=Bp.2.1;wp_walk;exact cpow (by lia) (by lia);all_goals simp only[Qy]at *
    rename_i y;exact U (by rw[decide_eq_true y,decide_eq_true hc];rfl);exact hX2 (by rw[decide_eq_false hc,ko]);exact hX2 (by rw[decide_eq_false hc,cz])
   ·rw[show((os.filter λp=>decide (p.1.1<i+2 ^ ap g)&&decide (i<p.1.1+2 ^ ap p.1.2)).map λp=>lV [prD p.1,cH p.2])=oD (os.filter λp=>decide (p.1.1<i+2 ^ ap g)&&decide (i<p.1.1+2 ^ ap p.1.2)) from rfl];generalize ets:(os.filter λp=>decide (p.1.1<i+2 ^ ap g)&&decide (i<p.1.1+2 ^ ap p.1.2))=us;have MA:∀p∈us,p∈os:=λp C=>by rw[<- ets]at C;exact(cT.mp C).1
    have uin:∀p∈os,p.1.1<i+2 ^ ap g->i<p.1.1+2 ^ ap p.1.2->p∈us:=λp C y z=>by rw[<- ets];exact cT.mpr ⟨C,by rw[decide_eq_true y,decide_eq_true z];rfl⟩
    have lus:fo us<=64:=by have:=g7 (λp:(Int×Int)×Str=>decide (p.1.1<i+2 ^ ap g)&&decide (i<p.1.1+2 ^ ap p.1.2)) os;rw[ets]at this;lia
    have ok3:∀vs:List ((Int×Int)×Str),(∀p∈vs,p∈os)->Okd (sJ (oD vs)):=λvs hv=>(zsn (k:=2) λt ht=>by obtain⟨p,C,rfl⟩:=aA.mp ht;refine znb λu hu=>?_;simp only[ay,aS,or_false]at hu;rcases hu with rfl|rfl;exact zu8;exact(zsu (hm _ (e2 _ (hv p C)))).mono (by decide)).okd;have tail:∀(G:Nat) (s':Str) (b8:Option Cell),G<=Y+2->s'∈I ->
      sIf (Ui (dOp oEq (dNew (dComp [aa "_law_one"].length [7] (dItL (dVar 9)) (Qe 0) (Ui (dOp oNe (dOp oIx (dVar 0) (dC (bu 1))) (dVar 1))) (dVar 0))) (dNew dNil))) (Zj 5 (dTup (JZ (dVar 6) (JZ (dVar 7) dNil)))) VV { nx:=K,rt:=RT,bk:=BK,ct:=K }
       [ao (.val HAND),ao (.val (bu bits)),ao (.val (sJ (nD I))),ao (.val (bu most)),ao (.val (sJ (oD os))),ao (.own (oD L)),ao (.val (lV [bu i,bu g])),ao (.val (cH s')),b8,ao (.val (sJ (oD us)))] G:=by
     intro G s' b8 hm'' hs';wp_walk;refine U4 (cs:=us) (D:=λp=>lV [prD p.1,cH p.2]) (λp=>!decide (p.2=s')) (λp=>lV [prD p.1,cH p.2]) (by lia) ?_ ?_
     ·intro p C K2 X2 U hX2;wp_walk;exact hX2 (by rw[decide_eq_true hc];rfl);exact U (by rw[decide_eq_false hc];rfl)
     ·wp_walk;exact ok3 _ λp C=>MA p (cT.mp C).1;exact zjq;rw[UU];lia;rw[zqg]at hc;refine put _ _ _ _ _ s' hm'' hs' λp C y z=>?_;by_cases w:p.2=s';exact w;exfalso;have:p∈us.filter λp=>!decide (p.2=s'):=cT.mpr ⟨uin p C y z,by rw[decide_eq_false w];rfl⟩;have e0:us.filter (λp=>!decide (p.2=s'))=[]:=by simpa using hc
      rw[e0]at this;cases this;exact skip _ _ _ _ _ hm''
    have nm:∀{Q:af->Prop},(∀s'∈I,Q (cH s'))->oIx (sJ ((us.map λp=>cH p.2)++[cH s])) (bu 0) Q:=λ{Q} J=>by
     cases us with
     | nil=>exact Wh (J s hs)
     | cons u v=>exact Wh (J u.2 (e2 u (MA u (by simp))))
    wp_walk using Um ?_ ?_ ?_ (λr r0 r1=>?_),tail _ _ _ ?_ ?_;all_goals first
     | exact ok3 _ MA
     | exact zjq
     | exact hs
     | lia
     | skip
    all_goals
     refine Qt (cs:=us) (D:=λp=>lV [prD p.1,cH p.2]) (λp=>cH p.2) (by lia) ?_ ?_
     ·intro p C K2 X2 U;wp_walk;exact U
     ·wp_walk using nm (λs' hs'=>?_),tail _ _ _ ?_ ?_;simp;lia;lia;exact hs'
  ·rintro a5 a6 a7 a8 a9 Y ⟨hm',L,rfl,sb,kn,ag⟩;rw[JA,ff]at sb;wp_walk;refine h (bits,os,L) _ ⟨b0,b1,⟨by rw[e1];exact P,λp C=>hm _ (e2 p C)⟩,⟨⟨λb hb=>P2.1 b (sb.subset hb),P2.2.sublist sb⟩,λq J=>hm _ (kn q J)⟩,ag⟩ rfl (by show fo os<=_;lia) ?_ ?_ ?_;have:=sb.length_le;rw[aG]at this;show fo L<=_;lia;intro p C;rcases au.mp C with z|z;exact e2 p z;exact kn p z;rw[JA]at hm';lia
theorem V3{a b:Int}{c:Prop}[Decidable c]{R:af->Prop}(h:∀z:Int,z=a\/z=b->R (bu z)):oIx (sJ [bu a,bu b]) (bu (if decide c=du then 1 else 0)) R:=by by_cases hc:c;rw[if_pos (decide_eq_true hc)];exact zrc (h b (sr rfl));rw[if_neg (by simp[hc])];exact Wh (h a (dY rfl))
inductive zdz:qD->Nat->qN->Prop
 | c {kk:Int} {n:Nat} {R:qN} (k0:0<=kk) (hn:n<=1000000000000 - 400000) (h:∀(d:Deal) (nms:List Str) (m:Nat),Dl d->nms≠[]->fo nms<=4->(∀s∈nms,IsNm s)->fo d.2.1<=20->fo d.2.2<=20->m<=n+20000->R (lV [dlD d,sJ (nD nms)]) m):zdz [HAND,bu kk] n R
def zfn(Z:ZZ):Prop:=QF Z "_law_case" 74 ["_law_hand_here","_law_k"] 8 2 zdz
theorem zix(D:DQ Z "_law_case" 74 ["_law_hand_here","_law_k"]) (Lx:zeN Z) (U:zfo Z) (J:U5 Z) (L:zfm Z) (T:Txt Z.mg):zfn Z:=by
 refine' okN ["_law_hand_here","_law_k","_law_bits_here","_law_names_here","_law_most"] D λu=>⟨_,(Jb (dsv 2 (ndB rfl) (Jw (VC rfl) ZU T.min Yh (Jk (dl (Jd U u (dbv 0 Ja))) (Jk (dl (Je (dl (Jr (JU (dbc Ji (dbc Ji Ja))))) (dl (QH VA We T.int boot_int (Jk (dl (J3 QO gp_B (dlv 1) dli (Jg _))) Jn V9))))) Jn Uc) U1))) (Jb (dsv 3 (ndB rfl) (Jd Lx u (dbv 0 (dbc (JR dli (dl (Jd J u (dbv 0 (dbc Ji Ja))))) Ja)))) (Jb (dsv 4 (ndB rfl) (Je (dl (Jr (JU (dbc Ji (dbc Ji (dbc Ji (dbc Ji (dbc Ji (dbc Ji (dbc Ji (dbc Ji Ja))))))))))) (dl (Jd J u (dbv 0 (dbc Ji Ja)))))) (Jb (dsv 4 (ndB rfl) (Jw (zov rfl) zs5 T.min Yh (Jk (dlv 4) (Jk (dl (Je (dl (Jr (JU (dbc Ji (dbc Ji Ja))))) (dl (QH VA We T.int boot_int (Jk (dl (J3 QO gp_B (dlv 1) dli (Jg _))) Jn V9))))) (Jk (dl (Je (dl (Jr (JU (dbc Ji (dbc Ji Ja))))) (dl (QH VA We T.int boot_int (Jk (dl (J3 QO gp_B (dlv 2) dli (Jg _))) Jn V9))))) Jn Uc) Uc) Jv))) (Jc (Jf (Jp (dbc (Jd L u (dbv 0 (dbv 2 (dbc (zwI (Jr (zkS (dlv 3) Zn (Ze (Yc Ji)))) (QJ (Jh 3))) (dbv 4 Ja))))) (dbv 3 Ja))))))))),?_⟩;intro ts n R hl h;obtain @⟨kk,n,R,k0,hn,h⟩:=h;have S:∀x∈[bu 5,bu 5,bu 5,bu 5,bu 5,bu 5,bu 5,bu 20],∃most:Int,x=bu most/\0<=most/\most<=20:=λx hx=>by simp only[ay,aS,or_false]at hx;rcases hx with rfl|rfl|rfl|rfl|rfl|rfl|rfl|rfl <;> exact⟨_,rfl,by decide,by decide⟩
 wp_walk using zj2 ?_ (λbits b0 b1=>?_),Um ?_ ?_ ?_ (λr r0 r1=>?_),zc2.c ?_ ?_ ?_ (λl nl v nd=>?_),V3 (λz hz=>?_);all_goals first|lia|exact cpow (by lia) (by lia)|(simp;done)|skip
 all_goals
  refine zvM (by lia) (by simp;lia) λx hx=>?_;obtain⟨most,rfl,m0,m1⟩:=S x hx;wp_walk using V3 (λy hy=>?_)
 all_goals
  rename_i C Y;have ne:l≠[]:=λz=>by rw[z]at nl;simp at nl;lia
  have I:0<=min3 most C y/\min3 most C y<=20:=by unfold min3;lia
  have o:1<=(if z<bits then z else bits)/\(if z<bits then z else bits)<=64:=by lia
  generalize min3 most C y=mo at I ⊢;generalize (if z<bits then z else bits)=bt at o ⊢
 ·refine zfV o.1 o.2 I.1 (by lia) ne (by lia) v (by lia) λd m D e N l2 pn hm=>?_;wp_walk;exact h d l m D ne (by lia) v (by lia) (by lia) (by lia)
 ·have e0:cutD (oG cH l) bj (ao (-1))=nD (l.take (fo l - 1)):=by
   rw[zqw,aG,<- List.map_take];rfl
  rw[e0]at hc ⊢;have sb:∀s∈l.take (fo l - 1),s∈l:=λs G=>dI G;refine zfV o.1 o.2 I.1 (by lia) (λz=>by rw[z]at hc;cases hc) (by simp;lia) (λs G=>v s (sb s G)) (by lia) λd m D e N l2 pn hm=>?_;wp_walk;exact h d l m D ne (by lia) v (by lia) (by lia) (by lia)
inductive zdy:qD->Nat->qN->Prop
 | c {d:Deal} {nm:af} {n:Nat} {R:qN} (D:Dl d) (hw:QX nm) (l:fo d.2.1+fo d.2.2<64) (h:∀gs,NR gs->(∀x,mR x gs↔Free d nm x)->fo gs<=100->R (sJ (pD gs)) n):zdy [dlD d,nm] n R
def zfl(Z:ZZ):Prop:=QF Z "_law_gaps" 75 ["_law_deal_here","_law_name"] 1 2 zdy
theorem ziv(D:DQ Z "_law_gaps" 75 ["_law_deal_here","_law_name"]) (T:Txt Z.mg):zfl Z:=by
 refine' okN ["_law_deal_here","_law_name","_law_taken","_law_found","_law_low","_law_begin","_law_height"] D λC=>⟨_,(Jb (dsv 2 (ndB rfl) (Jr (zfN C T.srt (dl (Jr (zn3 (dl (Jr (dnc ["_law_block_here","_law_owner"] [] (dil (JP (Je (dlv 0) dli))) (λ_ _ _ _=>(JF rfl (Jj (dgv 0 (ndB rfl)) (Jj (dgv 1 (ndB rfl)) JD)))) (λ_ _ _ _=>(Jh 0))))) (dl (Jr (dnf ["_law_block_here","_law_owner"] [1] (dil (JP (Je (dlv 0) dli))) (λ_ _ _ _=>(JF rfl (Jj (dgv 0 (ndB rfl)) (Jj (dgv 1 (ndB rfl)) JD)))) (λ_ _ _ _=>(Uu (Jl (QB C) QA (dlv 1) (dlv 2) (Jg _)))) (λ_ _ _ _=>(Jh 0)))))))) Z3))) (Jb (ztg (i:=3) (j:=4) rfl (ndB rfl) rfl rfl (by decide) rfl rfl (JU Ja) Ji) (Jb (QQ cF rfl (Ut (Jh 2)) (JF rfl (Jj (dgv 5 (ndB rfl)) (Jj (dgv 6 (ndB rfl)) JD))) (Jb (Jo (Jl QO gp_B (dlv 5) (dlv 4) (Jg _)) (Jc (QD 3 (Jp (dbv 4 (dbv 5 Ja))))) Jq) (Jc (dsv 4 (ndB rfl) (Jw (VB rfl) ZS T.max Vy (Jk (dlv 4) (Jk (dl (JR (dlv 5) (dl (JO dli (dlv 6))))) Jn Z3) Jv)))))) (Jb (Jo (Jl (Qk C) Qi (dlv 4) (dl (JO dli (dl (Je (dlv 0) dli)))) (Jg _)) (Jc (QD 3 (Jp (dbv 4 (dbc (JO dli (dl (Je (dlv 0) dli))) Ja))))) Jq) (Uh 3 (Jc (Jf (Jh 3)))))))),?_⟩;intro ts n R hl h;obtain @⟨d,nm,n,R,D,hw,l,h⟩:=h;obtain⟨bits,os,I⟩:=d;obtain⟨b0,b1,S1,S2,ag⟩:=D;have b0:1<=bits:=b0;have b1:bits<=64:=b1;have S1:Shr bits os:=S1;have S2:Shr bits I:=S2;have l:fo os+fo I<64:=l;have hn:∀p∈I,IsNm p.2:=S2.2;have lk:=Vw (d:=(bits,os,I)) (nm:=nm);have lk:fo (Jt (bits,os,I) nm)<=fo I:=lk;rw[show dlD (bits,os,I)=lV [bu bits,lV (oD os),lV (oD I)] from rfl];have B:Bks bits (os.map (·.1)++Jt (bits,os,I) nm):=λb hb=>by rcases au.mp hb with z|z;exact S1.1.1 b z;exact S2.1.1 b (Vx b z)
 have top:=JE (ap bits);wp_walk;refine Qt (cs:=os) (D:=λp=>lV [prD p.1,cH p.2]) (λp=>prD p.1) (by lia) ?_ ?_
 ·intro p hp K2 X2 N;wp_walk;exact N
 wp_walk;refine U4 (cs:=I) (D:=λp=>lV [prD p.1,cH p.2]) (λp=>!who p.2 nm) (λp=>prD p.1) (by lia) ?_ ?_
 ·intro p hp K2 X2 N hX2;rcases hw with rfl|⟨s,rfl,ns⟩
  ·wp_walk;exact(zsu (hn p hp)).okd;exact N rfl
  ·wp_walk;exact hX2 (by show(!decide (p.2=s))=dy;rw[decide_eq_true hc];rfl);exact N (by show(!decide (p.2=s))=du;rw[decide_eq_false hc];rfl)
 have e1:(os.map λp=>prD p.1)=pD (os.map (·.1)):=by unfold pD;rw[bS];rfl
 have e2:((I.filter λp=>!who p.2 nm).map λp=>prD p.1)=pD (Jt (bits,os,I) nm):=by unfold pD Jt;rw[bS];rfl
 rw[e1,e2];wp_walk;rw[JA,JA,aG];lia;rw[ZO];have ll:fo (os.map (·.1)++Jt (bits,os,I) nm)<64:=by rw[aO,aG];lia
 have fr:∀x,Free (bits,os,I) nm x↔0<=x/\x<2 ^ ap bits/\¬mB x (os.map (·.1)++Jt (bits,os,I) nm):=λx=>by rw[ZW];show 0<=x/\x<2 ^ ap bits/\¬mB x (os.map (·.1))/\¬mB x (Jt (bits,os,I) nm)↔_;constructor;rintro⟨a,b,c,e⟩;exact⟨a,b,λz=>h7 z c e⟩;rintro⟨a,b,c⟩;exact⟨a,b,λz=>c (dY z),λz=>c (sr z)⟩
 generalize os.map (·.1)++Jt (bits,os,I) nm=bs at B ll fr;refine znz (dY rfl) b1 B (by lia) λcs pm pw=>?_;have Bc:Bks bits cs:=λb hb=>B b (pm.mem_iff.mp hb);have lc:=pm.length_eq;have fr:∀x,Free (bits,os,I) nm x↔0<=x/\x<2 ^ ap bits/\¬mB x cs:=λx=>by rw[fr,znj pm]
 wp_walk;rfl;refine znR 3 4 5 6 (λk a3 a4 _ _ m=>m=n/\∃(gs:qB) (G:Int),a3=ao (.own (pD gs))/\a4=ao (.val (bu G))/\NR gs/\(∀x,mR x gs↔0<=x/\x<G/\¬mB x (cs.take k))/\fo gs<=k/\0<=G/\G<=2 ^ ap bits/\(∀b∈cs.take k,eB b<=G)/\(∀g∈gs,g.2<G)/\(∀g∈gs,∀b∈cs.drop k,g.2<=b.1)) ⟨rfl,[],0,rfl,rfl,⟨(λr C=>nomatch C),mO⟩,(λx=>⟨λz=>absurd z Qq,λz=>by lia⟩),aC _,aL _,by lia,(λr C=>nomatch C),(λr C=>nomatch C),λr C=>nomatch C⟩ ?_ ?_
 ·rintro k t' a3 a4 a5 a6 m K RT BK et ⟨rfl,gs,G,rfl,rfl,U,me,lg,be0,be1,ti,gl,dr⟩ hK hRT hBK;obtain⟨i,g,eb,rfl⟩:=YV et;have kl:=(aq.mp eb).1;have Y:=Bc _ (aQ eb);have g0:0<=g:=Y.1;have g1:g<=bits:=Y.2.1;have i0:0<=i:=(Y.bounds (by lia)).1;have i1:i+2 ^ ap g<=2 ^ ap bits:=(Y.bounds (by lia)).2;have pg:=JE (ap g);have tk:cs.take (k+1)=cs.take k++[(i,g)]:=by rw[dW,eb];rfl
  have dk:cs.drop k=(i,g)::cs.drop (k+1):=by rw[bO kl];congr 1;have:=aw kl;rw[eb]at this;exact(aX this).symm
  have after:∀b∈cs.drop (k+1),i<=b.1:=λb hb=>by have:=(pw.sublist (ke k cs));rw[dk]at this;exact(cx.mp this).1 b hb
  have m1:∀x,mB x (cs.take (k+1))↔mB x (cs.take k)\/(i<=x/\x<i+2 ^ ap g):=λx=>by rw[tk,ZW,zjH];constructor;rintro(z|z|z);exact dY z;exact sr z;exact absurd z ZY;rintro(z|z);exact dY z;exact sr (dY z)
  have old:∀x,G<=x->¬mB x (cs.take k):=λx hx ⟨r,C,h1,h2⟩=>by have:=ti r C;lia
  have gb:∀x,mR x gs->x<i:=λx ⟨r,C,h1,h2⟩=>by have:r.2<=i:=dr r C (i,g) (by rw[dk];simp);lia
  have go:∀(J:qB) (c5 c6:Option Cell) (L:Int),L=max G (i+2 ^ ap g)->NR J->(∀x,mR x J↔mR x gs\/(G<=x/\x<i))->fo J<=k+1->(∀g'∈J,g'.2<L)->(∀g'∈J,g'.2<=i)->K [ao (.val (lV [bu bits,lV (oD os),lV (oD I)])),ao (.val nm),ao (.val (sJ (pD cs))),ao (.own (pD J)),ao (.val (bu L)),c5,c6] m:=λJ c5 c6 L eb' n' m' l' g' g'' =>
   hK _ _ _ _ _ ⟨rfl,J,L,rfl,rfl,n',(λx=>by
    rw[m',me,m1];have ox:=old x;have gx:=gb x;rw[me]at gx;constructor;rintro(z|⟨a,b⟩);have:=gx z;obtain⟨a,b,c⟩:=z;exact⟨a,by lia,λz=>h7 z c λz=>by lia⟩;exact⟨by lia,by lia,λz=>h7 z (ox a) λz=>by lia⟩;rintro⟨a,b,c⟩;by_cases y:x<G;exact dY ⟨a,y,λz=>c (dY z)⟩;refine sr ⟨by lia,?_⟩;by_cases u:x<i;exact u;exact absurd (sr ⟨by lia,by lia⟩) c),l',by lia,by lia,(λr C=>by
    rw[tk]at C;rcases au.mp C with z|z;have:=ti r z;lia;cases av.mp z;show i+2 ^ ap g<=_;lia),g',λr C b hb=>by
    have:=g'' r C;have:=after b hb;lia⟩
  have mx:(if i+1*2 ^ ap g > G then i+1*2 ^ ap g else G)=max G (i+2 ^ ap g):=by rw[Qy];split <;> lia
  wp_walk;rw[JA];lia;exact cpow (by lia) (by lia);rw[UV];refine go (gs++[(G,i)]) _ _ _ mx ⟨λr C=>?_,?_⟩ (λx=>?_) (by simp;lia) (λg' S=>?_) λg' S=>?_;rcases au.mp C with z|z;exact U.1 r z;cases av.mp z;exact hc;rw[bP];exact⟨U.2,cU _ _,λa ha b hb=>by cases av.mp hb;exact gl a ha⟩;rw[QZ,J7];constructor;rintro(z|z|z);exact dY z;exact sr z;exact absurd z Qq;rintro(z|z);exact dY z;exact sr (dY z);rw[mx];rcases au.mp S with z|z;have:=gl g' z;lia;cases av.mp z;show i<_;lia;rcases au.mp S with z|z;exact dr g' z (i,g) (by rw[dk];simp);cases av.mp z;exact aL _;exact cpow (by lia) (by lia);refine go gs _ _ _ mx U (λx=>⟨dY,λz=>h7 z id λz=>by lia⟩) (by lia) (λg' S=>?_) λg' S=>dr g' S (i,g) (by rw[dk];simp);have:=gl g' S;rw[mx];lia
 ·rintro a3 a4 a5 a6 m ⟨rfl,gs,G,rfl,rfl,U,me,lg,be0,be1,ti,gl,dr⟩;rw[JA]at me lg ti;rw[ff]at me ti;have old:∀x,G<=x->¬mB x cs:=λx hx ⟨r,C,h1,h2⟩=>by have:=ti r C;lia
  wp_walk;exact cpow (by lia) (by lia);exact cpow (by lia) (by lia);rw[JA];lia;rw[UV,Qy]at *;refine h (gs++[(G,2 ^ ap bits)]) ⟨λr C=>?_,?_⟩ (λx=>?_) (by simp;lia);rcases au.mp C with z|z;exact U.1 r z;cases av.mp z;exact hc;rw[bP];exact⟨U.2,cU _ _,λa ha b hb=>by cases av.mp hb;exact gl a ha⟩;rw[QZ,J7,me,fr];have ox:=old x;constructor;rintro(⟨a,b,c⟩|z|z);exact⟨a,by lia,c⟩;exact⟨by have:=z.1;lia,z.2,ox z.1⟩;exact absurd z Qq;rintro⟨a,b,c⟩;by_cases y:x<G;exact dY ⟨a,y,c⟩;exact sr (dY ⟨by show G<=x;lia,b⟩);rw[Qy]at *;refine h gs U (λx=>?_) (by lia);rw[me,fr];constructor;rintro⟨a,b,c⟩;exact⟨a,by lia,c⟩;rintro⟨a,b,c⟩;exact⟨a,by lia,c⟩
def ZG(ps:qB)(b:Int×Int):Bool:=ps.any λp=>decide (p.1<=b.1)&&decide (eB b<=eB p)
theorem WL{ps:qB}{b:Int×Int}:ZG ps b=du↔∃p∈ps,p.1<=b.1/\eB b<=eB p:=by unfold ZG;rw[iq];constructor;rintro⟨p,l,h⟩;rw[aF,decide_eq_true_eq,decide_eq_true_eq]at h;exact⟨p,l,h⟩;rintro⟨p,l,u,o⟩;exact⟨p,l,by rw[decide_eq_true u,decide_eq_true o];rfl⟩
inductive W2:qD->Nat->qN->Prop
 | c {ps:qB} {b:Int×Int} {n:Nat} {R:qN} (l:fo ps<=1000) (hp:∀p∈ps,0<=p.2/\p.2<=64) (g0:0<=b.2) (g1:b.2<=64) (h:R (dQ (ZG ps b)) n):W2 [sJ (pD ps),lV [bu b.1,bu b.2]] n R
def zfj(Z:ZZ):Prop:=QF Z "_law_held" 76 ["_law_some","_law_block_here"] 1 2 W2
theorem zit(D:DQ Z "_law_held" 76 ["_law_some","_law_block_here"]) (T:Txt Z.mg):zfj Z:=by
 refine' okN ["_law_some","_law_block_here","_law_begin","_law_end"] D λG=>⟨_,(Jb (QK (Jp (dbc (Je (dlv 1) dli) (dbc (JR (dl (Je (dlv 1) dli)) (dl (JO dli (dl (Je (dlv 1) dli))))) Ja))) (JF rfl (Jj (dgv 2 (ndB rfl)) (Jj (dgv 3 (ndB rfl)) JD)))) (Jc (Jf (Jw (zfU rfl) znN T.any zfW (Jk (dl (Jr (dnc ["_law_one"] [2,3] (dil (zn6 (Jh 0))) (λ_ _ _ _=>(dgv 0 (ndB rfl))) (λ_ _ _ _=>(Ud (J3 Qj Qh (dl (Je (dlv 0) dli)) (dlv 1) (Jg _)) (QJ (J3 Qj Qh (dlv 2) (dl (JR (dl (Je (dlv 0) dli)) (dl (JO dli (dl (Je (dlv 0) dli)))))) (Jg _)))))))) Jn Qr))))),?_⟩;intro ts n R J h;obtain @⟨ps,b,n,R,l,hp,g0,g1,h⟩:=h;wp_walk;all_goals first
  | exact cpow (by lia) (by lia)
  | skip
 refine Qt (cs:=ps) (D:=prD) (λp=>dQ (decide (p.1<=b.1)&&decide (eB b<=eB p))) (by lia) ?_ ?_
 ·intro p v K X u;obtain⟨L,I⟩:=hp p v;have C:eB b=b.1+1*2 ^ ap b.2:=by unfold eB;lia
  have x:eB p=p.1+1*2 ^ ap p.2:=by unfold eB;lia
  rw[C,x]at u;wp_walk;all_goals first
   | exact cpow (by lia) (by lia)
   | (rw[decide_eq_true hc,cD]at u;exact u)
   | (rw[decide_eq_false hc,cz]at u;exact u)
   | skip
 ·wp_walk using znG ?_;exact h
def rwB(bits:Int):af->Bool
 | lV [lV [x,y],w]=>J4 bits (lV [x,y])&&wdD w
 | _=>false
theorem zuj{bits:Int}{d:af}(h:∀x y w,d≠lV [lV [x,y],w]):rwB bits d=dy:=by unfold rwB;split;exact absurd rfl (h _ _ _);rfl
def nnI(t:af):Prop:=∃i:Int,t=bu i/\0<=i
inductive zcC:qD->Nat->qN->Prop
 | c {bits:Int} {d:af} {n:Nat} {R:qN} (b0:0<=bits) (b1:bits<=64) (p:PlnD d) (o:OkK 40 d) (h:R (dQ (rwB bits d)) n):zcC [bu bits,d] n R
def zdN(Z:ZZ):Prop:=QF Z "_law_is_row" 78 ["_law_bits_here","_law_row"] 1 2 zcC
theorem zf4(D:DQ Z "_law_is_row" 78 ["_law_bits_here","_law_row"]) (T:Txt Z.mg):zdN Z:=by
 refine' okN ["_law_bits_here","_law_row","_law_begin","_law_height","_law_one"] D λI=>⟨_,(Jb (Jo (JK (J9 (JQ (JH (dl (Qo Uz T.isi T.tup Qn (dlv 1) Jv)))) (Qp (Jl (QB I) QA (dl (Jw Qw Qv T.len Qs (Jk (dlv 1) Jn Jv))) dli (Jg _))))) (Jc (Jf JC)) Jq) (Jb (Jo (JK (J9 (JQ (JH (dl (Qo Uz T.isi T.tup Qn (dl (Je (dlv 1) dli)) Uc)))) (Qp (Jl (QB I) QA (dl (Jw Qw Qv T.len Qs (Jk (dl (Je (dlv 1) dli)) Jn Uc))) dli (Jg _))))) (Jc (Jf JC)) Jq) (Jb (QK (Je (dlv 1) dli) (JF rfl (Jj (dgv 2 (ndB rfl)) (Jj (dgv 3 (ndB rfl)) JD)))) (Jb (QQ cF rfl (JP (Jp (dbv 2 (dbv 3 Ja)))) (dgv 4 (ndB rfl)) (Jc (Jo (JK (J9 (JQ (JH (dl (Qo zrl T.isi T.int boot_int (dlv 4) Jv)))) (J9 (JH (dl (Qo znH T.isi T.boo zgT (dlv 4) Jv))) (Qp (Jl (Qk I) Qi (dlv 4) dli (Jg _)))))) (Jc (Jf JC)) Jq))) (Jb (Jo (JK (J9 (Jl QO gp_B (dlv 3) (dlv 0) (Jg _)) (J9 (Jl Yq gp_B (dlv 2) (dl (JO dli (dlv 0))) (Jg _)) (Qp (Jl QO gp_B (dl (Wb (dlv 2) (dl (JO dli (dlv 3))))) dli (Jg _)))))) (Jc (Jf JC)) Jq) (Jc (Jf (Ud (J3 (zq8 I) zwq (dl (Je (dlv 1) dli)) (dl (Jp (dbc JM (dbc JM (dbc JM Ja))))) rfl) (QJ (Qo Wf T.isi T.str WS (dl (Je (dlv 1) dli)) Uc)))))))))),?_⟩;intro ts n R hl h;obtain @⟨bits,d,n,R,b0,b1,p,o,h⟩:=h;have v:(∀x y w,d≠lV [lV [x,y],w])->R (dQ dy) n:=λz=>by rw[zuj z]at h;exact h
 cases hf:isTup d with
 | false =>wp_walk using isiF p.pln hf ?_;exact v λ_ _ _ e=>by rw[e]at hf;cases hf
 | true =>
 obtain⟨ts,rfl⟩:=zhr hf;obtain⟨l6,S⟩:=p.tup;have Y:=WC o;by_cases l2:fo ts=2
 ·obtain⟨t,w,rfl⟩:=zsB l2;have pt:=S t (by simp);have pn:=S w (by simp);have ow:=(Y w (by simp)).okd;cases hf2:isTup t with
  | false =>wp_walk using isiF pt.pln hf2 ?_;all_goals first|exact v λ_ _ _ e=>by(cases e;cases hf2)|exact absurd rfl hc
  | true =>
   obtain⟨us,rfl⟩:=zhr hf2;obtain⟨_,L⟩:=pt.tup;by_cases l2:fo us=2
   ·obtain⟨x,y,rfl⟩:=zsB l2;have px:=(L x (by simp)).pln;have py:=(L y (by simp)).pln;have h:R (dQ (J4 bits (lV [x,y])&&wdD w)) n:=h;have bad:¬(nnI x/\nnI y)->R (dQ dy) n:=λz=>by
     have e:J4 bits (lV [x,y])=dy:=by rw[cN];intro G;apply z;unfold J4 at G;split at G;rename_i b g e;simp only[gW,eh,and_true]at e;obtain⟨rfl,rfl⟩:=e;have:=of_decide_eq_true G;exact⟨⟨b,rfl,this.2.2.1⟩,⟨g,rfl,this.1⟩⟩;cases G
     rw[e,cz]at h;exact h
    wp_walk;all_goals first
     | exact absurd rfl hc
     | skip
    refine zwy 4 (λk _ m=>m=n/\∀(i:Nat) t,i<k->[x,y][i]?=ao t->nnI t) ⟨rfl,λi t z=>by lia⟩ ?_ ?_
    ·rintro k t _ m K RT BK U ⟨rfl,hi⟩ hK hRT hBK;have mt:t=x\/t=y:=by simpa using aQ U
     have pl:Pln t:=by rcases mt with rfl|rfl <;> assumption
     have no:¬nnI t->RT (dQ dy) m:=λz=>hRT _ _ (bad λq=>z (by rcases mt with rfl|rfl;exact q.1;exact q.2));have yes:nnI t->m=m/\∀(i:Nat) u,i<k+1->[x,y][i]?=ao u->nnI u:=λz=>⟨rfl,λi u hq eq=>by rcases iI.mp hq with q|rfl;exact hi i u q eq;rw[U]at eq;cases eq;exact z⟩;cases h1:isInt t with
     | false =>wp_walk using isiF pl h1 ?_;exact no λ⟨i,e,_⟩=>by rw[e]at h1;cases h1
     | true =>
      cases C:isBool t with
      | true =>wp_walk using isiF pl h1 ?_,isiF pl C ?_;exact no λ⟨i,e,_⟩=>by rw[e]at C;cases C
      | false =>
       obtain⟨i,rfl⟩:=zp4 h1 C;wp_walk;exact no λ⟨i,e,h0⟩=>by cases e;lia
       exact hK _ _ (yes ⟨i,rfl,by lia⟩)
    ·rintro _ m ⟨rfl,hi⟩;obtain⟨b,rfl,hb⟩:=hi 0 x (by simp) rfl;obtain⟨g,rfl,hg⟩:=hi 1 y (by simp) rfl;rw[zfz]at h;have pp:=JE (ap g);have md:=gj b (show(2:Int) ^ ap g≠0 by lia);have J:¬(0<=g/\g<=bits/\0<=b/\b<2 ^ ap bits/\b % 2 ^ ap g=0)->R (dQ dy) m:=λz=>by
      rw[decide_eq_false z,cz]at h;exact h
     have iw:([cH (aa "out"),cH (aa "kept"),cH (aa "free")].any λt=>t.eqv w)=wdD w:=by
      cases w with
      | str s=>exact in_words
      | _=>rfl
     wp_walk;exact J λz=>by lia
     exact cpow (by lia) (by lia);exact J λz=>by lia
     exact cpow (by lia) (by lia);lia;rw[bR]at hc;exact J λz=>by lia
     exact ow;intro t N;simp only[ay,aS,or_false]at N;rcases N with rfl|rfl|rfl <;> exact(zjB (by decide +kernel)).okd;all_goals
      rw[iw]at hc;rename_i c1 c2 c3;rw[bR]at c2 c3;have C:=h;rw[hc,decide_eq_true (show 0<=g/\g<=bits/\0<=b/\b<2 ^ ap bits/\b % 2 ^ ap g=0 from⟨hg,by lia,hb,by lia,by lia⟩),cD]at C
     ·obtain⟨s,rfl⟩:∃s,w=cH s:=by
       cases w with
       | str s=>exact⟨s,rfl⟩
       | _=>cases hc
      wp_walk;exact C
     exact C
   ·wp_walk;all_goals first|exact v λ_ _ _ e=>l2 (by cases e;rfl)|(exfalso;lia)|exact absurd rfl hc
 ·wp_walk;all_goals first|exact v λ_ _ _ e=>l2 (by cases e;rfl)|(exfalso;lia)
def chn:Int->List (Int×Int)->Int->Prop
 | lo,[],hi=>lo=hi
 | lo,b::bs,hi=>b.1=lo/\chn (eB b) bs hi
theorem zj0:∀{xs l:qB}{lo hi:Int},chn lo (xs++l) hi↔∃mid,chn lo xs mid/\chn mid l hi
 | [],l,lo,hi=>⟨λh=>⟨lo,rfl,h⟩,λ⟨m,e,h⟩=>by cases(show lo=m from e);exact h⟩
 | x::xs,l,lo,hi=>by show(x.1=lo/\chn (eB x) (xs++l) hi)↔_;rw[zj0];constructor;rintro⟨e,m,u,o⟩;exact⟨m,⟨e,u⟩,o⟩;rintro⟨m,⟨e,u⟩,o⟩;exact⟨e,m,u,o⟩
theorem zhB:∀{xs:qB}{lo a b:Int},chn lo xs a->chn lo xs b->a=b
 | [],lo,a,b,h,h'=>(show lo=a from h).symm.trans h'
 | x::xs,lo,a,b,h,h'=>zhB h.2 h'.2
theorem zwB{b:Int×Int}:eB b=b.1+2 ^ ap b.2:=rfl
theorem zqO{T:Int}:∀{bs:qB}{lo:Int},lo<=T->(∀b∈bs,lo<=b.1/\eB b<=T)->bs.Pairwise (λa b=>eB a<=b.1)->(bs.map λb=>(2:Int) ^ ap b.2).sum<=T - lo/\((bs.map λb=>(2:Int) ^ ap b.2).sum=T - lo->chn lo bs T)
 | [],lo,hl,_,_=>by refine⟨by simp;lia,λh=>?_⟩;show lo=T;simp at h;lia
 | b::bs,lo,hl,h,pw=>by obtain⟨o,v⟩:=cx.mp pw;obtain⟨I,x⟩:=h b (jc _);obtain⟨i1,C⟩:=zqO (lo:=eB b) x (λc hc=>⟨o c hc,(h c (jk _ hc)).2⟩) v;have G:=zwB (b:=b);rw[aU,vp];refine⟨by lia,λe=>⟨by lia,C (by lia)⟩⟩
theorem zop:∀{bs:qB}{lo hi:Int},chn lo bs hi->lo<=hi/\(∀b∈bs,lo<=b.1/\eB b<=hi)/\bs.Pairwise (λa b=>eB a<=b.1)/\(bs.map λb=>(2:Int) ^ ap b.2).sum=hi - lo
 | [],lo,hi,h=>by have h:lo=hi:=h;exact⟨by lia,λb hb=>(nomatch hb),mO,by simp;lia⟩
 | b::bs,lo,hi,⟨e,h⟩=>by obtain⟨o,i1,v,x⟩:=zop h;have C:=zwB (b:=b);have pp:=JE (ap b.2);refine⟨by lia,λc hc=>?_,cx.mpr ⟨λc hc=>(i1 c hc).1,v⟩,by rw[aU,vp];lia⟩;rcases ay.mp hc with rfl|hc;exact⟨by lia,o⟩;have:=i1 c hc;exact⟨by lia,this.2⟩
theorem zjp{bits:Int}(l:0<=bits){bs:qB}(B:Bks bits bs):(Ptc bits bs/\(bs.map λb=>(2:Int) ^ ap b.2).sum=2 ^ ap bits)↔chn 0 bs (2 ^ ap bits):=by have pp:=JE (ap bits);constructor;rintro⟨P,s⟩;refine(zqO (T:=2 ^ ap bits) (lo:=0) (by lia) (λb hb=>?_) P.2).2 (by lia);have:=(B b hb).bounds l;unfold eB;lia;intro h;obtain⟨_,_,pw,s⟩:=zop h;exact⟨⟨B,pw⟩,by lia⟩
theorem zmz{bits:Int}(v:0<=bits):∀(ts:qD),ts.all (rwB bits)=du->∃rs:List NP,ts=oD rs/\∀r∈rs,IsBk bits r.1.1 r.1.2/\IsWd r.2
 | [],_=>⟨[],rfl,λr o=>(nomatch o)⟩
 | t::ts,h=>by
  rw[ni,aF]at h;obtain⟨rs,rfl,B⟩:=zmz v ts h.2;have l:=h.1;unfold rwB at l;split at l;rename_i x y w;rw[aF]at l;obtain⟨l,C⟩:=l;have u:=l;unfold J4 at l;split at l;rename_i b g e;simp only[gW,eh,and_true]at e;obtain⟨rfl,rfl⟩:=e;have:=(WM v).mp u;cases w with
  | str s =>refine⟨((b,g),s)::rs,rfl,λr o=>?_⟩;rcases ay.mp o with rfl|o;exact⟨this,of_decide_eq_true (p:=s=wOut\/s=Jy\/s=Js) C⟩;exact B r o
  | _=>cases C
  cases l;cases l
theorem zu9{bits:Int}(v:0<=bits){rs:List NP}(h:∀r∈rs,IsBk bits r.1.1 r.1.2/\IsWd r.2):(oD rs).all (rwB bits)=du:=by rw[bM];intro x hx;obtain⟨r,o,rfl⟩:=aA.mp hx;obtain⟨B,W⟩:=h r o;show(J4 bits (lV [bu r.1.1,bu r.1.2])&&wdD (cH r.2))=du;rw[(WM v).mpr B,cD];exact decide_eq_true (p:=r.2=wOut\/r.2=Jy\/r.2=Js) W
inductive zb7:qD->Nat->qN->Prop
 | c {d:Deal} {nm:Str} {h:Int} {t:af} {n:Nat} {R:qN} (D:Dl d) (hw:IsNm nm) (l1:fo d.2.1<=20) (l2:fo d.2.2<=20) (p:PlnD t) (o:OkK 40 t) (k:∀b:Bool,(b=du↔Wj d (cH nm) h t)->R (dQ b) n):zb7 [dlD d,cH nm,bu h,t] n R
def zcT(Z:ZZ):Prop:=QF Z "_law_is_paper" 77 ["_law_deal_here","_law_name","_law_height","_law_paper"] 2 4 zb7
theorem zeX(D:DQ Z "_law_is_paper" 77 ["_law_deal_here","_law_name","_law_height","_law_paper"]) (Ls:zdN Z) (Lo:zfj Z) (T:Txt Z.mg):zcT Z:=by
 refine' okN ["_law_deal_here","_law_name","_law_height","_law_paper","_law_bits_here","_law_outs","_law_kept","_law_low","_law_block_here","_law_word","_law_frees","_law_mine","_law_others"] D λC=>⟨_,(Jb (QK (Jh 0) (JF rfl (Jj (dgv 4 (ndB rfl)) (Jj (dgv 5 (ndB rfl)) (Jj (dgv 6 (ndB rfl)) JD))))) (Jb (Jo (JK (J9 (JQ (JH (dl (Qo Uz T.isi T.tup Qn (dlv 3) Jv)))) (Qp (JQ (JH (dl (Jw (Uv rfl) Uq T.all UF (Jk (dl (Jr (dnc ["_law_row"] [4] (dil (JP (Jh 3))) (λ_ _ _ _=>(dgv 0 (ndB rfl))) (λ_ _ _ _=>(Jd Ls C (dbv 1 (dbv 0 Ja))))))) Jn Qr)))))))) (Jc (Jf JC)) Jq) (Jb (dsv 7 (ndB rfl) Ji) (Jb (QQ cF rfl (JP (Jh 3)) (JF rfl (Jj (dgv 8 (ndB rfl)) (Jj (dgv 9 (ndB rfl)) JD))) (Jb (Jo (Jl (QB C) QA (dl (Je (dlv 8) dli)) (dlv 7) (Jg _)) (Jc (Jf JC)) Jq) (Jc (dsv 7 (ndB rfl) (JR (dl (Je (dlv 8) dli)) (dl (JO dli (dl (Je (dlv 8) dli))))))))) (Jb (dsv 10 (ndB rfl) (zqt rfl C.units T.dct (dnf ["_law_block_here","_law_word"] [] (dil (JP (Jh 3))) (λ_ _ _ _=>(JF rfl (Jj (dgv 0 (ndB rfl)) (Jj (dgv 1 (ndB rfl)) JD)))) (λ_ _ _ _=>(Uu (Jl (Qc C) Qa (dlv 1) (dl JM) (Jg _)))) (λ_ _ _ _=>(Jp (dbv 0 (dbc JC Ja))))))) (Jb (Zf (Yi (i:=11) (ndB rfl) rfl (dY rfl) (own:=["_law_one","_law_owner"]) (capt:=[]) rfl (JB.of rfl) (dil (JP (Jh 5))) (λ_ _ _ _=>(JF rfl (Jj (dgv 0 (ndB rfl)) (Jj (dgv 1 (ndB rfl)) JD)))) (by decide) (λ_ _ _ _=>U3) (λ_ _ _ _=>(Jh 0)))) (Jb (Zf (Yi (i:=12) (ndB rfl) rfl (dY rfl) (own:=["_law_one","_law_owner"]) (capt:=[1]) rfl (JB.of rfl) (dil (JP (Jh 6))) (λ_ _ _ _=>(JF rfl (Jj (dgv 0 (ndB rfl)) (Jj (dgv 1 (ndB rfl)) JD)))) (by decide) (λ_ _ _ _=>(Uu (Jl (QB C) QA (dlv 1) (dlv 2) (Jg _)))) (λ_ _ _ _=>(Jh 0)))) (Jb (QQ cF rfl (JP (Jh 3)) (JF rfl (Jj (dgv 8 (ndB rfl)) (Jj (dgv 9 (ndB rfl)) JD))) (Jc (Jo (Jl (Qc C) Qa (dlv 9) (dl JM) (Jg _)) (Jc (Jo (JK (J9 (Jl Yq gp_B (dl (Je (dlv 8) dli)) (dlv 2) (Jg _)) (Qp (Jl (zq7 (zmA C)) zrm (dl (Jp (dbc (zn_ (dl (Je (dlv 8) dli)) (dl (JO dli (dl (Je (dlv 8) dli))))) (dbc (Je (dlv 8) dli) Ja)))) (dlv 10) rfl)))) (Jc (Jf JC)) Jq)) (Jc (Jo (JK (Q3 (Jl (Qc C) Qa (dlv 9) (dl JM) (Jg _)) (Q4 (JQ (JH (dl (Jd Lo C (dbv 11 (dbv 8 Ja))))))))) (Jc (Jf JC)) (Jc (Jo (JK (Q3 (Jl (Qc C) Qa (dlv 9) (dl JM) (Jg _)) (Q4 (JQ (JH (dl (Jd Lo C (dbv 12 (dbv 8 Ja))))))))) (Jc (Jf JC)) Jq))))))) (Jc (Jf (J3 (Qc C) Qa (dlv 7) (dl (JO dli (dlv 4))) (Jg _)))))))))))),?_⟩;intro ts n R hl h;obtain @⟨⟨bits,os,J⟩,nm,h,t,n,R,D,hw,l1,l2,p,o,k⟩:=h;have D':=D;obtain⟨b0,b1,S1,S2,_⟩:=D';have b0:1<=bits:=b0;have b1:bits<=64:=b1;have l1:fo os<=20:=l1;have l2:fo J<=20:=l2;have e:dlD (bits,os,J)=lV [bu bits,lV (oD os),lV (oD J)]:=rfl;have N:0<=bits:=by lia
 rw[e];have no:(∀rs:List NP,t≠lV (oD rs))->R (dQ dy) n:=λz=>k dy ⟨λy=>(by cases y),λ⟨rs,e,_⟩=>absurd e (z rs)⟩;cases t with
 | dict J =>
  cases J with
  | nil =>
   have k:=no λrs z=>by cases z
   wp_walk;exact k
  | cons a b=>exact absurd rfl p.pln
 | tuple ts =>
  obtain⟨l6,p3⟩:=p.tup;have o3:=WC o;wp_walk;refine WG (λt=>dQ (rwB bits t)) (by lia) ?_ ?_
  ·intro t ht K2 X2 hK2;wp_walk using zcC.c N b1 (p3 t ht) (o3 t ht) ?_;exact hK2
  ·wp_walk using Uk ?_
   ·obtain⟨rs,rfl,RB⟩:=zmz N ts hc;have lr:fo rs<=1000000:=by rw[UU]at l6;exact l6
    have BK:Bks bits (rs.map (·.1)):=λb hb=>by obtain⟨r,C,rfl⟩:=aA.mp hb;exact(RB r C).1
    have k1:∀b:Bool,(b=du↔(chn 0 (rs.map (·.1)) (2 ^ ap bits)/\zwT (bits,os,J) (cH nm) h rs))->R (dQ b) n:=λb hb=>k b (hb.trans (by rw[<- zjp N BK];constructor;rintro⟨⟨P,sm⟩,sh⟩;exact⟨rs,rfl,⟨P,sm,λr C=>(RB r C).2⟩,sh⟩;rintro⟨rs',e',⟨P,sm,_⟩,sh⟩;have:rs=rs':=znd (fQ e');subst this;exact⟨⟨P,sm⟩,sh⟩));refine zro 7 8 9 (λj c _ _ m=>m=n/\∃lo:Int,c=ao (.val (bu lo))/\chn 0 ((rs.take j).map (·.1)) lo) ⟨rfl,0,rfl,rfl⟩ ?_ ?_
    ·rintro j x _ _ _ m K RT BK' ej ⟨rfl,lo,rfl,ch⟩ L hRT hBK;obtain⟨r,Y,rfl⟩:=zne ej;have C:=aQ Y;obtain⟨B,W⟩:=RB r C;have g0:0<=r.1.2:=B.1;have g1:r.1.2<=bits:=B.2.1;have tk:rs.take (j+1)=rs.take j++[r]:=by rw[dW,Y];rfl
     wp_walk;exact cpow (by lia) (by lia);refine L _ _ _ _ ⟨rfl,_,rfl,?_⟩;rw[tk,dM];exact zj0.mpr ⟨lo,ch,hc,by show eB r.1=_;unfold eB;lia⟩;refine hRT _ _ (k1 dy ⟨λy=>(by cases y),λ⟨cc,_⟩=>?_⟩);exfalso;apply hc;have dr:rs=rs.take j++(r::rs.drop (j+1)):=by obtain⟨jl,ejr⟩:=aq.mp Y;rw[<- ejr,<- bO jl,bZ]
     rw[dr,dM]at cc;obtain⟨mid,c1,c2⟩:=zj0.mp cc;rw[zhB ch c1];exact c2.1
    ·rintro _ _ _ m ⟨rfl,lo,rfl,ch⟩;have ch:chn 0 (rs.map (·.1)) lo:=by rw[UU,ff]at ch;exact ch
     wp_walk;refine U4 (cs:=rs) (D:=λr=>lV [prD r.1,cH r.2]) (λr=>decide (r.2=Js)) (λr=>prT (r.1,dQ du)) (by lia) ?_ ?_
     ·intro r C K X L hX;wp_walk;exact L (decide_eq_true hc);exact hX (decide_eq_false hc)
     ·refine⟨(rs.filter λr=>decide (r.2=Js)).map λr=>(r.1,dQ du),by rw[bS];rfl,?_⟩;generalize hfr:mkT ((rs.filter λr=>decide (r.2=Js)).map λr=>(r.1,dQ du))=fr;have hf:∀b:Int×Int,f6 (valT fr b)=du↔(b,Js)∈rs:=λb=>by
       rw[zj_,<- hfr];unfold mkT;rw[List.foldl_map,zfL (F:=λr:NP=>r.1) (G:=λ_=>dQ du)];constructor;rintro(z|z);simp at z;obtain⟨r,C,rfl⟩:=aA.mp z;obtain⟨h1,h2⟩:=cT.mp C;have h2:r.2=Js:=of_decide_eq_true h2;rw[<- h2];exact h1;intro z;exact sr (aA.mpr ⟨(b,Js),cT.mpr ⟨z,decide_eq_true rfl⟩,rfl⟩)
      wp_walk;refine Qt (cs:=os) (D:=λp=>lV [prD p.1,cH p.2]) (λp=>prD p.1) (by lia) ?_ ?_
      ·intro p hp K X L;wp_walk;exact L
      have em:(os.map λp=>prD p.1)=pD (os.map (·.1)):=by unfold pD;rw[bS];rfl
      rw[em];wp_walk;refine U4 (cs:=J) (D:=λp=>lV [prD p.1,cH p.2]) (λp=>!who p.2 (cH nm)) (λp=>prD p.1) (by lia) ?_ ?_
      ·intro p hp K X L hX;wp_walk;exact hX (by show(!decide (p.2=nm))=dy;rw[decide_eq_true hc];rfl);exact L (by show(!decide (p.2=nm))=du;rw[decide_eq_false hc];rfl)
      have ek:((J.filter λp=>!who p.2 (cH nm)).map λp=>prD p.1)=pD (Jt (bits,os,J) (cH nm)):=by unfold pD Jt;rw[bS];rfl
      rw[ek];have l1':fo (os.map (·.1))<=1000:=by rw[aG];lia
      have lk:fo (Jt (bits,os,J) (cH nm))<=1000:=ba Vw (by show fo J<=_;lia);have h64:∀{ps:qB},Bks bits ps->∀p∈ps,0<=p.2/\p.2<=64:=λB p hp=>⟨(B p hp).1,bT (B p hp).2.1 b1⟩;have hOs:=h64 S1.1.1;have hKs:=h64 (zeq (os:=os) (nm:=cH nm) S2.1).1;wp_walk;refine zrp 8 9 (λj _ _ U=>U=m/\∀(i:Nat) r,i<j->rs[i]?=ao r->rowN (bits,os,J) (cH nm) h rs r) ⟨rfl,λi r z=>by lia⟩ ?_ ?_
      ·rintro j x _ _ U K RT BK' ej ⟨rfl,hi⟩ L hRT hBK;obtain⟨r,Y,rfl⟩:=zne ej;have C:=aQ Y;obtain⟨B,hwd⟩:=RB r C;have g0:0<=r.1.2:=B.1;have g1:r.1.2<=bits:=B.2.1;have g2:r.1.2<=64:=by lia
       have bad:¬rowN (bits,os,J) (cH nm) h rs r->RT (dQ dy) U:=λnr=>hRT _ _ (k1 dy ⟨λz=>(by cases z),λ⟨_,sh⟩=>e9 (nr (sh r C))⟩);have good:rowN (bits,os,J) (cH nm) h rs r->U=U/\∀(i:Nat) q,i<j+1->rs[i]?=ao q->rowN (bits,os,J) (cH nm) h rs q:=λnr=>⟨rfl,λi q hq eq=>by rcases iI.mp hq with z|rfl;exact hi i q z eq;rw[Y]at eq;cases eq;exact nr⟩;have e1:¬wOut=aa "kept":=by decide +kernel
       have e2:¬wOut=aa "free":=by decide +kernel
       have e3:¬Jy=aa "out":=by decide +kernel
       have e4:¬Jy=aa "free":=by decide +kernel
       have e5:¬Js=aa "out":=by decide +kernel
       have e6:¬Js=aa "kept":=by decide +kernel
       obtain⟨⟨b,g⟩,w⟩:=r;dsimp only at B g0 g1 g2 hwd ⊢;rcases hwd with I|I|I
       ·have I:w=wOut:=I;subst I;wp_walk using W2.c (b:=(b,g)) l1' hOs g0 g2 ?_;all_goals first
         | exact absurd ‹wOut=aa "kept"› e1
         | exact absurd ‹wOut=aa "free"› e2
         | exact absurd (rfl:wOut=aa "out") ‹¬wOut=aa "out"›
         | exact L _ _ _ (good ⟨λ_=>WL.mp ‹ZG _ _=du›,λz=>absurd z e1,λz=>absurd z e2⟩)
         | exact bad λz=>by rw[WL.mpr (z.1 rfl)]at hc;cases hc
       ·have I:w=Jy:=I;subst I;wp_walk using W2.c (b:=(b,g)) lk hKs g0 g2 ?_;all_goals first
         | exact absurd ‹Jy=aa "out"› e3
         | exact absurd ‹Jy=aa "free"› e4
         | exact absurd (rfl:Jy=aa "kept") ‹¬Jy=aa "kept"›
         | exact L _ _ _ (good ⟨λz=>absurd z e3,λ_=>WL.mp ‹ZG _ _=du›,λz=>absurd z e4⟩)
         | exact bad λz=>by rw[WL.mpr (z.2.1 rfl)]at hc;cases hc
       ·have I:w=Js:=I;subst I;wp_walk;all_goals first
         | exact absurd ‹Js=aa "out"› e5
         | exact absurd ‹Js=aa "kept"› e6
         | exact absurd (rfl:Js=aa "free") ‹¬Js=aa "free"›
         | skip
        exact bad λz=>by have:=(z.2.2 rfl).1;dsimp only at this;lia
        exact cpow (by lia) (by lia)
        ·rw[bR];refine zv6 (k:=(bW b (2 ^ ap g),g)) ?_;wp_walk;exact bad λz=>(z.2.2 rfl).2 ((hf _).mp hc);refine L _ _ _ (good ⟨λz=>absurd z e5,λz=>absurd z e6,λ_=>⟨by dsimp only;lia,λz=>?_⟩⟩);rw[(hf _).mpr z]at hc;cases hc
      ·rintro _ _ U ⟨rfl,hi⟩;wp_walk;exact cpow (by lia) (by lia);refine k1 _ ?_;rw[decide_eq_true_eq,bR];constructor;intro el;rw[el]at ch;refine⟨ch,λr C=>?_⟩;obtain⟨i,ei⟩:=dB.mp C;exact hi i r (by have:=(aq.mp ei).1;rw[UU];exact this) ei;rintro⟨cc,_⟩;exact zhB ch cc
   refine k dy ⟨λy=>(by cases y),λ⟨rs,e,⟨P,_,W⟩,_⟩=>?_⟩;cases e;rw[zu9 N λr C=>⟨P.1 r.1 (aA.mpr ⟨r,C,rfl⟩),W r C⟩]at hc;cases hc
 | _ =>
  have k:=no λrs z=>by cases z
  wp_walk;exact k
theorem zs8{h lo hi:Int}(c:fst0 h lo+2 ^ ap h<=hi):fst0 h lo<=lst0 h hi:=by have z:=JE (ap h);rw[znm];unfold fst0 at c ⊢;rw[zjD];have:=(gQ (c:=(2:Int) ^ ap h) z (a:=(lo+2 ^ ap h - 1) / 2 ^ ap h+1) (b:=hi)).mpr (by rw[cX,bR];exact c);lia
inductive WH:qD->Nat->qN->Prop
 | c {d:Deal} {nm:Str} {h:Int} {n:Nat} {R:qN} (D:Dl d) (hn:IsNm nm) (l:fo d.2.1+fo d.2.2<64) (h0:0<=h) (h1:h<=d.1) (k:∀k:Bool,(k=du↔∃x,Fb d.1 (Free d (cH nm)) h x)->R (dQ k) n):WH [dlD d,cH nm,bu h] n R
def zgu(Z:ZZ):Prop:=QF Z "_law_can" 79 ["_law_deal_here","_law_name","_law_height"] 2 3 WH
theorem zjA(D:DQ Z "_law_can" 79 ["_law_deal_here","_law_name","_law_height"]) (U:zfl Z) (T:Txt Z.mg):zgu Z:=by
 refine' okN ["_law_deal_here","_law_name","_law_height","_law_size"] D λL=>⟨_,(Jb (dsv 3 (ndB rfl) (JO dli (dlv 2))) (Jc (Jf (Jw (zfU rfl) znN T.any zfW (Jk (dl (Jr (dnc ["_law_low","_law_high"] [3] (dil (Ut (Jd U L (dbv 0 (dbv 1 Ja))))) (λ_ _ _ _=>(JF rfl (Jj (dgv 0 (ndB rfl)) (Jj (dgv 1 (ndB rfl)) JD)))) (λ_ _ _ _=>(J3 Qj Qh (dl (JR (dl (Z1 (dl (zjX (dl (UT (dl (JR (dlv 0) (dlv 2))) dli)) (dlv 2))) (dlv 2))) (dlv 2))) (dlv 1) (Jg _)))))) Jn Qr))))),?_⟩;rintro ts n R hl @⟨d,nm,h,n,R,D,hn,l,h0,h1,k⟩;have b0:1<=d.1:=D.1;have b1:d.1<=64:=D.2.1;have hw:QX (cH nm):=sr ⟨nm,rfl,hn⟩;have z:=JE (ap h);have Y:=zdP (k:=ap d.1) (by lia);have q64:=zdP (k:=ap h) (by lia);wp_walk using zdy.c D hw l (λgs N M lg=>?_);exact cpow (by lia) (by lia);have G:∀g∈gs,0<=g.1/\g.1<g.2/\g.2<=2 ^ ap d.1:=λg u=>by have lt:=N.1 g u;have a:=(M g.1).mp ⟨g,u,by lia,lt⟩;have b:=(M (g.2 - 1)).mp ⟨g,u,by lia,by lia⟩;have:=a.1;have:=b.2.1;lia
 rw[bR];refine Qt (cs:=gs) (D:=prD) (λg=>dQ (decide (fst0 h g.1+2 ^ ap h<=g.2))) (by lia) ?_ ?_
 ·intro g u K X C;obtain⟨v,g1,g2⟩:=G g u;unfold fst0 at C;have q0:0<=(g.1+2 ^ ap h - 1) / 2 ^ ap h:=iN (by lia) (by lia);have q1:(g.1+2 ^ ap h - 1) / 2 ^ ap h<g.1+1:=by
   refine oz z ?_;have:=cZ (show 1<=(2:Int) ^ ap h by lia) v;rw[cX];lia
  wp_walk;exact⟨z,by lia⟩;exact dY ⟨by lia,by lia⟩;exact C
 ·wp_walk;refine znG (cs:=gs) (f:=λg=>decide (fst0 h g.1+2 ^ ap h<=g.2)) ?_;refine k _ ?_;rw[iq];constructor;rintro⟨g,u,c⟩;obtain⟨v,g1,g2⟩:=G g u;have I:=(zrg h0 h1 v g2 (k:=(g.1+2 ^ ap h - 1) / 2 ^ ap h)).mpr ⟨aL _,zs8 (of_decide_eq_true c)⟩;exact⟨_,Fb.of M I.1 u I.2.1 I.2.2⟩;rintro⟨x,X⟩;obtain⟨g,u,S,J⟩:=X.gap N M;obtain⟨v,g1,g2⟩:=G g u;have I:Inn d.1 h g.1 g.2 x:=⟨X.1,S,J⟩;obtain⟨q,rfl⟩:=zp5 I;have:=((zrg h0 h1 v g2).mp I).1;exact⟨g,u,decide_eq_true (by lia)⟩
theorem zoo:∀{bs:qB}{lo hi:Int},chn lo bs hi->∀y,lo<=y->y<hi->∃b∈bs,b.1<=y/\y<eB b
 | [],lo,hi,h,y,y1,y2=>by have h:lo=hi:=h;lia
 | b::bs,lo,hi,h,y,y1,y2=>by obtain⟨e,h⟩:=h;by_cases c:y<eB b;exact⟨b,jc _,by lia,c⟩;obtain⟨q,o,z⟩:=zoo h y (by lia) y2;exact⟨q,jk _ o,z⟩
theorem zog:∀{bs:qB}{lo hi:Int},(∀b∈bs,lo<=b.1/\eB b<=hi)->bs.Pairwise (λa b=>eB a<=b.1)->(∀y,lo<=y->y<hi->∃b∈bs,b.1<=y/\y<eB b)->lo<=hi->chn lo bs hi
 | [],lo,hi,_,_,cv,l=>by show lo=hi;refine nZ l (gT.mp λz=>?_);obtain⟨b,hb,_⟩:=cv lo (aL _) z;cases hb
 | b::bs,lo,hi,h,pw,cv,l=>by
  obtain⟨o,x⟩:=cx.mp pw;have hb:=h b (jc _);have I:=Qd b;obtain⟨c,hc,v,u⟩:=cv lo (aL _) (by lia);have e:b.1=lo:=by rcases ay.mp hc with rfl|hc;lia;have:=o c hc;lia
  refine⟨e,zog (λc hc=>⟨o c hc,(h c (jk _ hc)).2⟩) x (λy G C=>?_) hb.2⟩;obtain⟨c,hc,v,u⟩:=cv y (by lia) C;rcases ay.mp hc with rfl|hc;lia;exact⟨c,hc,v,u⟩
theorem zjn{bits y:Int}{bs:qB}(P:Ptc bits bs){b c:Int×Int}(hb:b∈bs)(hc:c∈bs)(v:b.1<=y)(u:y<eB b)(o:c.1<=y)(x:y<eB c):b=c:=by obtain⟨i,hi,rfl⟩:=bh hb;obtain⟨j,l,rfl⟩:=bh hc;have pw:=aJ.mp P.2;rcases dD i j with z|z|z;have:=pw i j hi l z;lia;subst z;rfl;have:=pw j i l hi z;lia
theorem zqQ{bits i k:Int}(B:IsBk bits i k):i / 2 ^ ap (k+1)*2 ^ ap (k+1)<=bW i (2 ^ ap k)/\bW i (2 ^ ap k)+2 ^ ap k<=i / 2 ^ ap (k+1)*2 ^ ap (k+1)+2 ^ ap (k+1):=by
 have x4:=B.x4;obtain⟨h0,G,q,u,e,x⟩:=B;have v:=JE (ap k);have l:ap (k+1)=ap k+1:=by lia
 rw[x4,l,cB,e];generalize (2:Int) ^ ap k=p at *;rw[lE _ (by lia),<- Int.ediv_ediv_of_nonneg (by lia),lE _ (by lia)];have C:=kH q 2;rw[c9 p 2,<- eP,c9 (q / 2) 2];by_cases z:q % 2=0;rw[if_pos z,show 2*(q / 2)=q by lia];lia;rw[if_neg z,show 2*(q / 2)=q - 1 by lia,oH,bR];lia
theorem zo4{d:Deal}{nm:af}{h x:Int}{t:af}(D:Dl d)(h1:h<=d.1)(T:Wj d nm h t)(X:Fb d.1 (Free d nm) h x):False:=by
 obtain⟨rs,rfl,⟨P,sm,W⟩,N⟩:=T;have b0:0<=d.1:=by have:=D.1;lia
 have ch:=(zjp b0 P.1).mp ⟨P,sm⟩;have bx:=X.1.bounds b0;have h0:=X.1.1;have zx:=JE (ap h);have cv:∀y,x<=y->y<x+2 ^ ap h->∃r∈rs,r.2=Js/\r.1.2<h/\r.1.1<=y/\y<eB r.1:=λy y1 y2=>by obtain⟨b,hb,I,G⟩:=zoo ch y (by lia) (by lia);obtain⟨r,v,rfl⟩:=aA.mp hb;obtain⟨n1,n2,n3⟩:=N r v;have F:=X.2 y y1 y2;rcases W r v with w|w|w;obtain⟨p,S,p1,p2⟩:=n1 w;exact absurd ⟨p,S,by lia,by lia⟩ F.2.2.1;obtain⟨p,S,p1,p2⟩:=n2 w;exact absurd ⟨p,S,by lia,by lia⟩ F.2.2.2;exact⟨r,v,w,(n3 w).1,I,G⟩
 have ex:eB (x,h)=x+2 ^ ap h:=rfl;have low:∀k:Nat,∀r∈rs,r.2=Js->ap r.1.2=k->x<=r.1.1->eB r.1<=x+2 ^ ap h->r.1.2<h->False:=by
  intro k;induction k using Nat.strongRecOn with
  | _ k ih =>
   intro r v w hk J r2 rl;have U:r.1∈rs.map (·.1):=aA.mpr ⟨r,v,rfl⟩;have R:=P.1 r.1 U;have k0:=R.1;have re:=Qd r.1;obtain⟨A,a1,a2⟩:=zoB R (by lia);obtain⟨s1,s2⟩:=zqQ R;have So:=R.oth (show r.1.2<d.1 by lia);have zs:=JE (ap r.1.2);generalize r.1.1 / 2 ^ ap (r.1.2+1)*2 ^ ap (r.1.2+1)=u at *;generalize hs:bW r.1.1 (2 ^ ap r.1.2)=s at *;have eu:eB (u,r.1.2+1)=u+2 ^ ap (r.1.2+1):=rfl;have es:eB (s,r.1.2)=s+2 ^ ap r.1.2:=rfl;have er:eB r.1=r.1.1+2 ^ ap r.1.2:=rfl;have inB:x<=u/\u+2 ^ ap (r.1.2+1)<=x+2 ^ ap h:=by
    rcases UG (p:=(x,h)) (q:=(u,r.1.2+1)) X.1 A (x:=r.1.1) ⟨J,by lia⟩ ⟨a1,by lia⟩ with z|z;exact⟨z.1,by lia⟩;have e:r.1.2+1=h:=by have:=z.2.2;dsimp only at this;lia
    have A':IsBk d.1 u h:=by rw[<- e];exact A
    have p2:(2:Int) ^ ap (r.1.2+1)=2 ^ ap h:=by rw[e]
    have:=zrK X.1 A' (s:=r.1.1) J (by lia) a1 (by lia);lia
   obtain⟨q,Y,qw,ql,I,G⟩:=cv s (by lia) (by lia);have C:q.1∈rs.map (·.1):=aA.mpr ⟨q,Y,rfl⟩;have Q:=P.1 q.1 C;rcases fA q.1.2 r.1.2 with c|c|c;rcases UG (p:=(s,r.1.2)) (q:=q.1) So Q (x:=s) ⟨aL _,by lia⟩ ⟨I,G⟩ with z|z;exact ih (ap q.1.2) (by have:=Q.1;lia) q Y qw rfl (by have:=z.1;dsimp only at this;lia) (by have:=z.2.1;lia) (by lia);have:=z.2.2;dsimp only at this;lia;have e:q.1=(s,r.1.2):=zms Q So c ⟨I,G⟩ ⟨aL _,by lia⟩;have:=((N r v).2.2 w).2;rw[hs]at this;exact this (by rw[<- e,<- qw];exact Y);rcases UG (p:=q.1) (q:=(u,r.1.2+1)) Q A (x:=s) ⟨I,G⟩ ⟨by dsimp only;lia,by lia⟩ with z|z;have L:=z.1;have z3:=z.2.1;dsimp only at L;have e:=zjn P U C (y:=r.1.1) (aL _) re (by lia) (by lia);rw[e]at c;lia;have z2:=z.2.2;have L:=z.1;have z3:=z.2.1;dsimp only at z2 L;have e:q.1.2=r.1.2+1:=by lia
   have e2:q.1=(u,r.1.2+1):=zms Q A e ⟨I,G⟩ ⟨by dsimp only;lia,by lia⟩;have e3:=zjn P U C (y:=r.1.1) (aL _) re (by rw[e2];exact a1) (by rw[e2];lia);rw[e3]at c;lia
 obtain⟨r,v,w,l,J,r2⟩:=cv x (aL _) (by lia);have R:=P.1 r.1 (aA.mpr ⟨r,v,rfl⟩);rcases UG (p:=(x,h)) (q:=r.1) X.1 R (x:=x) ⟨aL _,by lia⟩ ⟨J,r2⟩ with z|z;exact low _ r v w rfl z.1 z.2.1 l;have:=z.2.2;dsimp only at this;lia
def Ap(a b:NP):Prop:=eB a.1<=b.1.1\/eB b.1<=a.1.1
theorem VP{a b:NP}{S T:Int->Prop}(ha:∀y,a.1.1<=y->y<eB a.1->S y)(hb:∀y,b.1.1<=y->y<eB b.1->T y)(no:∀y,S y->T y->False):Ap a b:=by unfold Ap;refine eZ λz=>?_;have l:=Qd a.1;have o:=Qd b.1;by_cases c:a.1.1<=b.1.1;exact no b.1.1 (ha _ c (by lia)) (hb _ (aL _) o);exact no a.1.1 (ha _ (aL _) l) (hb _ (by lia) (by lia))
theorem zmH{d:Deal}{nm:af}{h:Int}{rs:List NP}(D:Dl d)(h1:h<=d.1)(R:Vg d nm rs)(no:∀fs,CanP (Free d nm) fs->∀q∈fs,q.2<h)(srt:rs.Pairwise λa b=>npRk rs a<=npRk rs b):Wj d nm h (lV (oD rs)):=by
 obtain⟨ok,_⟩:=zgn D R;obtain⟨css,fs,lc,hcs,C,pm⟩:=R;have b0:0<=d.1:=by have:=D.1;lia
 have wd:∀x,Free d nm x->0<=x/\x<2 ^ ap d.1:=λx hx=>⟨hx.1,hx.2.1⟩;have Pf:=C.ptc b0 wd;have Po:Ptc d.1 (d.2.1.map (·.1)):=D.2.2.1.1;have Pk:Ptc d.1 (Jt d nm):=by obtain⟨bits,os,ks⟩:=d;exact zeq D.2.2.2.1.1
 have s0:∀r∈d.2.1.map (λp=>(p.1,wOut)),∀y,r.1.1<=y->y<eB r.1->mB y (d.2.1.map (·.1)):=λr I y J y2=>by obtain⟨p,U,rfl⟩:=aA.mp I;exact⟨p.1,aA.mpr ⟨p,U,rfl⟩,J,y2⟩
 have part:∀c∈css,∃b∈Jt d nm,CanP (λx=>mB x [b]/\¬mB x (d.2.1.map (·.1))) c:=λc hc=>by
  obtain⟨i,hi,rfl⟩:=bh hc;have hk:i<fo (Jt d nm):=by lia
  exact⟨_,dO hk,hcs i _ _ (aw hk) (aw hi)⟩
 have s1:∀r∈css.flatten.map (λb=>(b,Jy)),∃b∈Jt d nm,∀y,r.1.1<=y->y<eB r.1->mB y [b]/\¬mB y (d.2.1.map (·.1)):=λr I=>by obtain⟨q,G,rfl⟩:=aA.mp I;obtain⟨c,hc,hqc⟩:=kR.mp G;obtain⟨b,hb,Cb⟩:=part c hc;exact⟨b,hb,λy J y2=>(Cb.mem y).mp ⟨q,hqc,J,y2⟩⟩
 have s2:∀r∈fs.map (λb=>(b,Js)),∀y,r.1.1<=y->y<eB r.1->Free d nm y:=λr I y J y2=>by obtain⟨q,G,rfl⟩:=aA.mp I;exact(C.mem y).mp ⟨q,G,J,y2⟩
 have mk:∀{y:Int} {b:Int×Int},b∈Jt d nm->mB y [b]->mB y (Jt d nm):=λhb hy=>by obtain⟨q,G,z⟩:=hy;cases av.mp G;exact⟨_,hb,z⟩
 have L:((d.2.1.map λp=>(p.1,wOut))++(css.flatten.map λb=>(b,Jy))++fs.map λb=>(b,Js)).Pairwise Ap:=by
  refine bP.mpr ⟨bP.mpr ⟨?_,?_,λa ha b hb=>?_⟩,?_,λa ha b hb=>?_⟩;rw[dE];exact(dE.mp Po.2).imp λ{a b} z=>dY z;rw[dE,List.pairwise_flatten];refine⟨λc hc=>?_,?_⟩;obtain⟨b,hb,Cb⟩:=part c hc;have Bb:=(Pk.1 b hb).bounds b0;exact(Cb.ptc b0 λx hx=>by obtain⟨q,G,z⟩:=hx.1;cases av.mp G;have e:eB b=b.1+2 ^ ap b.2:=rfl;lia).2.imp λ{a b} z=>dY z;rw[aJ];intro i j hi hj ij x hx y hy;have ki:i<fo (Jt d nm):=by lia
  have kj:j<fo (Jt d nm):=by lia
  have Ci:=hcs i _ _ (aw ki) (aw hi);have Cj:=hcs j _ _ (aw kj) (aw hj);have lt:=aJ.mp Pk.2 i j ki kj ij;refine VP (a:=(x,Jy)) (b:=(y,Jy)) (S:=λz=>mB z [(Jt d nm)[i]]) (T:=λz=>mB z [(Jt d nm)[j]]) (λz Y z2=>((Ci.mem z).mp ⟨x,hx,Y,z2⟩).1) (λz Y z2=>((Cj.mem z).mp ⟨y,hy,Y,z2⟩).1) λz u v=>?_;obtain⟨q,G,w⟩:=u;obtain⟨q',hq',w'⟩:=v;cases av.mp G;cases av.mp hq';lia;obtain⟨q,G,z⟩:=s1 b hb;exact VP (s0 a ha) z λy u v=>v.2 u;rw[dE];exact Pf.2.imp λ{a b} z=>dY z;rcases au.mp ha with ha|ha;exact VP (s0 a ha) (s2 b hb) λy u v=>v.2.2.1 u;obtain⟨q,G,z⟩:=s1 a ha;exact VP z (s2 b hb) λy u v=>v.2.2.2 (mk G u.1)
 have A:=(pm.pairwise_iff (R:=Ap) λ{a b} z=>z.symm).mpr L;have pw:(rs.map (·.1)).Pairwise λa b=>eB a<=b.1:=by
  rw[dE,aJ];intro i j hi hj ij;have a:=aJ.mp A i j hi hj ij;have s:=aJ.mp srt i j hi hj ij;have eb:=Qd rs[j].1;have nl:¬npLt rs[j] rs[i]=du:=λz=>by have:=WO (rs:=rs) (dO hj) z;lia
  rw[Vo]at nl;unfold Ap at a;rcases a with a|a;exact a;exact absurd (dY (by lia)) nl
 have B:Bks d.1 (rs.map (·.1)):=λb hb=>by obtain⟨r,I,rfl⟩:=aA.mp hb;exact(ok r I).1
 have cov:∀y,0<=y->y<2 ^ ap d.1->∃b∈rs.map (·.1),b.1<=y/\y<eB b:=λy y0 J=>by
  have go:∀r,r∈(d.2.1.map λp=>(p.1,wOut))++(css.flatten.map λb=>(b,Jy))++(fs.map λb=>(b,Js))->r.1.1<=y->y<eB r.1->∃b∈rs.map (·.1),b.1<=y/\y<eB b:=λr I Y z2=>⟨r.1,aA.mpr ⟨r,pm.mem_iff.mpr I,rfl⟩,Y,z2⟩;by_cases o:mB y (d.2.1.map (·.1));obtain⟨b,hb,Y,z2⟩:=o;obtain⟨p,U,rfl⟩:=aA.mp hb;exact go (p.1,wOut) (gm _ (gm _ (aA.mpr ⟨p,U,rfl⟩))) Y z2;by_cases k:mB y (Jt d nm);obtain⟨b,hb,Y,z2⟩:=k;obtain⟨i,hi,rfl⟩:=bh hb;have hc:i<fo css:=by lia
  have Ci:=hcs i _ _ (aw hi) (aw hc);obtain⟨q,G,w1,w2⟩:=(Ci.mem y).mpr ⟨⟨_,jc _,Y,z2⟩,o⟩;exact go (q,Jy) (gm _ (cI _ (aA.mpr ⟨q,kR.mpr ⟨_,dO hc,G⟩,rfl⟩))) w1 w2;obtain⟨q,G,w1,w2⟩:=(C.mem y).mpr ⟨y0,J,o,k⟩;exact go (q,Js) (cI _ (aA.mpr ⟨q,G,rfl⟩)) w1 w2
 have ch:chn 0 (rs.map (·.1)) (2 ^ ap d.1):=zog (λb hb=>by have:=(B b hb).bounds b0;have e:eB b=b.1+2 ^ ap b.2:=rfl;lia) pw cov (bG (JE _));obtain⟨P,sm⟩:=(zjp b0 B).mpr ch;refine⟨rs,rfl,⟨P,sm,λr I=>(ok r I).2⟩,λr I=>?_⟩;have ne1:wOut≠Jy:=by decide +kernel
 have ne2:wOut≠Js:=by decide +kernel
 have ne3:Jy≠Js:=by decide +kernel
 rcases au.mp (pm.mem_iff.mp I) with z|z;rcases au.mp z with z|z;obtain⟨p,U,rfl⟩:=aA.mp z;exact⟨λ_=>⟨p.1,aA.mpr ⟨p,U,rfl⟩,aL _,aL _⟩,λe=>absurd e ne1,λe=>absurd e ne2⟩;obtain⟨b,hb,w⟩:=s1 r z;obtain⟨q,G,rfl⟩:=aA.mp z;refine⟨λe=>absurd e.symm ne1,λ_=>⟨b,hb,?_⟩,λe=>absurd e ne3⟩;have eq:=Qd q;obtain⟨⟨_,m1,u1,_⟩,_⟩:=w q.1 (aL _) eq;obtain⟨⟨_,m2,_,u2⟩,_⟩:=w (eB q - 1) (by dsimp only;lia) (by dsimp only;lia);cases av.mp m1;cases av.mp m2;dsimp only;lia;obtain⟨f,hf,rfl⟩:=aA.mp z;refine⟨λe=>absurd e.symm ne2,λe=>absurd e.symm ne3,λ_=>⟨no fs C f hf,λsb=>?_⟩⟩;have hs:(bW f.1 (2 ^ ap f.2),f.2)∈fs:=by rcases au.mp (pm.mem_iff.mp sb) with z|z;rcases au.mp z with z|z;obtain⟨p,_,e⟩:=aA.mp z;exact absurd (congrArg Prod.snd e) ne2;obtain⟨p,_,e⟩:=aA.mp z;exact absurd (congrArg Prod.snd e) ne3;obtain⟨p,U,e⟩:=aA.mp z;have:=congrArg Prod.fst e;dsimp only at this;rw[<- this];exact U
 have F:=Pf.1 f hf;have l:=no fs C f hf;obtain⟨Ab,a1,a2⟩:=zoB F (by lia);obtain⟨t1,t2⟩:=zqQ F;have So:=F.x4;have zf:=JE (ap f.2);have k0:=F.1;have e2:(2:Int) ^ ap (f.2+1)=2 ^ ap f.2*2:=by rw[show(f.2+1).toNat=ap f.2+1 from by lia,cB]
 have ef:eB f=f.1+2 ^ ap f.2:=rfl;obtain⟨p,U,p1,p2⟩:=C.hold b0 wd (b:=(f.1 / 2 ^ ap (f.2+1)*2 ^ ap (f.2+1),f.2+1)) Ab λy J y2=>by have y2:y<f.1 / 2 ^ ap (f.2+1)*2 ^ ap (f.2+1)+2 ^ ap (f.2+1):=y2;have J:f.1 / 2 ^ ap (f.2+1)*2 ^ ap (f.2+1)<=y:=J;have es:eB (bW f.1 (2 ^ ap f.2),f.2)=bW f.1 (2 ^ ap f.2)+2 ^ ap f.2:=rfl;by_cases c:f.1<=y/\y<eB f;exact(C.mem y).mp ⟨f,hf,c.1,c.2⟩;refine(C.mem y).mp ⟨_,hs,?_,?_⟩;show bW f.1 (2 ^ ap f.2)<=y;rw[So]at t1 t2 ⊢;split at t1 <;> lia;rw[es];rw[So]at t1 t2 ⊢;split at t1 <;> lia
 have p2:f.1 / 2 ^ ap (f.2+1)*2 ^ ap (f.2+1)+2 ^ ap (f.2+1)<=eB p:=p2;have p1:p.1<=f.1 / 2 ^ ap (f.2+1)*2 ^ ap (f.2+1):=p1;have e:=zjn Pf hf U (y:=f.1) (aL _) (Qd f) (by lia) (by lia);subst e;lia
theorem zg9{bits:Int}{rs:List NP}(ok:∀r∈rs,IsBk bits r.1.1 r.1.2/\(r.2=wOut\/r.2=Jy\/r.2=Js))(l:fo rs<=90000):pap (lV (oD rs))=du:=by
 refine zsc (by rw[UU];lia) λt v=>?_;obtain⟨r,o,rfl⟩:=aA.mp v;have w:papD (cH r.2)=du/\bX (cH r.2)=du:=by rcases(ok r o).2 with e|e|e <;> rw[e] <;> exact⟨by decide +kernel,by decide +kernel⟩
 refine⟨?_,?_,?_⟩;show papD (lV [lV [bu r.1.1,bu r.1.2],cH r.2])=du;simp only[papD,QG,iF,cD,aF]at w ⊢;exact⟨decide_eq_true (show 2<=1000000 by decide),decide_eq_true (show 2<=1000000 by decide),w.1⟩;have:=w.2;simp only[bX,bL,prD,iF,cD]at this ⊢;exact this;simp[eC,cm,prD]
theorem znf:∀{os:List NP},bo (oD os)=false
 | []=>by simp[oD,bo]
 | p::os=>by have:=znf (os:=os);show bo (lV [prD p.1,cH p.2]::oD os)=dy;rw[bo,this];simp[aR,bo,prD]
theorem zn4{d:Deal}:(dlD d).hasDict=dy:=by unfold dlD;simp[aR,bo,znf]
inductive Zu:qD->Nat->qN->Prop
 | c {d:Deal} {nm:Str} {h:Int} {n:Nat} {R:qN} (D:Dl d) (hn:IsNm nm) (l1:fo d.2.1<=20) (l2:fo d.2.2<=20) (h0:0<=h) (h1:h<=d.1) (n0:10000000000000<=n) (n1:n<10000000090000) (k:∀n',n<=n'->n'<=n+1->R (dQ du) n'):Zu [dlD d,cH nm,bu h,HAND] n R
def zeL(Z:ZZ):Prop:=QF Z "_law_right" 80 ["_law_deal_here","_law_name","_law_height","_law_papers"] 10 4 Zu
theorem zhh(D:DQ Z "_law_right" 80 ["_law_deal_here","_law_name","_law_height","_law_papers"]) (Mq:zuo Z) (LO:zgu Z) (Lk:zeH Z) (Li:zcT Z) (Mg:zq3 Z) (T:Txt Z.mg):zeL Z:=by
 refine' okN ["_law_deal_here","_law_name","_law_height","_law_papers","_law_found"] D λI=>⟨_,(Jb (dsv 4 (ndB rfl) (Jd Mq I (dbv 0 (dbv 1 (dbv 2 Ja))))) (Jb (Jo (JK (J9 (JQ (JH (dl (Qo Uz T.isi T.tup Qn (dlv 4) Jv)))) (Qp (Jl (QB I) QA (dl (Jw Qw Qv T.len Qs (Jk (dlv 4) Jn Jv))) dli (Jg _))))) (Jc (Jf JC)) Jq) (Jb (Jo (JH (dl (Jd LO I (dbv 0 (dbv 1 (dbv 2 Ja)))))) (Jb (Jo (Jl (QB I) QA (dlv 4) (dl (Jp (dbc JM (dbc (Je (dl (Jd Mg I (dbv 0 (dbc (Jp (dbc JM (dbv 1 (dbv 2 Ja)))) Ja)))) dli) Ja)))) (Jg _)) (Jc (Jf JC)) Jq) (Jc (Jf (ztl 3 (zoa (Jw (zfU rfl) znN T.any zfW (Jk (dl (Jr (dnc ["_law_paper"] [0,1,2] (dil (Ut (Jh 3))) (λ_ _ _ _=>(dgv 0 (ndB rfl))) (λ_ _ _ _=>(Jd Lk I (dbv 1 (dbv 2 (dbv 3 (dbv 0 Ja))))))))) Jn Qr))))))) Jq) (Jb (Jo (JK (J9 (Jl (QB I) QA (dl (Je (dlv 4) dli)) (dl JM) (Jg _)) (Qp (JQ (JH (dl (Jd Li I (dbv 0 (dbv 1 (dbv 2 (dbc (Je (dlv 4) dli) Ja))))))))))) (Jc (Jf JC)) Jq) (Jb (zti 3 (Je (dlv 4) dli)) (Jc (Jf (J3 V0 VM (dl (Jd Lk I (dbv 0 (dbv 1 (dbv 2 (dbc (Je (dlv 4) dli) Ja)))))) (dl JC) (Jg _))))))))),?_⟩;rintro ts n R hl @⟨d,nm,h,n,R,D,hn,l1,l2,h0,h1,n0,n1,k⟩;have hw:QX (cH nm):=sr ⟨nm,rfl,hn⟩;have b0:1<=d.1:=D.1;have b1:d.1<=64:=D.2.1;have wd:∀x,Free d (cH nm) x->0<=x/\x<2 ^ ap d.1:=λx hx=>⟨hx.1,hx.2.1⟩;wp_walk using zzo D hw ?_ l1 l2 (λqs C=>⟨λq L S hm=>?_,λno rs R1 lr srt=>?_⟩);lia
 ·refine WH.c D hn (by lia) h0 h1 λkk hk=>?_;have P:=(C.ptc (bits:=d.1) (by lia) wd).1 q L;obtain⟨B,z1,z2,z3,z4⟩:=zsb P h0 S (aL q.1) (Qd q);have X:∃x,Fb d.1 (Free d (cH nm)) h x:=⟨_,B,λy y1 y2=>(C.mem y).mp ⟨q,L,by lia,by lia⟩⟩;cases hk.mpr X;wp_walk;refine⟨d,nm,h,rfl,D,hn,h0,h1,d,_,nm,h,rfl,D,hn,by lia,by lia,λqs' C'=>?_⟩;cases C'.uniq C λ_=>aY;refine⟨⟨q,L,S⟩,λq' U hh' Y rs pm pw=>?_⟩;have e:q'=q:=by
   have u1:=hm q' U hh';have u2:=Y q L S;exact gK (by lia) (by lia)
  subst e;have J:Okd (lV [cH (aa "block"),lV [bu q'.1,bu h]]):=⟨by simp only[bX,bL,iF,cD];decide +kernel,by simp[eC,cm]⟩;wp_walk;exact J;exact J
  ·refine⟨[ao (.val (dlD d)),ao (.val (cH nm)),ao (.val (bu h)),bj,bj],⟨rfl,λj c ne G=>?_⟩,rfl,n0,λts pp lt=>?_⟩;match j,ne,G with
   | 0,_,G=>cases G;exact⟨rfl,_,rfl,zn4⟩
   | 1,_,G=>cases G;exact⟨rfl,_,rfl,by simp[aR]⟩
   | 2,_,G=>cases G;exact⟨rfl,_,rfl,by simp[aR]⟩
   | 3,ne,_=>exact absurd rfl ne
   | 4,_,G=>cases G
   | j+5,_,G=>cases G
   ·simp only[eD,fh];wp_walk;refine WG (λ_=>dQ dy) (by lia) ?_ ?_
    ·intro t ht K2 X2 N;obtain⟨pl,ok⟩:=zq6 (pp t ht);have sn:∀{n:Nat} {R:qN},R (dQ dy) n->VG [dlD d,cH nm,bu h,t] n R:=λ{n R} z=>VG.c D hw (by lia) (by lia) pl ok λb hb=>by
      cases b with
      | false=>exact z
      | true=>exact(X.elim λx X=>zo4 D h1 (hb.mp rfl) X).elim
     wp_walk using sn ?_;exact N
    ·wp_walk;refine znG (cs:=ts) (f:=λ_=>dy) ?_;rw[show(ts.any λ_=>dy)=dy from by simp];exact⟨du,rfl,k n (aC _) (by lia)⟩
  exact absurd hc (by simp[dP,iE])
 exact absurd hc (by simp)
 ·refine WH.c D hn (by lia) h0 h1 λkk hk=>?_;have nx:¬∃x,Fb d.1 (Free d (cH nm)) h x:=λ⟨x,X⟩=>by
   obtain⟨p,hp,ph,_⟩:=X.held (by lia) C wd;have:=no p hp;lia
  have kf:kk=dy:=cN.mpr λz=>nx (hk.mp z);subst kf;have sh:=zmH D h1 R1 (λfs Cf=>by cases Cf.uniq C λ_=>aY;exact no) srt;have pp:=zg9 (zgn D R1).1 lr;obtain⟨pl,ok⟩:=zq6 pp;wp_walk using zb7.c D hn l1 l2 pl ok (λb hb=>?_)
  ·refine⟨rfl,?_⟩;wp_walk;exact n0;lia;exact pp;wp_walk using VG.c D hw ?_ ?_ pl ok (λb hb=>?_);lia;lia;cases hb.mpr sh;exact k (n+1) (by lia) (by lia)
  exact absurd (hb.mpr sh) (by simp[hc]);exact absurd hc (by simp)
 exact absurd hc (by simp)
theorem znE{is:List Int}:(sJ (is.map bu)).hasDict=dy:=by
 rw[aR];induction is with
 | nil=>simp[bo]
 | cons i is l=>rw[aU,bo,l];simp[aR]
theorem zu6{f:ai}{fd:dU}(D:Def Z.K Z.mg "law" (top 81) ["_law_script"] f fd) (LI:zfk Z) (LJ:zfn Z) (KZ:U5 Z) (Ly:zeL Z) (T:Txt Z.mg):FnOk Z.P Z.w Z.K Z.mg Z.base CX0 11 f fd ["_law_script"] (spD Z.K 1 zws):=by
 refine D.okD (fnS (N:=["_law_script","_law_k","_law_hand_here","_law_deal_here","_law_names_here","_law_whole","_law_wide","_law_name","_law_heights","_law_papers"]) (by decide +kernel)) rfl λcdv A outer s H E I=>?_;refine'⟨_,(Jb (QQ cF rfl (WV T.ran (Jw (VB rfl) ZS T.max Vy (Jk dli (Jk (dl (Jw (VC rfl) ZU T.min Yh (Jk dli (Jk (dl (Jw Qw Qv T.len Qs (Jk (dlv 0) Jn Jv))) Jn U1) zml))) Jn U1) zml))) (dgv 1 (ndB rfl)) (znX (i:=2) (j:=1) LI I (ndB rfl) rfl (sr rfl) (Jb (QK (Jd LJ I (dbv 2 (dbv 1 Ja))) (JF rfl (Jj (dgv 3 (ndB rfl)) (Jj (dgv 4 (ndB rfl)) JD)))) (Jb (dsv 5 (ndB rfl) (Jp (dbc Ji (dbc (Je (dlv 3) dli) Ja)))) (Jb (dsv 6 (ndB rfl) (QH VA We T.int boot_int (Jk (dl (J3 QO gp_B (dl (Je (dlv 3) dli)) dli (Jg _))) Jn V9))) (Jc (QQ cF rfl (Ut (Jr (zkS (dlv 4) (Ze (Je (dl (Jr (JU (dbc Ji (dbc (Yc Ji) Ja))))) (dlv 6))) Zn))) (dgv 7 (ndB rfl)) (Jb (dsv 8 (ndB rfl) (Jr (zqo rfl T.lst T.ran (JR (dl (Je (dlv 3) dli)) dli)))) (Jb (Jo (Jl QO gp_B (dl (Je (dlv 3) dli)) dli (Jg _)) (Jc (dsv 8 (ndB rfl) (Jr (zqn I T.srt (dl (Jr (dnc ["_law_turn"] [2,3] (dil (WV T.ran (Je (dl (Jr (JU (dbc Ji (dbc Ji Ja))))) (dlv 6)))) (λ_ _ _ _=>(dgv 0 (ndB rfl))) (λ_ _ _ _=>(Jd KZ I (dbv 1 (dbc (JR (dl (Je (dlv 2) dli)) dli) Ja))))))) Qr)))) Jq) (Jb (Uo (i:=9) (ndB rfl) rfl (sr rfl) (JU (dbc (Jp (dbc (Jp (dbv 5 (dbc JM Ja))) Ja)) (dbc (Jp (dbc (Jp (dbv 5 (dbc JM Ja))) Ja)) (dbc (Jp (dbc (Jp (dbv 5 (dbc JM Ja))) Ja)) (dbc (Jp Ja) Ja)))))) (Jc (zql 9 (JQ (JH (dl (Jw (Uv rfl) Uq T.all UF (Jk (dl (Jr (dnc ["_law_height"] [3,7,9] (dil (zwF T.rev (Jh 8))) (λ_ _ _ _=>(dgv 0 (ndB rfl))) (λ_ _ _ _=>(Jd Ly I (dbv 1 (dbv 2 (dbv 0 (dbv 3 Ja))))))))) Jn Qr))))) (Jc (Jf JC)))))))))))))) (Jc (Jf JC))),?_⟩;intro ts n R hl hh;obtain⟨ns,rfl,hl63,hh⟩:=hh;wp_walk;split <;> (try split) <;> lia;split <;> (try split) <;> lia;refine UZ (λ_ ρ m=>∃a1 a2 a3 a4 a5 a6 a7 Y U,ρ=[ao (.val (SCR ns)),a1,a2,a3,a4,a5,a6,a7,Y,U]/\m=n) ⟨_,_,_,_,_,_,_,_,_,rfl,rfl⟩ ?_ ?_
 ·rintro k t ρ m K et ⟨a1,a2,a3,a4,a5,a6,a7,Y,U,rfl,rfl⟩ hK;obtain⟨hk,rfl⟩:=zgp et;have hk8:k<8:=by
   revert hk;split <;> (try split) <;> lia
  with_reducible refine Stp.go ?_
  refine zp7 hl63 (by lia) (by lia) λNX RT BK CT hNX hRT hBK hCT=>?_;wp_walk using zdz.c ?_ ?_ (λd G m3 D ne ln nk l1 l2 hm3=>?_);lia;lia;have rt:∀{nm:Str} {h:Int} {n:Nat} {R:qN},nm∈G->0<=h->h<=d.1->10000000000000<=n->n<10000000090000->(∀J,n<=J->J<=n+1->R (dQ du) J)->Zu [dlD d,cH nm,bu h,HAND] n R:=λhn h0 h1 n0 n1 z=>Zu.c D (nk _ hn) l1 l2 h0 h1 n0 n1 z;have dd:(dlD d).hasDict=dy:=zn4;obtain⟨bits,os,ks⟩:=d;have b0:1<=bits:=D.1;have b1:bits<=64:=D.2.1;have rt:∀{nm:Str} {h:Int} {n:Nat} {R:qN},nm∈G->0<=h->h<=bits->10000000000000<=n->n<10000000090000->(∀J,n<=J->J<=n+1->R (dQ du) J)->Zu [dlD (bits,os,ks),cH nm,bu h,HAND] n R:=rt;rw[show dlD (bits,os,ks)=lV [bu bits,lV (oD os),lV (oD ks)] from rfl]at *;wp_walk using V3 (λz hz=>?_);have ws:∀t∈cutD (nD G) (ao z) bj,∃nm∈G,t=cH nm:=λt L=>by obtain⟨s,hs,rfl⟩:=aA.mp (zqx L);exact⟨s,hs,rfl⟩
  have wl:fo (cutD (nD G) (ao z) bj)<=4:=ba zqy (by rw[zvd];exact ln);generalize cutD (nD G) (ao z) bj=us at ws wl;refine zro 7 8 9 (λj _ _ _ m=>m<=m3+20*j) (by lia) ?_ ?_
  ·rintro j t a7 Y U m' K2 RT2 BK2 S hm' hK2 hRT2 hBK2;obtain⟨nm,hn,rfl⟩:=ws t (aQ S);have jl:=(aq.mp S).1;have fin:∀(is:List Int) (m4:Nat),fo is<=100->(∀x∈is,0<=x/\x<=bits)->m4<=m3+20*(j+1)->zqS 9 (dNot (dTru (Y1 bAll (JZ (dNew (dComp [aa "_law_height"].length [3,7,9] (dItR (dVar 8)) (Qe 0) dYes (dFn Zu (JZ (dVar 1) (JZ (dVar 2) (JZ (dVar 0) (JZ (dVar 3) dNil))))))) dNil)))) { nx:=K2,rt:=RT2,bk:=BK2,ct:=K2 }
     [ao (.val (SCR ns)),ao (.val (bu (0+(k:Int)))),ao (.val HAND),ao (.val (lV [bu bits,lV (oD os),lV (oD ks)])),ao (.val (sJ (nD G))),ao (.val (lV [bu 0,bu bits])),ao (.val (bu (if decide (16<bits)=du then 1 else 0))),ao (.val (cH nm)),ao (.val (sJ (is.map bu))),ao (.own [lV [lV [lV [bu 0,bu bits],cH (aa "free")]],lV [lV [lV [bu 0,bu bits],cH (aa "out")]],lV [lV [lV [bu 0,bu bits],cH (aa "kept")]],lV []])] m4:=by
    intro is m4 li hb lm;refine⟨_,[bj,bj,bj,ao (.val (lV [bu bits,lV (oD os),lV (oD ks)])),bj,bj,bj,ao (.val (cH nm)),ao (.val (sJ (is.map bu))),bj],rfl,?_,⟨rfl,λj c ne C=>?_⟩,?_⟩;have WB:IsBk bits 0 bits:=⟨by lia,aL _,0,aL _,by simp,by simp⟩;have pw:∀w:Str,w=wOut\/w=Jy\/w=Js->pap (lV [lV [lV [bu 0,bu bits],cH w]])=du:=λw hw=>zg9 (bits:=bits) (rs:=[((0,bits),w)]) (λr I=>by cases av.mp I;exact⟨WB,hw⟩) (by simp);intro t L;simp only[ay,aS,or_false]at L;rcases L with rfl|rfl|rfl|rfl;exact pw Js (sr (sr rfl));exact pw wOut (dY rfl);exact pw Jy (sr (dY rfl));exact zg9 (bits:=bits) (rs:=[]) (λr I=>nomatch I) (by simp);match j,ne,C with
    | 3,_,C=>cases C;exact⟨rfl,_,rfl,dd⟩
    | 7,_,C=>cases C;exact⟨rfl,_,rfl,by simp[aR]⟩
    | 8,_,C=>cases C;exact⟨rfl,_,rfl,znE⟩
    | 0,_,C=>cases C
    | 1,_,C=>cases C
    | 2,_,C=>cases C
    | 4,_,C=>cases C
    | 5,_,C=>cases C
    | 6,_,C=>cases C
    | 9,ne,_=>exact absurd rfl ne
    | j+10,_,C=>cases C
    ·simp only[eD,fh];wp_walk;have rv:∀t∈jn (is.map bu),∃x:Int,t=bu x/\0<=x/\x<=bits:=λt L=>by
      obtain⟨x,hx,rfl⟩:=aA.mp (List.mem_reverse.mp L);exact⟨x,rfl,hb x hx⟩
     have lv:(is.map bu).reverse.length<=100:=by rw[o8,aG];exact li
     refine Z0 (λj acc m=>10000000000000<=m/\m<=10000000000004+j/\acc=(dw j).map λ_=>dQ du) ⟨by lia,by show 10000000000000+4<=_;lia,rfl⟩ ?_ ?_
     ·rintro i x acc m K3 ex ⟨q0,q1,rfl⟩ hK3;have il:=(aq.mp ex).1;obtain⟨y,rfl,y0,y1⟩:=rv x (aQ ex);wp_walk using rt hn y0 y1 ?_ ?_ (λJ g0 g1=>?_);exact q0;lia;rw[aG,km];lia;exact hK3 _ _ ⟨by lia,by lia,by rw[List.range_succ,dM];rfl⟩
     ·rintro acc m ⟨q0,q1,rfl⟩;wp_walk;refine Uk (cs:=dw _) (f:=λ_=>du) ?_;wp_walk;simp;exact hK2 _ _ _ _ lm
   wp_walk using V3 (λy hy=>?_);lia;lia;rcases hy with rfl|rfl <;> decide;rcases hy with rfl|rfl <;> decide
   ·have y12:ap y<=12:=by rcases hy with rfl|rfl <;> decide
    refine Z0 (λi acc m=>m=m'+i/\∃is:List Int,acc=is.map bu/\fo is=i/\∀x∈is,0<=x/\x<=bits) ⟨rfl,[],rfl,rfl,by simp⟩ ?_ ?_
    ·rintro i x acc m K3 ex ⟨rfl,is,rfl,li,hb⟩ hK3;have il:=(aq.mp ex).1;rw[zgo]at il;wp_walk using Um ?_ ?_ ?_ (λr r0 r1=>?_);lia;lia;lia;rw[aG];lia;exact hK3 _ _ ⟨rfl,is++[r],by rw[dM];rfl,by rw[aO,li];rfl,λx hx=>by rcases au.mp hx with z|z;exact hb x z;cases av.mp z;exact⟨r0,by lia⟩⟩
    ·rintro acc m ⟨rfl,is,rfl,li,hb⟩;rw[zgo]at *;refine⟨is,rfl,by lia,λjs pm pw=>?_⟩;wp_walk;exact fin js _ (by rw[pm.length_eq];lia) (λx hx=>hb x (pm.mem_iff.mp hx)) (by lia)
   exact fin _ m' (by rw[aG,km];lia) (λx hx=>by obtain⟨q,hq,rfl⟩:=aA.mp hx;have:=hY.mp hq;lia) (by lia)
  rintro a7 Y U m' hm';exact hNX _ _ (hK _ _ ⟨_,_,_,_,_,_,_,_,_,rfl,rfl⟩)
 ·rintro ρ m ⟨a1,a2,a3,a4,a5,a6,a7,Y,U,rfl,rfl⟩;wp_walk;exact hh _
end
section
open PySem.W PyProof.Rows
theorem zwR{L6:tH->Option ah}{mg mb:qM}{h:bq}{w:aV}{S:ai}(T0:kQ qv (looseW qv [aa "DEEDS",aa "PARTS",aa "WORDS"]) L6 mg mb h) (U:mg (defName (top 81))=ao (bQ S)) (XT:TupsAre TL mg h) (XD:DctsAre PL FL mg h) (YD:HshOk DL w h) :
  ∃fd:dU,(∀(s:ax) (v:ah),tE s fd ⟨[v],[]⟩ [("_law_script",v)])/\∀base:bq,(J5 h).In base->base.Ns mainGlobals mg->FnOk aH.prog w (J5 h) mg base CX0 11 S fd ["_law_script"] (zrH (J5 h)):=by
 have T:=ztS T0;have LZ:StD aH.prog w (J5 h) mg (aa "PARTS") Zo:=XD.st YD T0.g (by repeat (first|exact jc _|refine .tail _ ?_)) (by repeat (first|exact jc _|refine .tail _ ?_)) (by decide +kernel);have L8:StF aH.prog w (J5 h) mg (aa "DEEDS") ["take","near","give","grow","keep","loose","move"]:=XD.sf YD T0.g (by repeat (first|exact jc _|refine .tail _ ?_)) (by repeat (first|exact jc _|refine jk _ ?_)) (by decide +kernel);have L9:StG (J5 h) mg (aa "WORDS") [aa "out",aa "kept",aa "free"]:=XT.st (by first|exact jc _|exact .tail _ (.head _));obtain⟨f,fd,DL⟩:=dq_g (x:="law") (ps:=["_law_script"]) T0 (zra (i:=81) (by kernel_rfl)) (by kernel_rfl) λ_ _ _ _ _ _ us hl=>by obtain⟨_,rfl⟩:=len1 hl;rfl
 have e0:bQ f=bQ S:=aX (b4 DL.m.symm U);cases e0;refine⟨fd,λs v=>?_,λbase _ _=>?_⟩;obtain⟨oc,od,kV,doc,pm,an,cdv,ct,osl,rfl,_,_⟩:=DL.F.ex;exact .of_eq rfl;let Z:ZZ:=⟨aH.prog,w,J5 h,mg,base⟩;have R:=zjt (Z:=Z) (dqG T0)  T;have Le:=zjw (Z:=Z) (dqG T0) R T;have Ll:=zll (Z:=Z) (dqG T0)  T;have L3:=zna (Z:=Z) (dqG T0)  T;have L7:=zpE (Z:=Z) (dqG T0) L3 T;have Lw:=zhc (Z:=Z) (dqG T0)  T;have LS:=zlq (Z:=Z) (dqG T0)  T;have J:=zm_ (Z:=Z) (dqG T0) Ll T;have LL:=zju (Z:=Z) (dqG T0) Le J T;have LM:=zjz (Z:=Z) (dqG T0) Ll T;have Ld:=zdR (Z:=Z) (dqG T0)  T;have Me:=zsl (Z:=Z) (dqG T0) J Ld T;have L:=zjs (Z:=Z) (dqG T0) Me T;have N:=zlm (Z:=Z) (dqG T0) J T;have L4:=zm9 (Z:=Z) (dqG T0) L N T;have La:=zhe (Z:=Z) (dqG T0)  T;have LR:=zln (Z:=Z) (dqG T0) L La N T;have Lq:=zf2 (Z:=Z) (dqG T0)  T;have LW:=zlk (Z:=Z) (dqG T0) N L Lq La T;have LK:=zjy (Z:=Z) (dqG T0) J T;have Lu:=zhf (Z:=Z) (dqG T0) LK T;have Lg:=zf3 (Z:=Z) (dqG T0) Lu L7 T;have G:=zhg (Z:=Z) (dqG T0)  T;have Y:=zil (Z:=Z) (dqG T0)  T;have Lf:=zjx (Z:=Z) (dqG T0) LR L4 G Y T;have LX:=zlp (Z:=Z) (dqG T0)  T;have Lz:=zim (Z:=Z) (dqG T0) R T;have Lv:=zhd (Z:=Z) (dqG T0) R T;have LU:=zlo (Z:=Z) (dqG T0) Le Lz Lv T;have LV:=zlr (Z:=Z) (dqG T0) LS LU LZ T;have LA:=zin (Z:=Z) (dqG T0)  T;have Lm:=zls (Z:=Z) (dqG T0) LA Lf T;have LC:=zio (Z:=Z) (dqG T0)  T;have Mf:=zsk (Z:=Z) (dqG T0) Lm LC T;have Mg:=zsm (Z:=Z) (dqG T0) Mf LV L8 T;have Lh:=zeW (Z:=Z) (dqG T0) G Y LW Lf T;have Mq:=zu7 (Z:=Z) (dqG T0) Lm Lh T;have LN:=zjv (Z:=Z) (dqG T0) G LL LM LX L9 T;have Lk:=zhb (Z:=Z) (dqG T0) G Y LN Lg Lw T;have LI:=zha (Z:=Z) (dqG T0)  T;have u:=zg_ (Z:=Z) (dqG T0)  T;have C:=zir (Z:=Z) (dqG T0) u T;have LF:=ziy (Z:=Z) (dqG T0) C T;have K8:=zhk (Z:=Z) (dqG T0) C u T;have LD:=zis (Z:=Z) (dqG T0) C K8 T;have Lr:=zf5 (Z:=Z) (dqG T0) u K8 LD C T;have Lj:=zhi (Z:=Z) (dqG T0) Lr T;have Lx:=zhj (Z:=Z) (dqG T0) u C T;have LG:=ziw (Z:=Z) (dqG T0) Lj C u T;have LJ:=zix (Z:=Z) (dqG T0) Lx LF u LG T;have LH:=ziv (Z:=Z) (dqG T0)  T;have Lo:=zit (Z:=Z) (dqG T0)  T;have Ls:=zf4 (Z:=Z) (dqG T0)  T;have Li:=zeX (Z:=Z) (dqG T0) Ls Lo T;have LO:=zjA (Z:=Z) (dqG T0) LH T;have Ly:=zhh (Z:=Z) (dqG T0) Mq LO Lk Li Mg T;exact(zu6 (Z:=Z) DL LI LJ u Ly T).imp zsE
end
end Bd
open PySem PySem.W PyProof.Rows
set_option maxRecDepth 100000 in
set_option maxHeartbeats 0 in
theorem PySem.Challenge.cw_blockdeal_k31_whole_refusals_shown_holds : PySem.Challenge.rw_blockdeal_k31_whole_refusals_shown.Holds := by
 w_on
 refine holds_law Bd.zrL λl=>?_;refine holds_open (r:=aH.row) (d:=Bd.recD (Bd.top 81)) (kwd:=[]) Bd.zsC (YP:=Bd.HshOk Bd.DL) Bd.zwm Bd.zp_ (XP:=λmg h=>XL Bd.qv [] mg h/\Bd.TupsAre Bd.TL mg h/\Bd.DctsAre Bd.PL Bd.FL mg h) (λs e=>⟨xl_of s (cO.mp (cO.mp (cO.mp e).1).1).1,Bd.ztT (cO.mp (cO.mp e).1).2,Bd.zwM (cO.mp e).2⟩) (λmg h h' x k=>⟨XL.keeps mg h h' x.1 k,x.2.1.keeps k,x.2.2.keeps k⟩) (by kernel_rfl) (by kernel_rfl) (by kernel_rfl) (λs e=>recFacts_of (cO.mp (cO.mp (cO.mp e).1).1).2) (by kernel_rfl) l (by kernel_rfl) ⟨rfl,rfl,rfl,rfl,rfl,by decide +kernel⟩ ?hw ?hc
 case hw=>w_witness2
 case hc=>exact Bd.zxB (lw:=aH) (k:=11) (by decide) rfl rfl λw s₀ mg v u h G Y o=>Bd.zwR G.T o G.X.2.1 G.X.2.2 Y