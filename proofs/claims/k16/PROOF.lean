import PyProof.Rows.All
import Wide.All
import OpenK.AllK
import Wide.FinOn
import Lean
import PyProof.EqAt
import PyProof.EqKinds
import PyProof.TupleCall
import PySem.Challenge.RW_blockdeal_k16_fewest_rules
open PySem renaming wpAny_bind->aa,PyData->ab,Value->ae,Addr->af,wpAny_pure->ag,Shared->ak,Program->aO,Expr->aQ,Heap->ba,Around->bc,World->br,Paired->bP,wpAny_holding->bQ,wpAny_standAt->cB,wpAny_call_entry->cG,FuncData->cH,wpAny_mono->cJ,wpAny_truthy_bool->cK,wpAny_newObj_type->df,Builtin->dh,Scope->dD,Stmt->dE,sizeLine_eq->dP,NameKind->dQ,wpAny_typeNameOfWhole_keyiter->dR,wpAny_callSpecial?_slot->dU,DictEntry->d8,wpAny_passesOwn->eE,wpAny_comprehension_free->eP,mem_of_lookup->eS,wpAny_rule->fe,wpAny_Call_Name_kw->ff,builtinLookup_eq_fast->fu,codeAny_mono->fG,wpAny_typeOf->fI,wpAny_attempt->fV,wpAny_newList->fW,codeAny_builtin->f6,tupleKind_room_in1->gf,wpAny_pyIter_list->gv,Keyword->gC,codeAny_compStart_list->gD,wpAny_dictEntries->gM,IsTupleKey->gX,codeAny_call_builtin->hG,wpAny_execs_nil->hJ,typeLookup_type->hV,wpAny_newFunctionEnv_cells->ik,wpAny_assign_Name->iG,Arguments->iT,noFill_tuple_add->iU,wpAny_isInstance->kg,wpAny_pyNext_list_item->kv,wpAny_pyNext_range_end->ky,wpAny_pyIter_rangeiter->kB,wpAny_Call_method_late->kE,call_meets->kF,wpAny_loadPart'->lg,wpAny_dictEpoch->lE,wpAny_pyNext_list_end->lH,exec_Assign_Name_used->lI,wpAny_notOrdered_dict->lL,wpAny_isOneOf_keyiter->lO,wpAny_loadName_local->lS,IsRangeIter->lU,Result->lW,wpAny_of_eq->mh,wpAny_seqItems->mm,wpAny_setField->mo,wpAny_loadName_cell->mI,seq_tuple_add->mQ,wpAny_pyIter_tuple->mV,wpAny_pyIter_range->mW,sub_AttributeError->m8,wpAny_dictSet_heap->m9,concat_meets->nu,seqIndex_neg->nv,slot_list_getitem->ny,codeAny_loop->nB,ExcName->nM,wpAny_pyIter_slot->nN,OsState->nT,wpAny_execs_cons->nX,PassesOwn->nY,seqIndex_of->ou,wpAny_noted->oz,wpAny_field->oJ,codeAny_of_tree->oR,BindsTo->oY,wpAny_Name->o7,Operator->o8,wpAny_bindName->o9,wpAny_load->pd,wpAny_call->pG,typeIs_int->pI,Params->pK,wpAny_newTuple->pP,wpAny_fieldsOf->pT,isSubtype_stop->pU,KeyKind->rL,TriplesOk->sS,Model->sU,PyData->tF,Within->tG,Value->uz,CmpOp->uK,ReadsAll->uU,call->wj
open List renaming getElem?_eq_getElem->ah,getElem?_eq_some_iff->ao,size_toArray->aw,mem_of_getElem?->aB,mem_cons->aC,getElem?_map->aD,length_cons->aE,map_cons->aG,mem_append_right->aH,mem_singleton->aJ,getD_eq_getElem?_getD->aM,length_map->aP,mem_append->aT,replicate->aU,pairwise_iff_getElem->aV,getElem_of_mem->aW,drop_eq_getElem_cons->bf,mem_map->bh,getElem?_eq_none->bp,pairwise_map->bt,getElem?_append_left->bu,length_append->bE,replicate_succ->bG,getElem?_append_right->bH,length_nil->bK,map_map->bR,append_nil->bS,range->bY,find?_cons->cg,mem_cons_of_mem->cw,nodup_cons->cC,lookup_cons->cF,filterMap_cons->cI,map_append->cP,getElem?_set_ne->cR,getElem?_replicate->cS,all_eq_true->cU,not_mem_nil->cV,getElem_mem->cW,take_length->cX,cons_append->cY,length_range->dz,length->dA,nil_append->dB,mem_cons_self->dF,map_snd_zip->dH,map_nil->dM,mem_range->dO,getElem?_cons_succ->dS,of_mem_zip->dW,map_congr_left->dX,getElem?_range->dY,mem_map_of_mem->dZ,length_reverse->d0,mem_filterMap->d9,pairwise_cons->ef,nodup_iff_pairwise_ne->eh,getElem?_reverse->eC,mem_append_left->eH,pairwise_append->eO,length_take->eW,take_succ->eY,getElem?_cons_zero->e8,mem_filter->fj,flatten_cons->fv,getElem?_inj->fy,drop_length->fH,map_fst_zip->fJ,mem_reverse->fL,replicate_zero->fQ,getD_cons_succ->fR,getD_cons_zero->fS,getElem?_take_of_lt->fT,foldl_cons->fZ,find?_eq_none->gj,set_cons_succ->gk,set_cons_zero->gm,pairwise_singleton->gr,getElem?_set_self->gu,getElem?_set->gE,mapM_toArray->gH,nodup_append->gN,length_replicate->gQ,all_toArray->gW,any_eq_true->gY,any_map->hZ,forIn_nil->iy,mem_of_find?_eq_some->iE,any_eq_false->iI,append_assoc->iJ,ext_getElem?->iK,length_erase_of_mem->iN,take_of_length_le->kO,length_pos_of_mem->kQ,length_set->lh,forIn_cons->lu,length_filter_le->lK,mem_iff_getElem?->lR,mem_erase_of_ne->mj,getElem?_of_mem->mD,length_pos_iff->mP,zip_cons_cons->m4,filter_append->m7,find?_append->nS,perm_middle->n9,mem_flatMap->oh,filter_cons->oo,countP_cons->oq,ext_getElem->ot,find?_some->oW,range_succ->oX,foldl->pJ,take_nil->su,drop_nil->sv,any_cons->sE,sum_cons->sN,lookup->uQ,map_id->uZ
open PySem.Heap renaming get?_push_of_some->aj,lt_size->ax,get?_push_size->aA,size_update->bM,get?_push_ne->bO,SameBut->c9,get?_update_ne->eT,get?_update_self->gR,get?_update_other->kD,NewAttrErr->lC,size_push->l4,ExtBut->oH
open Nat renaming lt_of_lt_of_le->aq,le_refl->av,ne_of_lt->ay,lt_or_ge->bw,le_trans->bA,zero_le->bX,lt_trichotomy->cM,le_succ->cT,zero_add->eJ,lt_irrefl->fk,pow_le_pow_right->fC,ne_of_gt->fF,testBit_succ->fK,pow_succ->gJ,mod_eq_zero_of_dvd->gK,dvd_of_mod_eq_zero->gL,sub_self->gP,le_of_lt->hY,add_sub_cancel->iz,lt_of_le_of_lt->iB,lt_succ_of_lt->iL,le_of_not_lt->iW,lt_succ_self->iX,shiftLeft_eq->iZ,testBit_zero->ka,mul_comm->kG,sub_zero->kM,lt_trans->kT,testBit_and->lB,min_eq_left->lF,eq_of_testBit_eq->mi,eq_zero_or_pos->m6,lt_or_eq_of_le->ng,le_of_lt_succ->nU,not_lt_zero->oM,and_le_left->oT,mul_assoc->sC,succ_mul->tO,add_comm->tP,min_self->tR,le_total->tU,le_of_eq->t5,one_mul->uT
open Option.some renaming inj->au
open Bool renaming false_eq_true->aI,false_ne_true->aL,and_eq_true->bL,eq_iff_iff->cO,not_false->eX,not_true->fq,not_eq_true'->gO,true_and->g9,and_true->iM,beq_eq_decide_eq->lJ,false_and->lT,and_false->lY,or_eq_false_iff->l6,and_eq_true_iff->mE,or_eq_true->oU
open Int renaming le_refl->aK,pow_succ->aY,dvd_of_emod_eq_zero->bg,mul_le_mul_of_nonneg_right->bz,one_mul->bI,mul_comm->bZ,mul_assoc->ck,add_mul->cA,emod_eq_zero_of_dvd->cZ,toNat_natCast->dm,natCast_pow->eG,lt_or_le->eM,mul_le_mul_of_nonneg_left->e9,le_of_lt->fh,pow_add->fD,mul_neg_of_pos_of_neg->fN,lt_trichotomy->gF,natCast_zero->gZ,zero_add->h8,natCast_nonneg->ic,fdiv_eq_ediv_of_nonneg->ig,lt_of_mul_lt_mul_right->iA,emod_lt_of_pos->iC,lt_of_mul_lt_mul_left->iD,mul_one->iH,eq_ofNat_of_zero_le->iY,ediv_le_self->kb,natCast_succ->kh,ediv_ediv_of_nonneg->km,le_ediv_iff_mul_le->kH,ediv_lt_iff_lt_mul->kI,add_mul_ediv_right->kJ,ediv_eq_zero_of_lt->kK,le_trans->kP,pow_zero->kY,ediv_nonneg->lD,emod_nonneg->lG,toNat_of_nonneg->mL,mul_ediv_cancel->mO,add_comm->nF,add_emod->nK,mul_emod_left->nL,sub_mul->oB,mul_add->oF,emod_two_eq->oS
open PySem.Str renaming ofString->aN,empty->gT
open Iff renaming rfl->aR
open PySem.Value renaming ref->aX,type->aZ,none->fz,int->iS,bool->ku,str->nW,isStrOf->rK,isInt->uA,float->uB
open PySem.PyData renaming int->bo,canLayAll0->bB,depthAll->cf,hasDict_of_canLay->cj,eqv->cq,hasDict->cy,canLay0->cz,eqvAll->cE,depth->d4,bool->d7,hasDictAll->fx,tuple->kZ,none->l5,dict->oA,list->uV
open PySem.PassesOwn renaming never->bq
open PySem.W renaming kia_one->bC,boot_heap->cN,fnOf->dJ,kitx_dict->eI,keepIn->fB,cellsFrom_some->gx,codeIn->gy,methodObj->iF,boot_drawn->kX,instObj->k8,lookIn->lV,boot_toks->mH,kitx_tuple->mX,callWith_K->mZ,kitx_list->nq,plainGet->nZ,findIn->pE,kitOne->pF,TabsAt->pY,ghost_get->tB,SharedT->t4
open Classical renaming byContradiction->bF,choose_spec->cn,choose->gV
open PySem.Obj renaming mapSeq->bJ,data_mapFields->gh,isFreed_of_fields->lP,mapFields->mU,cls_mapFields->nQ
open PyProof.Rows renaming wpS_bind->bN,size_push'->cQ,callWith_type1->c8,wpS_pure->dw,listItems_at->eK,IntsAre->fg,wpS_forRange->gG,Top->g6,listUpdate_at->hE,get?_update_seq->hU,AllBare->hX,assignInOrder_cons->ib,SortKind->iw,subscriptTail_builtinR->kC,pairsOf_size->kN,entry_list_sort->lA,SortSt->l8,wpS_reverse->l9,mirror_perm->ma,slot_list_sort->mf,Keyed->mT,assignInOrder_nil->nj,wpS_get->nG,plain_sorted->nI,entry_sorted->nJ,callWith_builtin1->n8,seqEpoch_at->oC,kind_sorted->oD,boot_sorted->oE,oneTypeOnly'_eq->oQ,IsTup->o6,boot_range->pf,Subscript_->pH,wpS_mono->pN,wpS_modify->pO,args_list_sort->pQ,wpS_lift->uW,ksk_rest->ve,lt_int->vy
open ForInStep renaming yield->bT
open PySem.Builtin.Range renaming rangeSize->bU,small->mM,rangeFitsLong->oZ
open PySem.Builtin renaming bitXor->bV,bitNot->eZ,bitAnd->fA
open PySem.NameKind renaming free->bW,cell->ft
open PySem.F renaming slot_dict_keyiterator_next->cc,slot_list_reversed->eo,slot_list_getattribute->eQ,args_dict_keyiterator_next_1->fP,args_tuple_add_2->fU,entry_dict_keyiterator_next->fY,entry_tuple_add->gn,plainAttrs_list->gq,slot_tuple_add->gz,slot_list_extend->iO,type_list_extend->iP,slot_tuple_index->iR,slot_dict_iter->kW,slot_dict_len->lM,args_list_extend_2->lZ,entry_list_extend->mK,slot_list_extend->m5,slot_int_rmul->oK
open False renaming elim->cm
open Prod renaming ext->cx,fst->mw,snd->pW
open PySem.PyData.dict renaming inj->cD,injEq->nD
open Option renaming map_eq_some_iff->dr,getD_some->dG,map_some->eF,getD_none->iV,isSome_some->nc
open PySem.Paired renaming length->dI
open PySem.Builtin.List renaming listTooLong->dN,listExtendWith->d5,listItems->fi,listSameRef->sD,listUpdate->tm
open Or renaming inl->d6,inr->og
open Array renaming getElem?_eq_getElem->eD,perm_iff_toList_perm->fE,length_toList->fO,getElem?_toList->gS,getElem?_eq_none->kU,toArray_toList->my,toList_append->mN,size_append->nH,toList_map->oe,toList->tH
open List.cons renaming inj->eR,injEq->ly
open PySem.Builtin.Int renaming intBits->eU
open PySem.Heap.SameBut renaming update->eV,refl->nC
open Ne renaming symm->fc
open Function renaming comp_def->fw,comp->sI
open PySem.Calls renaming call_function_entry->fM,callWith_builtin->gA,Name_function_global->ia,evalArgs_plain->lX,call_len_list->mJ,spliced_cons->mY,spliced_nil->nt
open List.Pairwise renaming imp_of_mem->fX,filterMap->tD,nil->xk,and->xl,imp->xq
open PySem.SeqAt.EqAt renaming int_int->f7
open PySem.Code renaming quiet_builtin->f9
open True renaming intro->gU
open PySem.W.Hook renaming none->g7,obs->vm,val->vn
open Sum renaming inl->g8,inr->mF
open PySem.Builtin.Dict_items renaming ownsTuple->hW
open PySem.Builtin.Dict renaming addKeywords->iQ,updateFrom->kf,showsAll->lN,pendingCount->rF,dictSlotNone->rG,selfAndRest->sG,pairItems->tY
open PySem.Heap.DictOfH renaming new->kc
open PySem.W.RowW renaming records->k6
open PySem.AutoListH renaming list___reversed___list_0->lQ
open Prod.mk renaming inj->mn,injEq->mS
open Std.Legacy.Range renaming forIn_eq_forIn_range'->mz,size->um
open PySem.MeetsSeq.EqGives renaming int->mC
open And renaming intro->mG
open PySem.SeqAt renaming EqAt->m3
open PySem.PyData.list renaming injEq->nE
open PySem.Builtin.SmallTypes renaming stopIteration->nR
open PySem.Builtin.Tuple renaming tupleCompareSizes->nV,tupleHashOf->rE
open PySem.Heap.ExtBut renaming push->oj
open List.forIn' renaming loop->om
open Array.Perm renaming refl->oP
open PySem.PyData.int renaming inj->pV
open PySem.Manifest renaming find?->pX
open PySem.EqNone renaming eq_none_none->p5,eq_none_bool->p7,eq_bool_none->p9,ne_none_none->rh,ne_none_bool->rm,ne_bool_none->rn,eq_none_int->rO,eq_none_str->rP,eq_int_none->rQ,eq_str_none->rS,ne_none_int->rV,ne_none_str->rW,ne_int_none->rX,ne_str_none->rZ
open PySem.EqMixed renaming eq_bool_str->rf,eq_str_bool->rg,ne_bool_str->rq,ne_str_bool->rA,eq_int_str->rR,eq_str_int->rT,ne_int_str->rY,ne_str_int->r8
open PySem.Data renaming fields->uH,cell->xG,func->ym
open PySem.Walks renaming range->uI
open PySem.IsRange renaming new->uJ
open PySem.Heap.IsSliceOf renaming new->v8
open PySem.W.WShape renaming has->wg
open PyProof.Rows.SortSt renaming mk'->wo
open PySem.Flow renaming next->xF
open PySem.W.WData renaming int->xY
open PySem.PyData.tuple renaming inj->yg
local macro_rules | `(tactic| walk_at "V") => `(tactic| first | exact Or.inl rfl | exact Or.inr (Or.inl rfl) | exact Or.inr (Or.inr rfl))
local macro_rules | `(tactic| walk_at "F") => `(tactic| first | exact .inl rfl | exact .inr rfl | assumption)
abbrev qF:=PySem.W.Frag
abbrev qB:=List (Int×Int)
abbrev qN:=tF->Nat->Prop
abbrev qM:=PySem.Str->Option uz
abbrev qV:=uz->PySem.Shared->Prop
abbrev qD:=List tF
abbrev qO:=List (PySem.Addr×PySem.Obj)
set_option Elab.async false
set_option linter.all false
set_option maxRecDepth 100000
set_option maxHeartbeats 4000000
namespace L2
open PySem PySem.Spec PyProof.Rows
abbrev Key:=Sum Int Str
def UK:Key->ae->Bool
 | .inl k,v=>uA k v
 | .inr x,v=>rK x v
def keyH(w:br):Key->Int
 | .inl k=>hashInt k
 | .inr x=>hashStr w x
theorem QV:∀{k:Key}{v:ae},UK k v=true->(∃i t,k=g8 i/\v=iS i t)\/(∃x t,k=mF x/\v=nW x t)
 | .inl i,v,h=>by obtain⟨t,e⟩:=Value.isInt_shape (k:=i) (v:=v) h;exact .inl ⟨i,t,rfl,e⟩
 | .inr x,v,h=>by obtain⟨t,e⟩:=Value.isStrOf_shape (x:=x) (v:=v) h;exact .inr ⟨x,t,rfl,e⟩
theorem zee(i:Int)(t:Tok):UK (.inl i) (.int i t)=true:=by simp[UK,uA]
theorem zlB(x:Str)(t:Tok):UK (.inr x) (.str x t)=true:=by simp[UK,rK]
theorem zrU(a b:Int):decide ((g8 a:Key)=g8 b)=(a == b):=by by_cases e:a=b;subst e;simp;have h:¬(g8 a:Key)=g8 b:=fun q=>e (Sum.inl.inj q);rw[decide_eq_false h];exact(beq_eq_false_iff_ne.mpr e).symm
theorem zrR(a b:Str):decide ((mF a:Key)=mF b)=decide (a=b):=by by_cases e:a=b;subst e;simp;have h:¬(mF a:Key)=mF b:=fun q=>e (Sum.inr.inj q);rw[decide_eq_false h,decide_eq_false e]
theorem zrT(a:Int)(b:Str):decide ((g8 a:Key)=mF b)=false:=decide_eq_false (fun q=>nomatch q)
theorem zrS(a:Str)(b:Int):decide ((mF a:Key)=g8 b)=false:=decide_eq_false (fun q=>nomatch q)
def JA(prog:aO)(w:br):rL prog w Key where
 is:=UK
 hash:=keyH w
 inj:=fun v a b C o=>by rcases QV C with⟨i,t,rfl,rfl⟩|⟨x,t,rfl,rfl⟩;rcases QV o with⟨j,u,rfl,e⟩|⟨y,u,rfl,e⟩;injection e with e1 _;rw[e1];exact nomatch e;rcases QV o with⟨j,u,rfl,e⟩|⟨y,u,rfl,e⟩;exact nomatch e;injection e with e1 _;rw[e1]
 byValue:=fun k v h=>by rcases QV h with⟨i,t,rfl,rfl⟩|⟨x,t,rfl,rfl⟩ <;> rfl
 pyHash:=fun l h=>by rcases QV l with⟨i,t,rfl,rfl⟩|⟨x,t,rfl,rfl⟩;exact wpAny_pyHash_int h;exact wpAny_pyHash_str h
 eqBool:=fun G l h=>by rcases QV G with⟨i,t,rfl,rfl⟩|⟨x,t,rfl,rfl⟩;rcases QV l with⟨j,u,rfl,rfl⟩|⟨y,u,rfl,rfl⟩;rw[zrU]at h;exact wpAny_eqBool_int h;rw[zrT]at h;exact SeqAt.EqAt.int_str i t y u _ _ _ _ h;rcases QV l with⟨j,u,rfl,rfl⟩|⟨y,u,rfl,rfl⟩;rw[zrS]at h;exact SeqAt.EqAt.str_int x t j u _ _ _ _ h;rw[zrR]at h;exact wpAny_eqBool_str h
 «strs»:=fun k x t v h=>by rcases QV h with⟨i,u,rfl,e⟩|⟨y,u,rfl,e⟩;exact nomatch e;injection e with e1 _;subst e1;cases v <;> rfl
theorem zhO(prog:aO)(w:br)(i:Int)(t:Tok):(JA prog w).is (.inl i) (.int i t)=true:=zee i t
theorem zhN(prog:aO)(w:br)(x:Str)(t:Tok):(JA prog w).is (.inr x) (.str x t)=true:=zlB x t
inductive V where
 | non|bl (b:Bool)|int (i:Int)|str (x:Str)|byt (b:Array UInt8)|flt (b:UInt64)|ref (a:af)|ty (n:String)
 deriving DecidableEq
def RelV:V->ae->Prop
 | .non,u=>u=fz
 | .bl b,u=>u=ku b
 | .int i,u=>∃t,u=iS i t
 | .str x,u=>∃t,u=nW x t
 | .byt b,u=>∃t,u=Value.bytes b t
 | .flt b,u=>∃t,u=uB b t
 | .ref a,u=>u=aX a
 | .ty n,u=>u=aZ n
abbrev Vals:List V->List ae->Prop:=bP RelV
theorem Vals.length{xs:List V}{l:List ae}(r:Vals xs l):xs.length=l.length:=dI r
theorem Vals.get:∀{xs:List V}{v:List ae}{i:Nat}{x:V},Vals xs v->xs[i]?=some x->∃u,v[i]?=some u/\RelV x u
 | _,_,_,_,.nil,e=>by simp at e
 | _,_,0,_,.cons r _,e=>by simp at e;subst e;exact⟨_,rfl,r⟩
 | _,_,i+1,x,.cons _ t,e=>by obtain⟨u,y,C⟩:=Vals.get (i:=i) (x:=x) t (by simpa using e);exact⟨u,by simpa using y,C⟩
theorem Vals.set{x:V}{u:ae}(r:RelV x u):∀{xs:List V}{v:List ae} (i:Nat),Vals xs v->Vals (xs.set i x) (v.set i u)
 | _,_,_,.nil=>.nil
 | _,_,0,.cons _ t=>.cons r t
 | _,_,i+1,.cons q t=>.cons q (Vals.set r i t)
theorem Vals.append{xs ys:List V}{l u:List ae}(h:Vals xs l)(s:Vals ys u):Vals (xs++ys) (l++u):=by
 induction h with
 | nil=>exact s
 | cons r _ v=>exact .cons r v
theorem Vals.take:∀{xs:List V}{u:List ae} (n:Nat),Vals xs u->Vals (xs.take n) (u.take n)
 | _,_,0,_=>.nil
 | _,_,_+1,.nil=>.nil
 | _,_,n+1,.cons r t=>.cons r (Vals.take n t)
theorem Vals.drop:∀{xs:List V}{u:List ae} (n:Nat),Vals xs u->Vals (xs.drop n) (u.drop n)
 | _,_,0,r=>r
 | _,_,_+1,.nil=>.nil
 | _,_,n+1,.cons _ t=>Vals.drop n t
def RelO:Option V->Option ae->Prop
 | some v,some u=>RelV v u
 | none,none=>True
 | _,_=>False
def KV{l:Type}:List (l×V)->List (l×ae)->Prop:=bP fun(p:l×V) (q:l×ae)=>p.1=q.1/\RelV p.2 q.2
def kV:Key->V
 | .inl i=>.int i
 | .inr x=>.str x
inductive HO where
 | lst (xs:List V)
 | tup (xs:List V)
 | dK (kvs:List (Key×V))|dT (kvs:List (List Key×V))
 | set (S:Int->Bool) (n:Nat)
 | ins (C dx:af) (fs:List (Str×V))
 | own (x:af)
 | xd (fs:List (Str×V))
 | met (f x:af)
 | rng (lo hi:Int)
 | frz (o:Obj) (u:HO)
 | tbl (q:Str)
 | ext (φ:ba->Prop)
abbrev Hp:=af->Option HO
def upd(H:Hp)(a:af)(o:HO):Hp:=fun b=>if b=a then some o else H b
theorem JB{H:Hp}{a:af}{o:HO}:upd H a o a=some o:=by unfold upd;rw[if_pos rfl]
theorem Jg{H:Hp}{a b:af}{o:HO}(h:b≠a):upd H a o b=H b:=by unfold upd;rw[if_neg h]
theorem Qq{H:Hp}{a b:af}{o:HO}(h:H a=some o)(h':H b=none):a≠b:=by intro e;subst e;rw[h]at h';cases h'
def IsTD(h:ba)(a:af)(items:Array ae):Prop:=∃o,h.get? a=some o/\o.cls=.type "tuple" /\ (∃n,o.data=.seq items n)/\o.dict=none
theorem IsTD.tup{h:ba}{a:af}{items:Array ae}(x:IsTD h a items):o6 h a items:=by obtain⟨o,e,c,d,_⟩:=x;exact⟨o,e,c,d⟩
theorem IsTD.lt{h:ba}{a:af}{items:Array ae}(x:IsTD h a items):a<h.objs.size:=x.tup.lt
theorem IsTD.new(h:ba)(items:Array ae):IsTD (h.push { cls:=.type "tuple",data:=.seq items }) h.objs.size items:=⟨_,aA _ rfl,rfl,⟨_,rfl⟩,rfl⟩
def TabOk(H:Hp)(q:Str)(ps:Array ae):Prop:=sS ps.toList/\∀(pos:Pos) (cv:ae),codeAmong pos ps.toList=some cv->∃(c:af) (o:Obj) (u:HO) (v:Array ae) (t:Tok),cv=.ref c/\H c=some (.frz o u)/\o.data=.fields v/\v[1]?=some (.str q t)
section
variable(P:aO)(w:br)
def JI(H:Hp)(h:ba)(a:af):HO->Prop
 | .lst xs=>xs.length<=sizeLine/\∃(its:List ae) (n:Nat),Vals xs its/\h.get? a=some { cls:=.type "list",data:=.seq its.toArray n }
 | .tup xs=>xs.length<=sizeLine/\∃its:List ae,Vals xs its/\IsTD h a its.toArray
 | .dK G=>G.length<=sizeLine/\(a == sysModules)=false/\∃Y,KV G Y/\h.DictOf (JA P w) a Y
 | .dT G=>G.length<=sizeLine/\(a == sysModules)=false/\∃xs:List (List Key×af×ae),
   bP (fun(p:List Key×V) (q:List Key×af×ae)=>p.1=q.1/\H q.2.1=some (.tup (p.1.map kV))/\RelV p.2 q.2.2) G xs /\
   ∃o es ep,h.get? a=some o/\o.ExactDict/\o.data=.dict es ep/\es.toList=xs.map (entryOfKey (tupleKind (JA P w)))/\(xs.map (·.1)).Nodup
 | .set S n=>h.SetOf (intKind P w) a S n
 | .ins C J fs=>H J=some (.own a)/\fs.length<=1000/\J≠a/\h.get? a=some (k8 C J) /\
   ∃I,h.Ns1 J I/\(∀f,RelO (fs.lookup f) (I f))/\tG I (fs.map (·.1))
 | .own _=>∃o,h.get? a=some o
 | .xd fs=>∃I,h.Ns1 a I/\∀f,RelO (fs.lookup f) (I f)
 | .rng lo hi=>∃t u v,h.get? a=some { cls:=.type "range",data:=.fields #[.int lo t,.int hi u,.int 1 v] }
 | .frz o u=>h.get? a=some o/\JI H h a u
 | .tbl q=>∃ps:Array ae,h.get? a=some { cls:=.none,data:=.fields ps }/\TabOk H q ps
 | .met f x=>h.get? a=some (iF (.ref f) (.ref x))
 | .ext L=>L h/\(∃o,h.get? a=some o)/\∀U R:ba,L U->(∀o,U.get? a=some o->R.get? a=some o)->L R
def HOk(H:Hp)(h:ba):Prop:=∀a o,H a=some o->JI P w H h a o
end
section
variable{P:aO}{w:br}{H H':Hp}{h h':ba}{a:af}{o:HO}
theorem JI.lt(x:JI P w H h a o):a<h.objs.size:=by
 cases o with
 | lst xs=>obtain⟨_,_,_,_,e⟩:=x;exact ax e
 | tup xs=>obtain⟨_,_,_,p⟩:=x;exact p.lt
 | dK l=>obtain⟨_,_,_,_,o,_,_,e,_⟩:=x;exact ax e
 | dT l=>obtain⟨_,_,_,_,o,_,_,e,_⟩:=x;exact ax e
 | set S n=>obtain⟨o,_,_,_,e,_⟩:=x;exact ax e
 | ins C I fs=>obtain⟨_,_,_,e,_⟩:=x;exact ax e
 | own y=>obtain⟨_,e⟩:=x;exact ax e
 | xd fs=>obtain⟨_,⟨_,_,_,e,_⟩,_⟩:=x;exact ax e
 | rng lo hi=>obtain⟨_,_,_,e⟩:=x;exact ax e
 | frz G u=>obtain⟨e,_⟩:=x;exact ax e
 | tbl q=>obtain⟨_,e,_⟩:=x;exact ax e
 | met f y=>exact ax (show h.get? a=some _ from x)
 | ext v=>obtain⟨_,⟨_,e⟩,_⟩:=x;exact ax e
theorem Paired.mapP{α x:Type}{F G:α->x->Prop}{u:List α}{v:List x}(h:bP F u v)(f:∀a b,F a b->G a b):bP G u v:=by
 induction h with
 | nil=>exact .nil
 | cons r _ y=>exact .cons (f _ _ r) y
theorem JI.stay(x:JI P w H h a o)(k:∀b u,(b=a\/H b=some (.own a))->h.get? b=some u->h'.get? b=some u)
  (R:∀b,H b=some (.own a)->H' b=some (.own a)) (Z:∀b xs,H b=some (.tup xs)->H' b=some (.tup xs)) (hf:∀b G u,H b=some (.frz G u)->H' b=some (.frz G u)):JI P w H' h' a o:=by
 induction o with
 | lst xs=>obtain⟨z,its,n,r,e⟩:=x;exact⟨z,its,n,r,k _ _ (.inl rfl) e⟩
 | tup xs=>obtain⟨z,its,r,G,e,c⟩:=x;exact⟨z,its,r,G,k _ _ (.inl rfl) e,c⟩
 | dK I=>obtain⟨z,y,N,r,G,es,ep,e,c⟩:=x;exact⟨z,y,N,r,G,es,ep,k _ _ (.inl rfl) e,c⟩
 | dT I =>obtain⟨z,y,xs,r,G,es,ep,e,c⟩:=x;exact⟨z,y,xs,Paired.mapP r fun p q z=>⟨z.1,Z _ _ z.2.1,z.2.2⟩,G,es,ep,k _ _ (.inl rfl) e,c⟩
 | set S n=>obtain⟨G,es,ep,t,e,c⟩:=x;exact⟨G,es,ep,t,k _ _ (.inl rfl) e,c⟩
 | ins C dx fs =>obtain⟨d,z,ne,e,L,⟨J,es,ep,e2,c⟩,r⟩:=x;exact⟨R _ d,z,ne,k _ _ (.inl rfl) e,L,⟨J,es,ep,k _ _ (.inr d) e2,c⟩,r⟩
 | own y=>obtain⟨G,e⟩:=x;exact⟨G,k _ _ (.inl rfl) e⟩
 | xd fs=>obtain⟨L,⟨J,es,ep,e,c⟩,r⟩:=x;exact⟨L,⟨J,es,ep,k _ _ (.inl rfl) e,c⟩,r⟩
 | rng lo hi=>obtain⟨t,u,v,e⟩:=x;exact⟨t,u,v,k _ _ (.inl rfl) e⟩
 | frz G u U=>obtain⟨e,q⟩:=x;exact⟨k _ _ (.inl rfl) e,U q⟩
 | tbl q =>obtain⟨ps,e,z,r⟩:=x;refine⟨ps,k a _ (.inl rfl) e,z,fun pos cv m=>?_⟩;obtain⟨c,o,u,N,t,e1,e2,Y⟩:=r pos cv m;exact⟨c,o,u,N,t,e1,hf _ _ _ e2,Y⟩
 | met f y =>have e:h.get? a=some (iF (.ref f) (.ref y)):=x;show h'.get? a=some (iF (.ref f) (.ref y));exact k a _ (.inl rfl) e
 | ext φ=>obtain⟨p,⟨o,e⟩,st⟩:=x;exact⟨st _ _ p fun o q=>k _ _ (.inl rfl) q,⟨o,k _ _ (.inl rfl) e⟩,st⟩
theorem HOk.lt(x:HOk P w H h)(e:H a=some o):a<h.objs.size:=(x a o e).lt
theorem HOk.fresh(x:HOk P w H h)(e:h.objs.size<=a):H a=none:=by
 cases q:H a with
 | none=>rfl
 | some u=>exact absurd (aq (x.lt q) e) (fk _)
theorem HOk.kept(x:HOk P w H h)(k:∀b u,h.get? b=some u->h'.get? b=some u):HOk P w H h':=fun a o e =>
 (x a o e).stay (fun b u _ q=>k b u q) (fun _ q=>q) (fun _ _ q=>q) fun _ _ _ q=>q
theorem HOk.laid(x:HOk P w H h)(k:∀b u,h.get? b=some u->h'.get? b=some u)(C:h.objs.size<=a)(new:JI P w (upd H a o) h' a o):HOk P w (upd H a o) h':=fun b u e=>by have l:=x.fresh C;by_cases hb:b=a;subst hb;rw[JB]at e;cases e;exact new;rw[Jg hb]at e;exact(x b u e).stay (fun c v _ q=>k c v q) (fun c q=>by rw[Jg (Qq q l)];exact q) (fun c xs q=>by rw[Jg (Qq q l)];exact q) fun c G xs q=>by rw[Jg (Qq q l)];exact q
end
def Rd(H:Hp)(a:af)(u:HO):Prop:=H a=some u\/∃o,H a=some (.frz o u)
theorem Rd.ok{P:aO}{w:br}{H:Hp}{h:ba}{a:af}{u:HO}(r:Rd H a u)(x:HOk P w H h):JI P w H h a u:=by rcases r with r|⟨o,r⟩;exact x a u r;obtain⟨_,q⟩:=x a _ r;exact q
def Mut:Option HO->Prop
 | some (.lst _)=>True
 | some (.dK _)=>True
 | some (.dT _)=>True
 | some (.set _ _)=>True
 | some (.ins _ _ _)=>True
 | some (.ext _)=>True
 | _=>False
section
variable{P:aO}{w:br}{H:Hp}{h h':ba}{x e:af}{o':HO}
theorem HOk.write(ok:HOk P w H h)(l:Mut (H x))(he:e=x\/H e=some (.own x))(k:∀b u,b≠e->h.get? b=some u->h'.get? b=some u)(J:∃u,h'.get? e=some u)
  (new:JI P w (upd H x o') h' x o'):HOk P w (upd H x o') h':=fun b u q=>by
 have N:∀c y,H c=some (.own y)->c≠x:=fun c y r z=>by subst z;rw[r]at l;exact l
 have C:∀c xs,H c=some (.tup xs)->c≠x:=fun c xs r z=>by subst z;rw[r]at l;exact l
 have G:∀c I xs,H c=some (.frz I xs)->c≠x:=fun c I xs r z=>by subst z;rw[r]at l;exact l
 by_cases hb:b=x;subst hb;rw[JB]at q;cases q;exact new;rw[Jg hb]at q;by_cases hbe:b=e;have L:H b=some (.own x):=by rcases he with z|z;exact absurd (hbe.trans z) hb;rw[hbe];exact z
 rw[q]at L;cases L;obtain⟨v,R⟩:=J;exact⟨v,by rw[hbe];exact R⟩;refine(ok b u q).stay (fun c v hc r=>k c v ?_ r) (fun c r=>by rw[Jg (N c b r)];exact r) (fun c xs r=>by rw[Jg (C c xs r)];exact r) fun c I xs r=>by rw[Jg (G c I xs r)];exact r
 rcases hc with rfl|hc;exact hbe;rintro rfl;rcases he with z|z;exact N c b hc z;rw[hc]at z;cases z;exact hb rfl
end
structure Un(fs ex:List af)(H H':Hp)(h h':ba):Prop where
 keep:∀b o,h.get? b=some o->H b=none->b∉fs->b∉ex->h'.get? b=some o
 slot:∀b o,h.get? b=some o->H b=none->b∈fs->b∉ex->∃sl,h'.get? b=some { o with slots:=sl }
 free:∀b o,h.get? b=some o->H b=none->b∉ex->H' b=none
 there:∀b o,h.get? b=some o->b∉ex->∃o',h'.get? b=some o'
 tups:∀b xs,H b=some (.tup xs)->H' b=some (.tup xs)
 frzs:∀b o u,H b=some (.frz o u)->H' b=some (.frz o u)
 tbls:∀b q,H b=some (.tbl q)->H' b=some (.tbl q)
section
variable{fs fs' ex ex':List af}{H H1 H2:Hp}{h h1 h2 h':ba}{a x e:af}{o:HO}
theorem Un.any(u:Un fs ex H H1 h h1){b:af}{l:Obj}(q:h.get? b=some l)(n:H b=none)(hx:b∉ex):∃v,h1.get? b=some { l with slots:=v }:=by by_cases hb:b∈fs;exact u.slot b l q n hb hx;exact⟨l.slots,u.keep b l q n hb hx⟩
theorem Un.kept(k:∀b u,h.get? b=some u->h'.get? b=some u):Un fs ex H H h h' :=
 ⟨fun b l q _ _ _=>k b l q,fun b l q _ _ _=>⟨l.slots,k b l q⟩,fun _ _ _ n _=>n,fun b l q _=>⟨l,k b l q⟩,fun _ _ q=>q,fun _ _ _ q=>q,fun _ _ q=>q⟩
theorem Un.refl:Un fs ex H H h h:=Un.kept fun _ _ q=>q
theorem Un.laid(k:∀b u,h.get? b=some u->h'.get? b=some u)(v:h.objs.size<=a)(l:H a=none):Un fs ex H (upd H a o) h h' where
 keep:=fun b u q _ _ _=>k b u q
 slot:=fun b u q _ _ _=>⟨u.slots,k b u q⟩
 free:=fun b u q n _=>by rw[Jg (ay (aq (ax q) v))];exact n
 there:=fun b u q _=>⟨u,k b u q⟩
 tups:=fun b xs q=>by rw[Jg (Qq q l)];exact q
 frzs:=fun b u xs q=>by rw[Jg (Qq q l)];exact q
 tbls:=fun b ps q=>by rw[Jg (Qq q l)];exact q
theorem Un.write(l:Mut (H x))(he:e=x\/H e=some (.own x))(k:∀b u,b≠e->h.get? b=some u->h'.get? b=some u)(v:∃u,h'.get? e=some u):Un fs ex H (upd H x o) h h':=by
 have hx:∀b,H b=none->b≠x:=fun b n z=>by subst z;rw[n]at l;exact l
 have C:∀b,H b=none->b≠e:=fun b n z=>by subst z;rcases he with r|r;exact hx b n r;rw[n]at r;cases r
 have y:∀b u,H b=some u->¬Mut (some u)->b≠x:=fun b u q nm z=>by subst z;rw[q]at l;exact nm l
 refine⟨fun b u q n _ _=>k b u (C b n) q,fun b u q n _ _=>⟨u.slots,k b u (C b n) q⟩,fun b u q n _=>by rw[Jg (hx b n)];exact n,fun b u q _=>?_,
  fun b xs q=>by rw[Jg (y b _ q fun z=>z)];exact q,fun b u xs q=>by rw[Jg (y b _ q fun z=>z)];exact q,fun b ps q=>by rw[Jg (y b _ q fun z=>z)];exact q⟩
 by_cases hbe:b=e;subst hbe;exact v;exact⟨u,k b u hbe q⟩
end
def trk(h:ba)(H:Hp):List af:=(bY h.objs.size).filter fun a=>(H a).isSome
def hidT(h:ba)(H:Hp):ba:=PySem.W.hideAll h (trk h H)
theorem zlL(h:ba)(H:Hp):(hidT h H).objs.size=h.objs.size:=PySem.W.hideAll_size _ _
theorem znG{h:ba}{H:Hp}{b:af}{o:Obj}(e:h.get? b=some o)(n:H b=none):(hidT h H).get? b=some o :=
 PySem.W.hideAll_get _ e fun l=>by have q:(H b).isSome=true:=(fj.mp l).2;rw[n]at q;simp at q
theorem zpp{h:ba}{H:Hp}{b:af}{o:Obj}(e:(hidT h H).get? b=some o):h.get? b=some o/\H b=none:=by
 have l:h.get? b=some o:=PySem.W.of_hideAll (trk h H) e;refine⟨l,?_⟩;cases q:H b with
 | none=>rfl
 | some x =>have u:b∈trk h H:=fj.mpr ⟨dO.mpr (ax l),by simp[q]⟩;have z:(hidT h H).get? b=none:=PySem.W.hideAll_none (trk h H) u;rw[z]at e;cases e
structure Mod(K:qF)(mg:qM)(base:ba):Prop where
 kin:K.In base
 glob:base.Ns mainGlobals mg
 blt:∃mb,base.Ns builtinsNs mb/\∀x:Str,x ≠ "__name__" -> mb x=bootBuiltins x
 nolimit:base.NoLimit
structure Cx where
 prog:aO
 w:br
 K:qF
 mg:Str->Option ae
 base:ba
 A:bc
 N:List Str
 s₀:ak
 H₀:Hp
 env:Env
 outer:List Env
 stack:List Env
 ex:List af
 fn:Str->Bool
 calm:Bool
 pn:List (af×Obj)
 xe:ae->ak->Prop
def frs(l:List Env):List af:=l.filterMap (·.frame)
abbrev Cx.fs(X:Cx):List af:=frs X.outer
def Vis(sc:dD)(x:Str):Prop:=sc.names.lookup x=some .local\/sc.names.lookup x=some .cell\/sc.names.lookup x=some .free
def Loc(sc:dD)(x:Str):Prop:=sc.names.lookup x=some .local\/sc.names.lookup x=some .cell
def Look(env:Env)(h:ba)(m:qM)(x:Str)(u:ae):Prop :=
 (env.kindOf x=some .local/\m x=some u)\/((env.kindOf x=some .cell\/env.kindOf x=some .free)/\∃c,env.cells.lookup x=some c/\h.IsCell c (some u))
structure Cx.Ok(X:Cx):Prop where
 mod:Mod X.K X.mg X.base
 kind:X.env.scope.kind=.function
 glob:X.env.globals=mainGlobals
 blt:X.env.builtins=builtinsNs
 above:X.s₀.heap.objs.size<=X.env.locals
 inj:∀x y c,X.env.cells.lookup x=some c->X.env.cells.lookup y=some c->x=y
 has:∀x,(X.env.kindOf x=some .cell\/X.env.kindOf x=some .free)->∃c,X.env.cells.lookup x=some c
 cab:∀x c,X.fn x=true->X.env.cells.lookup x=some c->X.s₀.heap.objs.size<=c
 hd:X.calm=true->X.A.handled=none
 frames:X.A.frames=some X.stack
 stk:X.stack=X.outer\/(X.stack=X.env::X.outer/\X.env.frame=some X.env.locals)
 exf:∀b∈X.ex,b≠X.env.locals/\∀x c,X.env.cells.lookup x=some c->c≠b
 bs:∀b o,X.base.get? b=some o->X.s₀.heap.get? b=some o/\X.H₀ b=none
 bsz:X.base.objs.size<=X.s₀.heap.objs.size
 noex:∀b o,X.base.get? b=some o->b∉X.ex
 exfs:∀b∈X.ex,b∉X.fs
 funs:X.s₀.heap.FunFrames X.base X.outer
 frf:∀b∈X.fs,X.H₀ b=none
structure Inv(X:Cx)(pins:qO)(σ:List (Option V))(H:Hp)(s:ak):Prop where
 ok:X.Ok
 os:s.os=X.s₀.os
 bare:hX s.gens
 base:Un X.fs X.ex X.H₀ H X.s₀.heap s.heap
 loc:∃m,s.heap.Ns X.env.locals m/\∀(i:Nat) (x:Str) (v:V),X.N[i]?=some x->σ[i]?=some (some v)->Vis X.env.scope x->∃u,RelV v u/\Look X.env s.heap m x u
 cell:∀x c,X.env.cells.lookup x=some c->∃v,s.heap.IsCell c v
 free:H X.env.locals=none
 freeC:∀x c,X.env.cells.lookup x=some c->H c=none
 pin:∀p∈X.pn++pins,s.heap.get? p.1=some p.2/\H p.1=none/\p.1≠X.env.locals/\p.1∉X.fs/\∀v,p.2.data≠.cell v
 hok:HOk X.prog X.w H s.heap
 len:σ.length=X.N.length
section
variable{X:Cx}{pins:qO}{σ:List (Option V)}{H H':Hp}{s:ak}{h':ba}
theorem Cx.Ok.nofr(ok:X.Ok){b:af}{o:Obj}(e:X.base.get? b=some o):b∉X.fs:=fun l=>by have:=(ok.funs.mem l).1;rw[e]at this;cases this
theorem Inv.bs(I:Inv X pins σ H s):∀b o,X.base.get? b=some o->s.heap.get? b=some o/\H b=none:=fun b o e =>
 ⟨I.base.keep b o (I.ok.bs b o e).1 (I.ok.bs b o e).2 (I.ok.nofr e) (I.ok.noex b o e),I.base.free b o (I.ok.bs b o e).1 (I.ok.bs b o e).2 (I.ok.noex b o e)⟩
theorem Inv.bk(I:Inv X pins σ H s):∀b o,X.base.get? b=some o->s.heap.get? b=some o:=fun b o e=>(I.bs b o e).1
theorem Inv.mod(I:Inv X pins σ H s):Mod X.K X.mg X.base:=I.ok.mod
theorem Inv.kIn(I:Inv X pins σ H s):X.K.In s.heap:=I.ok.mod.kin.keeps I.bk
theorem Inv.lt(I:Inv X pins σ H s):X.env.locals<s.heap.objs.size:=let ⟨_,hn,_⟩:=I.loc;hn.lt
theorem Inv.sz(I:Inv X pins σ H s):X.s₀.heap.objs.size<=s.heap.objs.size:=bA I.ok.above (hY I.lt)
theorem Inv.nofs(I:Inv X pins σ H s){a:af}(h:s.heap.objs.size<=a):a∉X.fs:=fun u=>by obtain⟨_,o,l,_⟩:=I.ok.funs.mem u;exact absurd (aq (ax l) (bA I.sz h)) (fk _)
theorem Inv.cne(I:Inv X pins σ H s):∀x c,X.env.cells.lookup x=some c->c≠X.env.locals:=fun x c e z=>by obtain⟨v,o,y,hd⟩:=I.cell x c e;obtain⟨m,⟨C,es,ep,l,u,_⟩,_⟩:=I.loc;rw[z,l]at y;cases y;rw[u]at hd;cases hd
theorem Inv.funs(I:Inv X pins σ H s):s.heap.FunFrames X.base X.outer:=by
 have all:∀(l:List Env),(∀b∈frs l,b∈X.fs)->X.s₀.heap.FunFrames X.base l->s.heap.FunFrames X.base l:=by
  intro l;induction l with
  | nil=>intro _ _;trivial
  | cons env r G =>intro x N;obtain⟨R,⟨L,o,hf,J,C,hd⟩,y⟩:=N;have v:L∈X.fs:=x L (by unfold frs;rw[cI,hf];exact dF);obtain⟨S,e⟩:=I.base.slot L o C (I.ok.frf L v) v fun z=>I.ok.exfs L z v;exact⟨R,⟨L,_,hf,J,e,hd⟩,G (fun b u=>x b (by unfold frs;rw[cI,hf];exact cw _ u)) y⟩
 exact all X.outer (fun _ u=>u) I.ok.funs
theorem Inv.stack(I:Inv X pins σ H s):s.heap.FunFrames X.base X.stack:=by rcases I.ok.stk with e|⟨e,hf⟩;rw[e];exact I.funs;rw[e];obtain⟨m,l,_⟩:=I.loc;refine .cons (by rw[I.ok.kind];decide) hf l ?_ I.funs;exact Heap.get?_none_of_le (bA I.ok.bsz I.ok.above)
theorem Inv.stkSub(I:Inv X pins σ H s):∀b∈frs X.stack,b∈X.env.locals::X.fs:=fun b l=>by rcases I.ok.stk with e|⟨e,hf⟩;rw[e]at l;exact cw _ l;rw[e]at l;unfold frs at l;rw[cI,hf]at l;exact l
theorem Inv.stkFree(I:Inv X pins σ H s):∀b∈frs X.stack,H b=none:=fun b l=>by rcases aC.mp (I.stkSub b l) with e|l;rw[e];exact I.free;obtain⟨_,o,u,_⟩:=I.ok.funs.mem l;exact I.base.free b o u (I.ok.frf b l) fun z=>I.ok.exfs b z l
theorem Inv.step{g':Array GenState}{t':Nat}{d':Drawn}{ch:List af}(I:Inv X pins σ H s)
  (C:∀b∈ch,(b∈X.ex\/X.s₀.heap.objs.size<=b)/\b≠X.env.locals/\(∀x c,X.env.cells.lookup x=some c->c≠b)/\∀p∈X.pn++pins,p.1≠b)
  (keep:∀b o,b≠X.env.locals->b∉X.fs->b∉ch->s.heap.get? b=some o->H b=none->h'.get? b=some o)
  (slot:∀b o,b≠X.env.locals->b∈X.fs->b∉ch->s.heap.get? b=some o->H b=none->∃Y,h'.get? b=some { o with slots:=Y }) (free:∀b o,b∉ch->s.heap.get? b=some o->H b=none->H' b=none)
  (there:∀b o,b∉ch->s.heap.get? b=some o->∃S,h'.get? b=some S)
  (tups:∀b xs,H b=some (.tup xs)->H' b=some (.tup xs)) (frzs:∀b o u,H b=some (.frz o u)->H' b=some (.frz o u)) (tbls:∀b q,H b=some (.tbl q)->H' b=some (.tbl q))
  (ns:∀m,s.heap.Ns X.env.locals m->h'.Ns X.env.locals m) (hok:HOk X.prog X.w H' h') (hg:hX g') :
  Inv X pins σ H' { s with heap:=h',gens:=g',drawn:=d',toks:=t' }:=by
 have R:∀b o,X.s₀.heap.get? b=some o->b≠X.env.locals:=fun b o e=>ay (aq (ax e) I.ok.above);have G:∀b o,X.s₀.heap.get? b=some o->b∉X.ex->b∉ch:=fun b o e hx J=>by rcases(C b J).1 with z|z;exact hx z;exact absurd (aq (ax e) z) (fk _)
 have cellK:∀x c,X.env.cells.lookup x=some c->∀v,s.heap.IsCell c v->h'.IsCell c v:=fun x c e v ⟨o,N,hd⟩=>by have y:c∉ch:=fun z=>(C c z).2.2.1 x c e rfl;by_cases hc:c∈X.fs;obtain⟨Y,q⟩:=slot c o (I.cne x c e) hc y N (I.freeC x c e);exact⟨_,q,hd⟩;exact⟨o,keep c o (I.cne x c e) hc y N (I.freeC x c e),hd⟩
 refine⟨I.ok,I.os,hg,⟨fun b o e n J hx=>?_,fun b o e n J hx=>?_,fun b o e n hx=>?_,fun b o e hx=>?_,fun b xs e=>tups b xs (I.base.tups b xs e),fun b o xs e=>frzs b o xs (I.base.frzs b o xs e),fun b ps e=>?_⟩,?_,fun x c e=>?_,?_,fun x c e=>?_,fun p Z=>?_,hok,I.len⟩;exact keep b o (R b o e) J (G b o e hx) (I.base.keep b o e n J hx) (I.base.free b o e n hx);obtain⟨Y,L⟩:=I.base.slot b o e n J hx;obtain⟨U,e2⟩:=slot b _ (R b o e) J (G b o e hx) L (I.base.free b o e n hx);exact⟨U,e2⟩;obtain⟨S,L⟩:=I.base.there b o e hx;exact free b S (G b o e hx) L (I.base.free b o e n hx);obtain⟨S,L⟩:=I.base.there b o e hx;exact there b S (G b o e hx) L;exact tbls b ps (I.base.tbls b ps e);obtain⟨m,hn,hl⟩:=I.loc;refine⟨m,ns m hn,fun i x v L e2 e3=>?_⟩;obtain⟨u,r,l⟩:=hl i x v L e2 e3;refine⟨u,r,?_⟩;rcases l with l|⟨k,c,e,z⟩;exact .inl l;exact .inr ⟨k,c,e,cellK x c e _ z⟩;obtain⟨v,z⟩:=I.cell x c e;exact⟨v,cellK x c e v z⟩;obtain⟨m,⟨o,_,_,N,_⟩,_⟩:=I.loc;exact free _ o (fun z=>(C _ z).2.1 rfl) N I.free;obtain⟨v,o,N,hd⟩:=I.cell x c e;exact free c o (fun z=>(C c z).2.2.1 x c e rfl) N (I.freeC x c e);obtain⟨e,n,ne,nf,d⟩:=I.pin p Z;have y:p.1∉ch:=fun z=>(C p.1 z).2.2.2 p Z rfl;exact⟨keep p.1 p.2 ne nf y e n,free p.1 p.2 y e n,ne,nf,d⟩
theorem Inv.un{t':Nat}(I:Inv X pins σ H s)(u:Un X.fs [] H H' s.heap h')(hok:HOk X.prog X.w H' h'):Inv X pins σ H' { s with heap:=h',toks:=t' }:=by obtain⟨m,⟨o,es,ep,C,r⟩,_⟩:=id I.loc;obtain⟨R,L⟩:=u.any C I.free (by simp);exact I.step (g':=s.gens) (d':=s.drawn) (ch:=[]) (fun _ z=>nomatch z) (fun b o _ v _ e n=>u.keep b o e n v (by simp)) (fun b o _ v _ e n=>u.slot b o e n v (by simp)) (fun b o _ e n=>u.free b o e n (by simp)) (fun b o _ e=>u.there b o e (by simp)) u.tups u.frzs u.tbls (fun S J=>by obtain⟨N,y,x,l,G⟩:=J;rw[C]at l;cases l;exact⟨_,y,x,L,G⟩) hok I.bare
theorem Inv.call{g':Array GenState}{t':Nat}{d':Drawn}{ch:List af}(I:Inv X pins σ H s)(u:Un (frs X.stack) ch H H' s.heap h')(hok:HOk X.prog X.w H' h')(N:hX g')
  (y:∀b∈ch,(b∈X.ex\/X.s₀.heap.objs.size<=b)/\b≠X.env.locals/\(∀x c,X.env.cells.lookup x=some c->c≠b)/\∀p∈X.pn++pins,p.1≠b) :
  Inv X pins σ H' { s with heap:=h',gens:=g',drawn:=d',toks:=t' }:=by
 obtain⟨m,⟨o,es,ep,L,r⟩,_⟩:=id I.loc;obtain⟨Z,G⟩:=u.any L I.free fun z=>(y _ z).2.1 rfl;exact I.step (ch:=ch) y (fun b o G R hc e n=>u.keep b o e n (fun z=>(aC.mp (I.stkSub b z)).elim G R) hc) (fun b o _ _ hc e n=>u.any e n hc) (fun b o hc e n=>u.free b o e n hc) (fun b o hc e=>u.there b o e hc) u.tups u.frzs u.tbls (fun m' U=>by obtain⟨Y,J,C,v,S⟩:=U;rw[L]at v;cases v;exact⟨_,J,C,G,S⟩) hok N
theorem Inv.turned{t':Nat}{it:af}(I:Inv X pins σ H s)(k:∀b o,b≠it->s.heap.get? b=some o->h'.get? b=some o)(N:H it=none)(C:it≠X.env.locals)
  (U:it∈X.ex\/X.s₀.heap.objs.size<=it) (S:∀x c,X.env.cells.lookup x=some c->c≠it) (L:∀p∈X.pn++pins,p.1≠it):Inv X pins σ H { s with heap:=h',toks:=t' }:=by
 have l:∀b u,H b=some u->b≠it:=fun b u e z=>by rw[z,N]at e;cases e
 refine I.step (g':=s.gens) (d':=s.drawn) (ch:=[it]) (fun b J=>?_) (fun b o _ _ hc e _=>k b o (fun z=>hc (by simp[z])) e) (fun b o _ _ hc e _=>⟨o.slots,k b o (fun z=>hc (by simp[z])) e⟩) (fun _ _ _ _ n=>n)
  (fun b o hc e=>⟨o,k b o (fun z=>hc (by simp[z])) e⟩) (fun _ _ e=>e) (fun _ _ _ e=>e) (fun _ _ e=>e) (fun m R=>?_) (fun b u e=>?_) I.bare
 have e:b=it:=by simpa using J
 subst e;exact⟨U,C,S,L⟩;obtain⟨o,es,ep,G,r⟩:=R;exact⟨o,es,ep,k _ o (fc C) G,r⟩;refine(I.hok b u e).stay (fun c v hc q=>k c v ?_ q) (fun _ q=>q) (fun _ _ q=>q) fun _ _ _ q=>q;rcases hc with z|z;rw[z];exact l b u e;exact l c _ z
theorem Inv.tok(I:Inv X pins σ H s)(t:Nat):Inv X pins σ H { s with toks:=t }:=I.un (h':=s.heap) (t':=t) Un.refl I.hok
theorem Inv.kept{t':Nat}(I:Inv X pins σ H s)(k:∀b u,s.heap.get? b=some u->h'.get? b=some u):Inv X pins σ H { s with heap:=h',toks:=t' }:=I.un (Un.kept k) (I.hok.kept k)
theorem Inv.laid{a:af}{o:HO}{t':Nat}(I:Inv X pins σ H s)(k:∀b u,s.heap.get? b=some u->h'.get? b=some u)(l:s.heap.objs.size<=a)(new:JI X.prog X.w (upd H a o) h' a o) :
  Inv X pins σ (upd H a o) { s with heap:=h',toks:=t' }:=I.un (Un.laid k l (I.hok.fresh l)) (I.hok.laid k l new)
theorem Inv.write{x e:af}{o:HO}{t':Nat}(I:Inv X pins σ H s)(v:Mut (H x))(he:e=x\/H e=some (.own x))(k:∀b u,b≠e->s.heap.get? b=some u->h'.get? b=some u)(l:∃u,h'.get? e=some u)
  (new:JI X.prog X.w (upd H x o) h' x o):Inv X pins σ (upd H x o) { s with heap:=h',toks:=t' }:=I.un (Un.write v he k l) (I.hok.write v he k l new)
theorem Inv.weak{σ':List (Option V)}(I:Inv X pins σ H s)(o:σ'.length=σ.length)(w:∀(i:Nat) v,σ'[i]?=some (some v)->σ[i]?=some (some v)):Inv X pins σ' H s :=
 ⟨I.ok,I.os,I.bare,I.base,let ⟨m,hn,hl'⟩:=I.loc;⟨m,hn,fun i x v l e2 u=>hl' i x v l (w i v e2) u⟩,I.cell,I.free,I.freeC,I.pin,I.hok,o.trans I.len⟩
theorem Inv.pins_of{o:qO}(I:Inv X pins σ H s)(h:∀p∈o,s.heap.get? p.1=some p.2/\H p.1=none/\p.1≠X.env.locals/\p.1∉X.fs/\∀v,p.2.data≠.cell v):Inv X o σ H s :=
 ⟨I.ok,I.os,I.bare,I.base,I.loc,I.cell,I.free,I.freeC,fun p u=>(aT.mp u).elim (fun z=>I.pin p (eH _ z)) (h p),I.hok,I.len⟩
theorem ziG{N:List Str}(o:N.Nodup){i j:Nat}{x:Str}(a:N[i]?=some x)(b:N[j]?=some x):i=j:=by obtain⟨u,l⟩:=ao.mp a;obtain⟨v,e2⟩:=ao.mp b;exact(List.getElem_inj o).mp (l.trans e2.symm)
theorem zdT{M:sU}{A:bc}{E:qV}{i:Nat}{x:Str}{v:V}{u:ae}{Q:Unit->ak->Prop}(I:Inv X pins σ H s)(hN:X.N.Nodup)(hi:X.N[i]?=some x)(hx:Loc X.env.scope x)(r:RelV v u)
  (h:∀s',Inv X pins (σ.set i (some v)) H s'->(∃a,c9 a s.heap s'.heap/\(a=X.env.locals\/X.env.cells.lookup x=some a))->Q () s') (hf:X.fn x=true\/X.env.scope.names.lookup x=some .local:=by walk_at "F"):wpAny M A (storeName X.env x u) Q E s:=by
 obtain⟨m,hn,hl⟩:=id I.loc;have S:(X.env.scope.kind == .class||(X.env.scope.kind == .module&&X.env.locals != X.env.globals))=false:=by rw[I.ok.kind];rfl
 have J:i<σ.length:=by rw[I.len];exact(ao.mp hi).1
 have cne:=I.cne;have tracked:∀{a:af} {h':ba},(∃o,s.heap.get? a=some o/\H a=none)->c9 a s.heap h'->HOk X.prog X.w H h':=fun {a h'} ha C b ob e=>by obtain⟨_,_,Hr⟩:=ha;refine(I.hok b ob e).stay (fun c Z hc q=>(C.2 c ?_).trans q) (fun _ q=>q) (fun _ _ q=>q) fun _ _ _ q=>q;rintro rfl;rcases hc with rfl|hc;rw[Hr]at e;cases e;rw[Hr]at hc;cases hc
 rcases hx with hk|hk;refine wpAny_storeName_local hk hn (fun h' hn' C=>?_) S;obtain⟨oL,_,_,hoL,_⟩:=id hn;refine h _ ⟨I.ok,I.os,I.bare,⟨fun b o e n L hx=>?_,fun b o e n L hx=>?_,I.base.free,fun b o e hx=>?_,I.base.tups,I.base.frzs,I.base.tbls⟩,⟨_,hn',fun j y v' G e2 e3=>?_⟩,fun y c e=>?_,I.free,I.freeC,fun p hp=>?_,tracked ⟨oL,hoL,I.free⟩ C,by simpa using I.len⟩ ⟨_,C,.inl rfl⟩;exact(C.2 b (ay (aq (ax e) I.ok.above))).trans (I.base.keep b o e n L hx);obtain⟨sl,G⟩:=I.base.slot b o e n L hx;exact⟨sl,(C.2 b (ay (aq (ax e) I.ok.above))).trans G⟩;obtain⟨o',G⟩:=I.base.there b o e hx;exact⟨o',(C.2 b (ay (aq (ax e) I.ok.above))).trans G⟩;by_cases hj:j=i;subst hj;rw[hi]at G;cases G;rw[gu J]at e2;cases e2;exact⟨u,r,.inl ⟨hk,by simp⟩⟩;rw[cR (fc hj)]at e2;obtain⟨u',r',q⟩:=hl j y v' G e2 e3;refine⟨u',r',?_⟩;rcases q with⟨k,e⟩|⟨k,c,e,z⟩;refine .inl ⟨k,?_⟩;have:y≠x:=fun e=>hj (ziG hN G (e▸hi));simp[this,e];exact .inr ⟨k,c,e,z.sameBut C (cne y c e)⟩;obtain⟨Z,z⟩:=I.cell y c e;exact⟨Z,z.sameBut C (cne y c e)⟩;obtain⟨e,n,ne,nf,d⟩:=I.pin p hp;exact⟨(C.2 p.1 ne).trans e,n,ne,nf,d⟩;have N:X.fn x=true:=by rcases hf with z|z;exact z;rw[z]at hk;cases hk
 obtain⟨c,hc⟩:=I.ok.has x (.inl hk);obtain⟨Z,z⟩:=I.cell x c hc;refine wpAny_storeName_cell I.ok.kind hk hc z (fun h' Y C=>?_);obtain⟨oc,U,R⟩:=id z;refine h { s with heap:=h' } ⟨I.ok,I.os,I.bare,⟨fun b o e n L hx=>?_,fun b o e n L hx=>?_,I.base.free,fun b o e hx=>?_,I.base.tups,I.base.frzs,I.base.tbls⟩,⟨m,hn.sameBut C (fc (cne x c hc)),fun j y v' G e2 e3=>?_⟩,fun y c' e=>?_,I.free,I.freeC,fun p hp=>?_,tracked ⟨oc,U,I.freeC x c hc⟩ C,by simpa using I.len⟩ ⟨c,C,.inr hc⟩;exact(C.2 b (ay (aq (ax e) (I.ok.cab x c N hc)))).trans (I.base.keep b o e n L hx);obtain⟨sl,G⟩:=I.base.slot b o e n L hx;exact⟨sl,(C.2 b (ay (aq (ax e) (I.ok.cab x c N hc)))).trans G⟩;obtain⟨o',G⟩:=I.base.there b o e hx;exact⟨o',(C.2 b (ay (aq (ax e) (I.ok.cab x c N hc)))).trans G⟩;by_cases hj:j=i;subst hj;rw[hi]at G;cases G;rw[gu J]at e2;cases e2;exact⟨u,r,.inr ⟨.inl hk,c,hc,Y⟩⟩;rw[cR (fc hj)]at e2;obtain⟨u',r',q⟩:=hl j y v' G e2 e3;refine⟨u',r',?_⟩;rcases q with q|⟨k,c',e,z'⟩;exact .inl q;refine .inr ⟨k,c',e,z'.sameBut C ?_⟩;rintro rfl;exact hj (ziG hN G (I.ok.inj _ _ _ e hc▸hi));by_cases hcc:c'=c;subst hcc;exact⟨_,Y⟩;obtain⟨w2,z2⟩:=I.cell y c' e;exact⟨w2,z2.sameBut C hcc⟩;obtain⟨e,n,ne,nf,d⟩:=I.pin p hp;refine⟨(C.2 p.1 ?_).trans e,n,ne,nf,d⟩;intro q;rw[q,U]at e;have q':oc=p.2:=au e;exact d Z (by rw[<- q'];exact R)
theorem Zd{M:sU}{A:bc}{E:qV}{i:Nat}{x:Str}{v:V}{u:ae}{Q:Unit->ak->Prop}(I:Inv X pins σ H s)(C:X.N.Nodup)(hi:X.N[i]?=some x)(hx:Loc X.env.scope x)(r:RelV v u)
  (h:∀s',Inv X pins (σ.set i (some v)) H s'->Q () s') (hf:X.fn x=true\/X.env.scope.names.lookup x=some .local:=by walk_at "F"):wpAny M A (storeName X.env x u) Q E s :=
 zdT I C hi hx r (fun s' y _=>h s' y) hf
theorem Inv.call'{s':ak}{ch:List af}(I:Inv X pins σ H s)(o:s'.os=s.os)(u:Un (frs X.stack) ch H H' s.heap s'.heap)(hok:HOk X.prog X.w H' s'.heap)(v:hX s'.gens)
  (l:∀b∈ch,(b∈X.ex\/X.s₀.heap.objs.size<=b)/\b≠X.env.locals/\(∀x c,X.env.cells.lookup x=some c->c≠b)/\∀p∈X.pn++pins,p.1≠b):Inv X pins σ H' s':=by
 obtain⟨h',g',d',t',y⟩:=s';have e:y=s.os:=o;subst e;exact I.call (g':=g') (t':=t') (d':=d') u hok v l
end
abbrev XK:=ae->Option af->Hp->Prop
abbrev St:=List (Option V)
abbrev VK:=V->Hp->Prop
abbrev TE:=St->Hp->VK->Prop
abbrev TT:=St->Hp->(Bool->Hp->Prop)->Prop
abbrev TA:=St->Hp->(List V->Hp->Prop)->Prop
structure Ends where
 nx:St->Hp->Prop
 rt:VK
 bk:St->Hp->Prop:=fun _ _=>False
 ct:St->Hp->Prop:=fun _ _=>False
abbrev TS:=Ends->St->Hp->Prop
def EP(X:Cx)(pins:qO)(σ:St)(Q:VK)(u:ae)(s':ak):Prop:=∃v H',Inv X pins σ H' s'/\RelV v u/\Q v H'
def TP(X:Cx)(pins:qO)(σ:St)(Q:Bool->Hp->Prop)(b:Bool)(s':ak):Prop:=∃H',Inv X pins σ H' s'/\Q b H'
def AP(X:Cx)(pins:qO)(σ:St)(Q:List V->Hp->Prop)(o:List ae)(s':ak):Prop:=∃l H',Inv X pins σ H' s'/\Vals l o/\Q l H'
def SP(X:Cx)(pins:qO)(D:Ends)(f:Flow)(s':ak):Prop :=
 match f with
 | .next=>∃σ' H',Inv X pins σ' H' s'/\D.nx σ' H'
 | .brk=>∃σ' H',Inv X pins σ' H' s'/\D.bk σ' H'
 | .cont=>∃σ' H',Inv X pins σ' H' s'/\D.ct σ' H'
 | .ret u=>∃v σ' H',Inv X pins σ' H' s'/\RelV v u/\D.rt v H'
def PE(X:Cx)(e:aQ)(t:TE):Prop :=
 ∀(pins:qO) (s:ak) (σ:St) (H:Hp) (Q:VK),Inv X pins σ H s->t σ H Q->wpAny (model X.prog X.w) X.A (eval e X.env) (EP X pins σ Q) X.xe s
def PT(X:Cx)(e:aQ)(t:TT):Prop :=
 ∀(pins:qO) (s:ak) (σ:St) (H:Hp) (Q:Bool->Hp->Prop),Inv X pins σ H s->t σ H Q->wpAny (model X.prog X.w) X.A (isTrue e X.env (eval e X.env)) (TP X pins σ Q) X.xe s
def PW(X:Cx)(e:aQ)(t:TT):Prop :=
 ∀(whole:Sem ae) (pins:qO) (s:ak) (σ:St) (H:Hp) (Q:Bool->Hp->Prop),Inv X pins σ H s->t σ H Q->wpAny (model X.prog X.w) X.A (isTrue e X.env whole) (TP X pins σ Q) X.xe s
theorem PW.pt{X:Cx}{e:aQ}{t:TT}(h:PW X e t):PT X e t:=h _
def PA(X:Cx)(es:List aQ)(t:TA):Prop :=
 ∀(pos:Pos) (pins:qO) (s:ak) (σ:St) (H:Hp) (Q:List V->Hp->Prop),Inv X pins σ H s->t σ H Q->wpAny (model X.prog X.w) X.A (spliced (backTo pos (starEach es X.env))) (AP X pins σ Q) X.xe s
def PS(X:Cx)(st:dE)(t:TS):Prop :=
 ∀(pins:qO) (s:ak) (σ:St) (H:Hp) (D:Ends),Inv X pins σ H s->t D σ H->wpAny (model X.prog X.w) X.A (exec st X.env) (SP X pins D) X.xe s
def PSs(X:Cx)(st:List dE)(t:TS):Prop :=
 ∀(pins:qO) (s:ak) (σ:St) (H:Hp) (D:Ends),Inv X pins σ H s->t D σ H->wpAny (model X.prog X.w) X.A (execs st X.env) (SP X pins D) X.xe s
theorem thn{α:Type}{t:Sem α}{Q l:α->ak->Prop}{M:sU}{A:bc}{E:qV}{s:ak}(h:wpAny M A t Q E s)(o:∀a s,Q a s->l a s):wpAny M A t l E s:=cJ h o fun _ _ x=>x
section
variable{X:Cx}
def tVar(i:Nat):TE:=fun σ H Q=>∃v,σ[i]?=some (some v)/\Q v H
def tC(v:V):TE:=fun _ H Q=>Q v H
theorem Qe{i:Nat}{x:Str}{pos:Pos}(R:X.N[i]?=some x)(S:Vis X.env.scope x)(hd:(x == ("__debug__":Str))=false:=by decide) (C:(x == ("__classdict__":Str))=false:=by decide):PE X (.Name x pos) (tVar i):=by intro pins s σ H Q I h;obtain⟨v,e,h⟩:=h;obtain⟨m,G,L⟩:=I.loc;obtain⟨u,r,l⟩:=L i x v R e S;have fin:EP X pins σ Q u s:=⟨v,H,I,r,h⟩;rcases l with⟨y,J⟩|⟨y,c,hc,o⟩;exact o7 (lS I.ok.kind y G J fin) hd;rcases y with y|y;exact o7 (mI I.ok.kind y hc o fin) hd;exact o7 (wpAny_loadName_free I.ok.kind y hc o fin C) hd
theorem JD{i j pos}:PE X (.Constant (.int i) j pos) (tC (.int i)):=fun _ _ _ H _ I h=>wpAny_Constant_int ⟨.int i,H,I.tok _,⟨_,rfl⟩,h⟩
theorem zuJ{b j pos}:PE X (.Constant (.bool b) j pos) (tC (.bl b)):=fun _ _ _ H _ I h=>Constant_bool ⟨.bl b,H,I,rfl,h⟩
theorem zrn{j pos}:PE X (.Constant .none j pos) (tC .non):=fun _ _ _ H _ I h=>Constant_none ⟨.non,H,I,rfl,h⟩
def Gl(X:Cx)(x:Str):Prop:=X.env.kindOf x=some .globalImplicit
theorem zlj{E:qV}{pins:qO}{s:ak}{σ:St}{H:Hp}{x:Str}{u:ae}{pos:Pos}{Q:qV}(I:Inv X pins σ H s)(l:Gl X x)(o:X.mg x=some u)(h:Q u s)
  (hd:(x == ("__debug__":Str))=false:=by decide):wpAny (model X.prog X.w) X.A (eval (.Name x pos) X.env) Q E s :=
 ia I.ok.kind l (Calls.loadGlobal_global (by rw[I.ok.glob];exact I.mod.glob.keeps I.bk) o h) hd
theorem Q4{E:qV}{pins:qO}{s:ak}{σ:St}{H:Hp}{x:Str}{u:ae}{pos:Pos}{Q:qV}(I:Inv X pins σ H s)(l:Gl X x)(v:X.mg x=none)(G:bootBuiltins x=some u)(h:Q u s)
  (o:x ≠ "__name__":=by decide) (hd:(x == ("__debug__":Str))=false:=by decide):wpAny (model X.prog X.w) X.A (eval (.Name x pos) X.env) Q E s:=by
 obtain⟨J,C,y⟩:=I.mod.blt;exact ia I.ok.kind l (Calls.loadGlobal_builtin (by rw[I.ok.glob];exact I.mod.glob.keeps I.bk) v (by rw[I.ok.blt];exact C.keeps I.bk) ((y x o).trans G) h) hd
theorem zpg{x:Str}{v:V}{u:ae}{pos:Pos}(l:Gl X x)(C:X.mg x=none)(o:bootBuiltins x=some u)(r:RelV v u)(y:x ≠ "__name__":=by decide) (hd:(x == ("__debug__":Str))=false:=by decide):PE X (.Name x pos) (tC v) :=
 fun _ _ _ H _ I h=>Q4 I l C o ⟨v,H,I,r,h⟩ y hd
variable{a b:aQ}{ta tb:TE}{pos:Pos}
variable{tA tB':TT}{rest:List aQ}
def tAnd(t u:TT):TT:=fun σ H Q=>t σ H fun c l=>if c=true then u σ l Q else Q false l
def tOr(t u:TT):TT:=fun σ H Q=>t σ H fun c l=>if c=true then Q true l else u σ l Q
def tNot(t:TT):TT:=fun σ H Q=>t σ H fun c l=>Q (!c) l
theorem zo0(u:PT X a tA):PW X (.BoolOp .And [a] pos) tA:=by
 intro v pins s σ H Q I h;refine isTrue_and (thn (u pins s σ H Q I h) fun c s1 e=>?_);cases c with
 | true=>exact isTrue_and_nil e
 | false=>exact e
theorem zra(u:PT X a tA):PW X (.BoolOp .Or [a] pos) tA:=by
 intro v pins s σ H Q I h;refine isTrue_or (thn (u pins s σ H Q I h) fun c s1 e=>?_);cases c with
 | false=>exact isTrue_or_nil e
 | true=>exact e
theorem zrb(G:PT X a tA)(C:PW X (.BoolOp .And (b::rest) pos) tB'):PW X (.BoolOp .And (a::b::rest) pos) (tAnd tA tB'):=by
 intro y pins s σ H Q I h;refine isTrue_and (thn (G pins s σ H _ I h) fun c s1 ⟨v,u,x⟩=>?_);cases c with
 | true=>exact C y pins s1 σ v Q u x
 | false=>exact⟨v,u,x⟩
theorem zuF(G:PT X a tA)(C:PW X (.BoolOp .Or (b::rest) pos) tB'):PW X (.BoolOp .Or (a::b::rest) pos) (tOr tA tB'):=by
 intro y pins s σ H Q I h;refine isTrue_or (thn (G pins s σ H _ I h) fun c s1 ⟨v,u,x⟩=>?_);cases c with
 | true=>exact⟨v,u,x⟩
 | false=>exact C y pins s1 σ v Q u x
theorem zrc(l:PT X a tA):PT X (.UnaryOp .Not a pos) (tNot tA):=by intro pins s σ H Q I h;exact isTrue_not (l pins s σ H (fun c u=>Q (!c) u) I h)
def zt5(ta tb:TE):TE:=fun σ H Q=>ta σ H fun x o=>∃c,x=.bl c/\if c=true then tb σ o Q else Q (.bl false) o
def tOrV(ta tb:TE):TE:=fun σ H Q=>ta σ H fun x o=>∃c,x=.bl c/\if c=true then Q (.bl true) o else tb σ o Q
theorem zrm{op}{t:TE}(h:PE X a t):PE X (.BoolOp op [a] pos) t:=fun pins s σ H Q I hw=>BoolOp_one (h pins s σ H Q I hw)
theorem zrs(J:PE X a ta)(G:PE X (.BoolOp .And (b::rest) pos) tb):PE X (.BoolOp .And (a::b::rest) pos) (zt5 ta tb):=by
 intro pins s σ H Q I h;refine BoolOp_and (thn (J pins s σ H _ I h) fun v s1 ⟨x,y,C,L,u⟩=>?_);obtain⟨c,rfl,u⟩:=u;cases L;refine cK ?_;cases c with
 | true=>exact G pins s1 σ y Q C u
 | false=>exact⟨.bl false,y,C,rfl,u⟩
theorem zuI(J:PE X a ta)(G:PE X (.BoolOp .Or (b::rest) pos) tb):PE X (.BoolOp .Or (a::b::rest) pos) (tOrV ta tb):=by
 intro pins s σ H Q I h;refine BoolOp_or (thn (J pins s σ H _ I h) fun v s1 ⟨x,y,C,L,u⟩=>?_);obtain⟨c,rfl,u⟩:=u;cases L;refine cK ?_;cases c with
 | false=>exact G pins s1 σ y Q C u
 | true=>exact⟨.bl true,y,C,rfl,u⟩
def tIf(t:TT)(ta tb:TE):TE:=fun σ H Q=>t σ H fun c l=>if c=true then ta σ l Q else tb σ l Q
theorem zng{c:aQ}(hc:PT X c tA)(y:PE X a ta)(v:PE X b tb):PE X (.IfExp c a b pos) (tIf tA ta tb):=by
 intro pins s σ H Q I h;refine wpAny_IfExp (thn (hc pins s σ H _ I h) fun d s1 ⟨o,l,u⟩=>?_);cases d with
 | true=>exact y pins s1 σ o Q l u
 | false=>exact v pins s1 σ o Q l u
end
def SqL(K:qF)(H:Hp)(a:af)(xs:List V):Prop :=
 Rd H a (.lst xs) \/
  ∃(o:Obj) (its:Array ae) (n:Nat),K.lookup a=some o/\o.cls=.type "list" /\ o.dict=none/\o.data=.seq its n/\its.size<=sizeLine/\Vals xs its.toList
def SqT(K:qF)(H:Hp)(a:af)(xs:List V):Prop :=
 Rd H a (.tup xs) \/
  ∃(o:Obj) (its:Array ae) (n:Nat),K.lookup a=some o/\o.cls=.type "tuple" /\ o.data=.seq its n/\its.size<=sizeLine/\Vals xs its.toList
def absV:ae->Option V
 | .none=>some .non
 | .bool b=>some (.bl b)
 | .int i _=>some (.int i)
 | .str x _=>some (.str x)
 | .bytes b _=>some (.byt b)
 | .float b _=>some (.flt b)
 | .ref a=>some (.ref a)
 | .type n=>some (.ty n)
 | _=>none
theorem RelV.abs{x:V}{u:ae}(r:RelV x u):absV u=some x:=by
 cases x with
 | non=>cases r;rfl
 | bl _=>cases r;rfl
 | int _=>obtain⟨t,rfl⟩:=r;rfl
 | str _=>obtain⟨t,rfl⟩:=r;rfl
 | byt _=>obtain⟨t,rfl⟩:=r;rfl
 | flt _=>obtain⟨t,rfl⟩:=r;rfl
 | ref _=>cases r;rfl
 | ty _=>cases r;rfl
theorem RelV.inj{x y:V}{u:ae}(r:RelV x u)(q:RelV y u):x=y:=au (r.abs.symm.trans q.abs)
theorem Vals.inj{xs ys:List V}{l:List ae}(h:Vals xs l)(k:Vals ys l):xs=ys:=by
 induction h generalizing ys with
 | nil=>cases k;rfl
 | cons r t u =>
  cases k with
  | cons o t'=>rw[r.inj o,u t']
section
variable{X:Cx}{pins:qO}{σ:St}{H:Hp}{s:ak}{a:af}{xs ys:List V}
theorem SqL.of{K:qF}(h:H a=some (.lst xs)):SqL K H a xs:=.inl (.inl h)
theorem Inv.list(I:Inv X pins σ H s)(h:SqL X.K H a xs):∃its:List ae,Vals xs its/\PlainL s.heap a its.toArray/\xs.length<=sizeLine:=by rcases h with h|⟨o,its,n,u,hc,hd,l,hz,r⟩;obtain⟨z,its,n,r,e⟩:=h.ok I.hok;exact⟨its,r,⟨_,n,e,rfl,rfl,rfl⟩,z⟩;refine⟨its.toList,r,⟨o,n,I.kIn a o u,hc,hd,by simpa using l⟩,?_⟩;have e:=r.length;simp only[fO]at e;lia
theorem Inv.tuple(I:Inv X pins σ H s)(h:SqT X.K H a xs):∃its:List ae,Vals xs its/\o6 s.heap a its.toArray/\xs.length<=sizeLine:=by rcases h with h|⟨o,its,n,u,hc,l,hz,r⟩;obtain⟨z,its,r,p⟩:=h.ok I.hok;exact⟨its,r,p.tup,z⟩;refine⟨its.toList,r,⟨o,I.kIn a o u,hc,n,by simpa using l⟩,?_⟩;have e:=r.length;simp only[fO]at e;lia
theorem Inv.list_inj(I:Inv X pins σ H s)(h:SqL X.K H a xs)(h':SqL X.K H a ys):xs=ys:=by
 obtain⟨its,r,⟨o,n,e,_,_,d⟩,_⟩:=I.list h;obtain⟨its',u,⟨v,x,l,_,_,d'⟩,_⟩:=I.list h';rw[e]at l;cases l;rw[d]at d';injection d' with d1 _
 have:its=its':=by simpa using congrArg tH d1
 subst this;exact r.inj u
theorem Inv.tuple_inj(I:Inv X pins σ H s)(h:SqT X.K H a xs)(h':SqT X.K H a ys):xs=ys:=by
 obtain⟨its,r,⟨o,e,_,n,d⟩,_⟩:=I.tuple h;obtain⟨its',u,⟨v,l,_,x,d'⟩,_⟩:=I.tuple h';rw[e]at l;cases l;rw[d]at d';injection d' with d1 _
 have:its=its':=by simpa using congrArg tH d1
 subst this;exact r.inj u
end
abbrev Cx.wish(X:Cx)(E:qV):Cx:={ X with xe:=E }
abbrev Cx.nox(X:Cx):Cx:=X.wish fun _ _=>False
theorem Cx.Ok.wish{X:Cx}(ok:X.Ok)(E:qV):(X.wish E).Ok :=
 ⟨ok.mod,ok.kind,ok.glob,ok.blt,ok.above,ok.inj,ok.has,ok.cab,ok.hd,ok.frames,ok.stk,ok.exf,ok.bs,ok.bsz,ok.noex,ok.exfs,ok.funs,ok.frf⟩
theorem Cx.Ok.unwish{X:Cx}{E:qV}(ok:(X.wish E).Ok):X.Ok :=
 ⟨ok.mod,ok.kind,ok.glob,ok.blt,ok.above,ok.inj,ok.has,ok.cab,ok.hd,ok.frames,ok.stk,ok.exf,ok.bs,ok.bsz,ok.noex,ok.exfs,ok.funs,ok.frf⟩
section
variable{X:Cx}{pins:qO}{σ:St}{H:Hp}{s:ak}{E:qV}
theorem Inv.wish(I:Inv X pins σ H s)(E:qV):Inv (X.wish E) pins σ H s:=⟨I.ok.wish E,I.os,I.bare,I.base,I.loc,I.cell,I.free,I.freeC,I.pin,I.hok,I.len⟩
theorem Inv.unwish(I:Inv (X.wish E) pins σ H s):Inv X pins σ H s:=⟨I.ok.unwish,I.os,I.bare,I.base,I.loc,I.cell,I.free,I.freeC,I.pin,I.hok,I.len⟩
theorem SP.unwish{D:Ends}{f:Flow}{s':ak}(h:SP (X.wish E) pins D f s'):SP X pins D f s':=by
 cases f with
 | next=>obtain⟨σ',H',I,q⟩:=h;exact⟨σ',H',I.unwish,q⟩
 | brk=>obtain⟨σ',H',I,q⟩:=h;exact⟨σ',H',I.unwish,q⟩
 | cont=>obtain⟨σ',H',I,q⟩:=h;exact⟨σ',H',I.unwish,q⟩
 | ret u=>obtain⟨v,σ',H',I,r,q⟩:=h;exact⟨v,σ',H',I.unwish,r,q⟩
theorem PSs.nox{st:List dE}{t:TS}(h:PSs X.nox st t):PSs X st t:=fun pins s σ H D I hw =>
 cJ (h pins s σ H D (I.wish _) hw) (fun _ _ q=>q.unwish) fun _ _ z=>cm z
end
section
variable{X:Cx}{st:dE}{rest:List dE}{t u:TS}{e:aQ}{te:TE}{pos:Pos}
def zt3:TS:=fun D σ H=>D.nx σ H
def tSeq(t u:TS):TS:=fun D σ H=>t { D with nx:=u D } σ H
theorem zhE:PSs X [] zt3:=fun _ _ σ H _ I h=>hJ ⟨σ,H,I,h⟩
theorem Qo(l:PS X st t)(o:PSs X rest u):PSs X (st::rest) (tSeq t u):=by
 intro pins s σ H D I h;refine nX (thn (l pins s σ H { D with nx:=u D } I h) fun f s1 q=>?_);cases f with
 | next =>obtain⟨σ',H',x,q⟩:=q;exact o pins s1 σ' H' D x q
 | ret v=>exact q
 | brk=>exact q
 | cont=>exact q
theorem Zc(l:PS X st t):PSs X [st] t:=by
 intro pins s σ H D I h;refine nX (thn (l pins s σ H D I h) fun f s1 q=>?_);cases f with
 | next=>exact hJ q
 | ret v=>exact q
 | brk=>exact q
 | cont=>exact q
theorem Inv.quiet{pins:qO}{σ:St}{H:Hp}{s:ak}(I:Inv X pins σ H s):interactive X.env=false:=by simp[interactive,I.ok.kind]
def zt4(te:TE):TS:=fun D σ H=>te σ H fun _ l=>D.nx σ l
theorem zhF(he:PE X e te)(C:swapsWith e none pos.line X.env=pure false:=by rfl):PS X (.Expr e pos) (zt4 te):=by intro pins s σ H D I h;exact wpAny_Expr_any (thn (he pins s σ H _ I h) fun v s1 ⟨x,o,l,G,y⟩=>⟨σ,o,l,y⟩) I.quiet C
def tRet(te:TE):TS:=fun D σ H=>te σ H D.rt
theorem YB(he:PE X e te):PS X (.Return (some e) pos) (tRet te):=by intro pins s σ H D I h;exact wpAny_Return_some (thn (he pins s σ H _ I h) fun v s1 ⟨x,y,o,l,C⟩=>⟨x,σ,y,o,l,C⟩)
def tIfS(c:TT)(t u:TS):TS:=fun D σ H=>c σ H fun b l=>if b=true then t D σ l else u D σ l
theorem zo7{c:aQ}{a b:List dE}{l:TT}(hc:PT X c l)(C:PSs X a t)(y:PSs X b u):PS X (.If c a b pos) (tIfS l t u):=by
 intro pins s σ H D I h;refine wpAny_If (thn (hc pins s σ H _ I h) fun d s1 ⟨o,v,x⟩=>?_);cases d with
 | true=>exact C pins s1 σ o D v x
 | false=>exact y pins s1 σ o D v x
end
abbrev TG:=V->St->Hp->(St->Hp->Prop)->Prop
abbrev TGs:=List V->St->Hp->(St->Hp->Prop)->Prop
def PG(X:Cx)(target:aQ)(t:TG):Prop :=
 ∀(pins:qO) (s:ak) (σ:St) (H:Hp) (v:V) (u:ae) (Q:St->Hp->Prop),Inv X pins σ H s->RelV v u->t v σ H Q ->
  wpAny (model X.prog X.w) X.A (assign target X.env u) (fun _ s'=>∃σ' H',Inv X pins σ' H' s'/\Q σ' H') X.xe s
def PGs(X:Cx)(ts:List aQ)(t:TGs):Prop :=
 ∀(pins:qO) (s:ak) (σ:St) (H:Hp) (o:List V) (l:List ae) (Q:St->Hp->Prop),Inv X pins σ H s->Vals o l->t o σ H Q ->
  wpAny (model X.prog X.w) X.A (assignInOrder ((assignEach ts X.env).map (·.2)) l) (fun _ s'=>∃σ' H',Inv X pins σ' H' s'/\Q σ' H') X.xe s
abbrev TSet:=V->V->V->Hp->(Hp->Prop)->Prop
def PSet(X:Cx)(t:TSet):Prop :=
 ∀(pins:qO) (s:ak) (σ:St) (H:Hp) (o i v:V) (l x u:ae) (Q:Hp->Prop),Inv X pins σ H s->RelV o l->RelV i x->RelV v u->t o i v H Q ->
  wpAny (model X.prog X.w) X.A (setItem l x u) (fun _ s'=>∃H',Inv X pins σ H' s'/\Q H') X.xe s
abbrev TIp:=V->V->Hp->VK->Prop
def PIp(X:Cx)(op:o8)(t:TIp):Prop :=
 ∀(pins:qO) (s:ak) (σ:St) (H:Hp) (x y:V) (v u:ae) (Q:VK),Inv X pins σ H s->RelV x v->RelV y u->t x y H Q ->
  wpAny (model X.prog X.w) X.A (inplaceOp op v u) (EP X pins σ Q) X.xe s
section
variable{X:Cx}{pos:Pos}
def Yo(i:Nat):TG:=fun v σ H Q=>Q (σ.set i (some v)) H
theorem zpb{i:Nat}{x:Str}(C:X.N.Nodup)(hi:X.N[i]?=some x)(hx:Loc X.env.scope x)(hf:X.fn x=true\/X.env.scope.names.lookup x=some .local:=by walk_at "F"):PG X (.Name x pos) (Yo i):=by intro pins s σ H v u Q I r h;exact iG (Zd I C hi hx r (fun s' y=>⟨_,H,y,h⟩) hf)
def gNil:TGs:=fun l σ H Q=>l=[]/\Q σ H
def zvu(t:TG)(u:TGs):TGs:=fun l σ H Q=>∃v r,l=v::r/\t v σ H fun σ' H'=>u r σ' H' Q
theorem zo_:PGs X [] gNil:=by intro pins s σ H o l Q I r h;obtain⟨e,h⟩:=h;subst e;cases r;exact nj ⟨σ,H,I,h⟩
theorem znc{e:aQ}{es:List aQ}{t:TG}{u:TGs}(G:PG X e t)(y:PGs X es u)
  (x:(assignEach (e::es) X.env).map (·.2)=assign e X.env::(assignEach es X.env).map (·.2):=by rfl):PGs X (e::es) (zvu t u):=by
 intro pins s σ H U S Q I r h;obtain⟨v,R,L,h⟩:=h;subst L;cases r with
 | cons r o =>rw[x];refine ib (thn (G pins s σ H _ _ _ I r h) fun _ s1 ⟨l,C,J,N⟩=>?_);exact y pins s1 l C _ _ Q J o N
def gTup(K:qF)(n:Nat)(t:TGs):TG:=fun v σ H Q=>∃a xs,v=.ref a/\SqT K H a xs/\xs.length=n/\t xs σ H Q
theorem zrk{es:List aQ}{k:Nat}{t:TGs}{n:Nat}(hc:X.calm=true)(h:PGs X es t)
  (J:(assignEach es X.env).length=n:=by rfl) (y:(assignEach es X.env).findIdx? (·.1)=none:=by rfl):PG X (.Tuple es k pos) (gTup X.K n t):=by
 intro pins s σ H v u Q I r hw;obtain⟨a,xs,S,G,L,hw⟩:=hw;subst S;cases r;obtain⟨its,C,N,hz⟩:=I.tuple G;refine assign_Tuple_tuple (I.ok.hd hc) N (by simp[J,<- L,C.length]) y fun h' hx=>?_;have R:Inv X pins σ H { s with heap:=h' }:=I.kept (t':=s.toks) fun b o e=>hx b o (ay (ax e)) e;exact h pins _ σ H xs _ Q R (by simpa using C) hw
def gSub(to u:TE)(t:TSet):TG:=fun v σ H Q=>to σ H fun o x=>u σ x fun i l=>t o i v l fun y=>Q σ y
theorem pg_sub{o i:aQ}{to G:TE}{t:TSet}(L:PE X o to)(hi:PE X i G)(R:PSet X t)
  (Z:∀v,assign (.Subscript o i pos) X.env v=(do
   let l <- holding [v] (eval o X.env);let C <- holding [v,l] (eval i X.env)
   standAt pos
   holding [v,l,C] (setItem l C v)
   release [v,l,C] []):=by intro _;rfl):PG X (.Subscript o i pos) (gSub to G t):=by
 intro pins s σ H v u Q I r h;rw[Z];refine aa (bQ (thn (L pins s σ H _ I h) fun l s1 ⟨x,U,I1,r1,q1⟩=>?_));refine aa (bQ (thn (hi pins s1 σ U _ I1 q1) fun C s2 ⟨y,J,I2,Y,q2⟩=>?_));refine aa (cB (aa (bQ (thn (R pins s2 σ J x y v l C u _ I2 r1 Y r q2) fun _ s3 ⟨H3,N,q3⟩=>?_))));exact wpAny_release ⟨σ,H3,N,q3⟩
def tAsg(o:TE)(g:TG):TS:=fun D σ H=>o σ H fun x l=>g x σ l D.nx
theorem YA{l e:aQ}{o:TE}{g:TG}(he:PE X e o)(u:PG X l g)(y:swapsWithSole [l] e pos.line X.env=pure false:=by rfl)(hw:swappedStores [l] e X.env=pure none:=by rfl)
  (G:(assignEach [l] X.env).map (·.2)=[assign l X.env]:=by rfl):PS X (.Assign [l] e pos) (tAsg o g):=by
 intro pins s σ H D I h;refine wpAny_Assign_stores (thn (he pins s σ H _ I h) fun v s1 ⟨x,C,L,J,N⟩=>?_) y hw;rw[G];exact thn (u pins s1 σ C x v _ L J N) fun _ s2 q=>q
theorem Qm{i:Nat}{x:Str}{e:aQ}{C:TE}{u:Pos}(R:X.N.Nodup)(hi:X.N[i]?=some x)(hx:Loc X.env.scope x)(he:PE X e C)(G:swapsWith e (some (.Name x u)) pos.line X.env=pure false:=by rfl)(hf:X.fn x=true\/X.env.scope.names.lookup x=some .local:=by walk_at "F") :
  PS X (.Assign [.Name x u] e pos) (tAsg C (Yo i)):=by
 intro pins s σ H D I h;refine wpAny_Assign_Name (thn (he pins s σ H _ I h) fun v s1 ⟨y,J,U,L,Y⟩=>?_) G;exact Zd U R hi hx L (fun s2 S=>⟨_,J,S,Y⟩) hf
def tPar(i j:Nat)(l:TA):TS:=fun D σ H=>l σ H fun u o=>∃v w,u=[v,w]/\D.nx ((σ.set i (some v)).set j (some w)) o
theorem zrd{i j:Nat}{x y:Str}{a b:aQ}{Y:TA}{S py pt:Pos}{kt k2 pt2}(hc:X.calm=true)(hN:X.N.Nodup)(hi:X.N[i]?=some x)(hj:X.N[j]?=some y)(L:i≠j)
  (hx:X.env.scope.names.lookup x=some .local) (hy:X.env.scope.names.lookup y=some .local) (ha:PA X [a,b] Y)
  (hw:swappedStores [.Tuple [.Name x S,.Name y py] kt pt] (.Tuple [a,b] k2 pt2) X.env=pure (some [x,y]))
  (hs:swapsWithSole [.Tuple [.Name x S,.Name y py] kt pt] (.Tuple [a,b] k2 pt2) pos.line X.env=pure false:=by rfl) :
  PS X (.Assign [.Tuple [.Name x S,.Name y py] kt pt] (.Tuple [a,b] k2 pt2) pos) (tPar i j Y):=by
 intro pins s σ H D I h;rw[exec_Assign_arm];refine aa (cB ?_);rw[hs];refine aa (ag ?_);rw[if_neg (by decide)];refine aa (Tuple_ (thn (ha _ pins s σ H _ I h) fun us s1 ⟨vs,Z,I1,r1,U⟩=>?_));obtain⟨v,w,e1,U⟩:=U;subst e1;obtain⟨G,C,rfl,rv,J⟩:∃G C,us=[G,C]/\RelV v G/\RelV w C:=by
  cases r1 with
  | cons p q =>
   cases q with
   | cons p' q' =>cases q';exact⟨_,_,rfl,p,p'⟩
 refine df ?_ (by show 2<=sizeLine;decide);have I2:Inv X pins σ Z { s1 with heap:=s1.heap.push { cls:=.type "tuple",data:=.seq [G,C].toArray } }:=I1.kept (t':=s1.toks) fun b o e=>aj _ e;rw[hw];refine aa (ag ?_);show wpAny (model X.prog X.w) X.A (do rule "assign.swapped-stores";let items <- unpackItems (.ref s1.heap.objs.size) 2 none;assignInOrder [fun v=>bindName X.env y v,fun v=>bindName X.env x v] items.reverse;pure xF) _ _ _;refine aa (fe (aa (unpackItems_tuple (items:=#[G,C]) (I.ok.hd hc) (IsTup.new s1.heap _) fun h' R=>?_)));have I3:=I2.kept (h':=h') (t':=s1.toks) fun b o e=>R b o (ay (ax e)) e;show wpAny _ _ (assignInOrder [fun v=>bindName X.env y v,fun v=>bindName X.env x v] [C,G] >>= fun _=>pure xF) _ _ _;refine aa (ib (o9 (Zd I3 hN hj (.inl hy) J (fun s2 I4=>?_) (.inr hy))));refine ib (o9 (Zd I4 hN hi (.inl hx) rv (fun s3 I5=>nj (ag ?_)) (.inr hx)));rw[List.set_comm _ _ (fc L)]at I5;exact⟨_,Z,I5,U⟩
def tAug(i:Nat)(v:TE)(o:TIp):TS:=fun D σ H=>∃x,σ[i]?=some (some x)/\v σ H fun y u=>o x y u fun z l=>D.nx (σ.set i (some z)) l
theorem zrf{i:Nat}{x:Str}{e:aQ}{Y:TE}{op:o8}{U:TIp}{L:Pos}(hN:X.N.Nodup)(hi:X.N[i]?=some x)(hx:Loc X.env.scope x)(he:PE X e Y)(ho:PIp X op U)(hf:X.fn x=true\/X.env.scope.names.lookup x=some .local:=by walk_at "F") :
  PS X (.AugAssign (.Name x L) op e pos) (tAug i Y U):=by
 intro pins s σ H D I h;obtain⟨v,e1,h⟩:=h;obtain⟨m,hn,hl⟩:=I.loc;have S:Vis X.env.scope x:=by rcases hx with k|k;exact .inl k;exact .inr (.inl k)
 obtain⟨u,r,l⟩:=hl i x v hi e1 S;refine wpAny_AugAssign_Name ?_;have go:wpAny (model X.prog X.w) X.A (eval e X.env) (fun w J=>wpAny (model X.prog X.w) X.A (inplaceOp op u w) (fun r R=>wpAny (model X.prog X.w) X.A (storeName X.env x r) (fun _=>SP X pins D .next) X.xe R) X.xe J) X.xe s:=by refine thn (he pins s σ H _ I h) fun w s1 ⟨y,H1,I1,r1,q1⟩=>?_;refine thn (ho pins s1 σ H1 v y u w _ I1 r r1 q1) fun z s2 ⟨zv,Z,I2,r2,q2⟩=>?_;exact Zd I2 hN hi hx r2 (fun s3 I3=>⟨_,Z,I3,q2⟩) hf
 rcases l with⟨C,hm⟩|⟨C,c,hc,G⟩;exact lS I.ok.kind C hn hm go;rcases C with C|C;exact mI I.ok.kind C hc G go;rcases hx with k|k;have:X.env.scope.names.lookup x=some .free:=C;rw[k]at this;cases this;have:X.env.scope.names.lookup x=some .free:=C;rw[k]at this;cases this
def ipI(f:Int->Int->Int):TIp:=fun x y H Q=>∃i j,x=.int i/\y=.int j/\Q (.int (f i j)) H
theorem zsh:PIp X .Add (ipI fun i j=>i+j):=by intro pins s σ H x y v u Q I o l h;obtain⟨i,j,C,e2,q⟩:=h;subst C;subst e2;obtain⟨t,rfl⟩:=o;obtain⟨t',rfl⟩:=l;exact iadd_int ⟨.int _,H,I.tok _,⟨_,rfl⟩,q⟩
end
section
variable{X:Cx}{pos:Pos}
def zqJ(c:TT)(u:TS):TS:=fun D σ H=>∃W:Nat->St->Hp->Prop,(∃m,W m σ H)/\∀m σ H,W m σ H ->
 c σ H fun b l=>if b=true then ∃N:St->Hp->Prop,(∀σ' H',N σ' H'->∃o,o<m/\W o σ' H')/\u { D with nx:=N,ct:=N,bk:=D.nx } σ l else D.nx σ l
theorem zna{c:aQ}{body:List dE}{Z:TT}{tb:TS}(Y:nY (model X.prog X.w) X.A X.env X.xe)(hc:PT X c Z)(hb:PSs X body tb):PS X (.While c body [] pos) (zqJ Z tb):=by
 intro pins s σ H D I h;obtain⟨W,⟨m0,w0⟩,turn⟩:=h;refine wpAny_While (codeAny_whileLoop (fun n s'=>∃σ' H',Inv X pins σ' H' s'/\W n σ' H') ?_ m0 ⟨σ,H,I,w0⟩);rintro n s1 ⟨u,H1,I1,w1⟩;refine eE Y (thn (hc pins s1 u H1 _ I1 (turn n u H1 w1)) fun b s2 ⟨U,I2,y⟩=>?_);cases b with
 | true =>
  obtain⟨N,hN,y⟩:=y;rw[if_pos rfl];refine eE Y (thn (hb pins s2 u U _ I2 y) fun f s3 C=>?_);cases f with
  | next =>obtain⟨o,x,G,L⟩:=C;obtain⟨S,J,R⟩:=hN o x L;exact⟨S,J,o,x,G,R⟩
  | cont =>obtain⟨o,x,G,L⟩:=C;obtain⟨S,J,R⟩:=hN o x L;exact⟨S,J,o,x,G,R⟩
  | brk=>exact C
  | ret v=>exact C
 | false =>rw[if_neg aL];exact hJ ⟨u,U,I2,y⟩
end
structure It where
 go:Nat->Hp->Prop
 yld:Nat->Hp->V->Hp->Prop
 stop:Nat->Hp->Prop
def FpOk(X:Cx)(pins:qO)(H:Hp)(b:af):Prop :=
 H b=none/\b≠X.env.locals/\b∉X.fs/\(b∈X.ex\/X.s₀.heap.objs.size<=b)/\(∀x c,X.env.cells.lookup x=some c->c≠b)/\∀p∈X.pn++pins,p.1≠b
theorem Inv.fpOk{X:Cx}{pins:qO}{σ:St}{H H':Hp}{s:ak}{b:af}(I:Inv X pins σ H s)(l:s.heap.objs.size<=b)(o:H' b=none):FpOk X pins H' b:=by refine⟨o,fF (aq I.lt l),I.nofs l,.inr (bA I.sz l),fun x c e z=>?_,fun p u z=>?_⟩;obtain⟨v,q⟩:=I.cell x c e;exact absurd (aq q.lt (by rw[z];exact l)) (fk _);exact absurd (aq (ax (I.pin p u).1) (by rw[z];exact l)) (fk _)
structure Turn(P:aO)(w:br)(K:qF)(tg:aQ)(J:It)(fp:List af)(it:af)(tn:Nat->ba->Prop):Prop where
 mem:it∈fp
 obj:∀i h,tn i h->∀b∈fp,∃o,h.get? b=some o/\∀v,o.data≠.cell v
 keep:∀i h h',tn i h->(∀b∈fp,∀o,h.get? b=some o->h'.get? b=some o)->tn i h'
 item:∀(X:Cx),X.prog=P->X.w=w->X.K=K->X.calm=true->∀(i:Nat) (pins:qO) (s:ak) (σ:St) (H:Hp) (E:qV),Inv X pins σ H s->(∀b∈fp,FpOk X pins H b)->tn i s.heap->J.go i H ->
  wpAny (model P w) X.A (pyNext (.ref it)) (fun r s1=>∃u,r=some u /\
   wpAny (model P w) X.A (letOwnedTupleGo tg (.ref it) u) (fun _ s2=>∃x H',Inv X pins σ H' s2/\RelV x u/\J.yld i H x H'/\tn (i+1) s2.heap/\∀b∈fp,H' b=none) E s1) E s
 done:∀(X:Cx),X.prog=P->X.w=w->X.K=K->X.calm=true->∀(i:Nat) (pins:qO) (s:ak) (σ:St) (H:Hp) (E:qV),Inv X pins σ H s->(∀b∈fp,FpOk X pins H b)->tn i s.heap->J.stop i H ->
  wpAny (model P w) X.A (pyNext (.ref it)) (fun r s1=>r=none/\Inv X pins σ H s1) E s
 self:∀(A:bc) (i:Nat) (s:ak) (Q:qV) (E:qV),tn i s.heap->Q (.ref it) s->wpAny (model P w) A (pyIter (.ref it)) Q E s
abbrev TI:=St->Hp->(It->Hp->Prop)->Prop
def PIE(X:Cx)(pins:qO)(σ:St)(v:aQ)(R:It->Hp->Prop)(l:ae)(s2:ak):Prop :=
 ∃(it:af) (u:List af) (o:Nat->ba->Prop) (J:It) (H':Hp),l=.ref it/\Inv X pins σ H' s2/\Turn X.prog X.w X.K v J u it o/\o 0 s2.heap/\(∀b∈u,FpOk X pins H' b)/\R J H'
def PI(X:Cx)(l iter:aQ)(wi:TI):Prop :=
 ∀(pins:qO) (s:ak) (σ:St) (H:Hp) (R:It->Hp->Prop),Inv X pins σ H s->wi σ H R ->
  wpAny (model X.prog X.w) X.A (eval iter X.env) (fun v s1=>wpAny (model X.prog X.w) X.A (pyIter v) (PIE X pins σ l R) X.xe s1) X.xe s
theorem Yp{M:sU}{A:bc}{E:qV}{s:ak}{x:aQ}{it:af}{u:ae}{o:Obj}{n:String}{C:Array ae}{Q:Unit->ak->Prop}(G:s.heap.get? it=some o)(hc:o.cls=.type n)(hd:o.data=.fields C)
  (I:["enumerate","zip","dict_itemiterator","dict_reverseitemiterator","odict_iterator","itertools.zip_longest","itertools.pairwise"].contains n=false) (v:Q () s):wpAny M A (letOwnedTupleGo x (.ref it) u) Q E s:=by
 unfold letOwnedTupleGo;cases x <;> first
  | exact ag v
  | (cases u <;> first
    | exact ag v
    | (refine aa (pd G ?_)
       rw[hc,hd];show wpAny M A (if (["enumerate","zip","dict_itemiterator","dict_reverseitemiterator","odict_iterator","itertools.zip_longest","itertools.pairwise"].contains n&&C[0]? == some (rawInt _))=true then _ else _) Q E s;rw[if_neg (by intro h;rw[I,lT]at h;cases h)];exact ag v))
def Itl(K:qF)(a:af):It :=
 ⟨fun i H=>∃xs x,SqL K H a xs/\xs[i]?=some x,fun i H x H'=>H'=H/\∀xs,SqL K H a xs->xs[i]?=some x,fun i H=>∃xs,SqL K H a xs/\xs.length<=i⟩
def Itt(K:qF)(a:af):It :=
 ⟨fun i H=>∃xs x,SqT K H a xs/\xs[i]?=some x,fun i H x H'=>H'=H/\∀xs,SqT K H a xs->xs[i]?=some x,fun i H=>∃xs,SqT K H a xs/\xs.length<=i⟩
def Itr(lo:Int)(n:Nat):It:=⟨fun i _=>i<n,fun i H x H'=>H'=H/\x=.int (lo+i),fun i _=>n<=i⟩
theorem zgb{P:aO}{w:br}{K:qF}{tg:aQ}(a it:af):Turn P w K tg (Itl K a) [it] it (fun i h=>h.IsListIter it a i) where
 mem:=by simp
 obj:=fun i h st b l=>by
  have e:b=it:=by simpa using l
  subst e;obtain⟨o,e,c,d⟩:=st;exact⟨o,e,fun v z=>by rw[d]at z;cases z⟩
 keep:=fun i h h' st k=>st.at fun o e=>k it (by simp) o e
 item:=by intro X L hw R hc i pins s σ H E I hf st G;subst L hw R;obtain⟨xs,x,C,hx⟩:=G;obtain⟨its,S,p,hz⟩:=I.list C;obtain⟨u,hu,ru⟩:=S.get hx;obtain⟨f0,f1,f2,N,f4,J⟩:=hf it (by simp);refine kv st p.isList (x:=u) (by simpa using hu) fun h' y U=>?_;have I1:Inv X pins σ H { s with heap:=h' }:=I.turned (t':=s.toks) (fun b o l e=>(U.2 b l).trans e) f0 f1 N f4 J;obtain⟨o,e,c,d⟩:=id y;exact⟨u,rfl,Yp (s:={ s with heap:=h' }) e c d (by decide) ⟨x,H,I1,ru,⟨rfl,fun ys Z=>by rw[I.list_inj Z C];exact hx⟩,y,fun b l=>(hf b l).1⟩⟩
 done:=by intro X L hw R hc i pins s σ H E I hf st G;subst L hw R;obtain⟨xs,C,hx⟩:=G;obtain⟨its,S,p,hz⟩:=I.list C;obtain⟨f0,f1,f2,N,f4,J⟩:=hf it (by simp);have hl:=S.length;exact lH (I.ok.hd hc) st p.isList (by simp;lia) fun h' Y=>⟨rfl,I.turned (t':=s.toks) (fun b o l e=>Y b o l e) f0 f1 N f4 J⟩
 self:=fun _ _ _ _ _ st h=>wpAny_pyIter_listiter st h
theorem zeN{P:aO}{w:br}{K:qF}{tg:aQ}(a it:af):Turn P w K tg (Itt K a) [it] it (fun i h=>h.IsTupleIter it a i) where
 mem:=by simp
 obj:=fun i h st b l=>by
  have e:b=it:=by simpa using l
  subst e;obtain⟨o,e,c,d⟩:=st;exact⟨o,e,fun v z=>by rw[d]at z;cases z⟩
 keep:=fun i h h' st k=>st.at fun o e=>k it (by simp) o e
 item:=by intro X L hw R hc i pins s σ H E I hf st G;subst L hw R;obtain⟨xs,x,C,hx⟩:=G;obtain⟨its,S,p,hz⟩:=I.tuple C;obtain⟨u,hu,ru⟩:=S.get hx;obtain⟨f0,f1,f2,N,f4,J⟩:=hf it (by simp);refine wpAny_pyNext_tuple_item st (show s.heap.IsTuple a its.toArray from p) (x:=u) (by simpa using hu) fun h' y U=>?_;have I1:Inv X pins σ H { s with heap:=h' }:=I.turned (t':=s.toks) (fun b o l e=>(U.2 b l).trans e) f0 f1 N f4 J;obtain⟨o,e,c,d⟩:=id y;exact⟨u,rfl,Yp (s:={ s with heap:=h' }) e c d (by decide) ⟨x,H,I1,ru,⟨rfl,fun ys Z=>by rw[I.tuple_inj Z C];exact hx⟩,y,fun b l=>(hf b l).1⟩⟩
 done:=by intro X L hw R hc i pins s σ H E I hf st G;subst L hw R;obtain⟨xs,C,hx⟩:=G;obtain⟨its,S,p,hz⟩:=I.tuple C;obtain⟨f0,f1,f2,N,f4,J⟩:=hf it (by simp);have hl:=S.length;exact wpAny_pyNext_tuple_end (I.ok.hd hc) st (show s.heap.IsTuple a its.toArray from p) (by simp;lia) fun h' Y=>⟨rfl,I.turned (t':=s.toks) (fun b o l e=>Y b o l e) f0 f1 N f4 J⟩
 self:=fun _ _ _ _ _ st h=>wpAny_pyIter_tupleiter st h
theorem zji{P:aO}{w:br}{K:qF}{R:aQ}(it:af)(lo:Int)(n:Nat):Turn P w K R (Itr lo n) [it] it (fun i h=>lU h it (lo+(i:Nat)*1) ((n:Int) - (i:Nat)) 1) where
 mem:=by simp
 obj:=fun i h st b l=>by
  have e:b=it:=by simpa using l
  subst e;exact⟨_,st,fun v z=>by have Y:uH _=xG v:=z;cases Y⟩
 keep:=fun i h h' st k=>k it (by simp) _ st
 item:=by intro X C hw J hc i pins s σ H E I hf st x;subst C hw J;obtain⟨f0,f1,f2,G,f4,y⟩:=hf it (by simp);have W:=uI (prog:=X.prog) (w:=X.w) (I.ok.hd hc) it lo 1 n;refine W.item i s _ _ x st fun v h' tk U u L=>?_;obtain⟨t,rfl⟩:=U;have S:Inv X pins σ H { s with heap:=h',toks:=tk }:=I.turned (fun b o l e=>L b o (by simpa using l) e) f0 f1 G f4 y;refine⟨_,rfl,Yp (s:={ s with heap:=h',toks:=tk }) (n:="range_iterator") u rfl rfl (by decide) ⟨.int (lo+i),H,S,⟨t,?_⟩,⟨rfl,rfl⟩,u,fun b l=>(hf b l).1⟩⟩;rw[iH]
 done:=by intro X C hw J hc i pins s σ H E I hf st x;subst C hw J;obtain⟨f0,f1,f2,G,f4,y⟩:=hf it (by simp);exact ky (I.ok.hd hc) st (by have:n<=i:=x;lia) fun h' N=>⟨rfl,I.turned (t':=s.toks) (fun b o l e=>N b o l e) f0 f1 G f4 y⟩
 self:=fun _ _ _ _ _ st h=>kB st h
section
variable{X:Cx}{tg:aQ}
def zvr(K:qF)(o:TE):TI:=fun σ H R=>o σ H fun x l=>∃a,x=.ref a/\(∃xs,SqL K l a xs)/\R (Itl K a) l
def iTup(K:qF)(o:TE):TI:=fun σ H R=>o σ H fun x l=>∃a,x=.ref a/\(∃xs,SqT K l a xs)/\R (Itt K a) l
theorem zkP{l:aQ}{y:TE}(N:PE X l y):PI X tg l (zvr X.K y):=by
 intro pins s σ H R I h;refine thn (N pins s σ H _ I h) fun v s1 ⟨x,J,u,L,S⟩=>?_;obtain⟨a,e,⟨xs,G⟩,q⟩:=S;subst e;cases L;obtain⟨its,U,p,hz⟩:=u.list G;refine gv p.isList ?_;refine⟨s1.heap.objs.size,[s1.heap.objs.size],_,_,J,rfl,u.kept (t':=s1.toks) fun b o e=>aj _ e,zgb a _,⟨_,aA _ rfl,rfl,rfl⟩,fun b C=>?_,q⟩;have e:b=s1.heap.objs.size:=by simpa using C
 subst e;exact u.fpOk (av _) (u.hok.fresh (av _))
theorem zrh{l:aQ}{y:TE}(N:PE X l y):PI X tg l (iTup X.K y):=by
 intro pins s σ H R I h;refine thn (N pins s σ H _ I h) fun v s1 ⟨x,J,u,L,S⟩=>?_;obtain⟨a,e,⟨xs,G⟩,q⟩:=S;subst e;cases L;obtain⟨its,U,p,hz⟩:=u.tuple G;refine mV (show s1.heap.IsTuple a its.toArray from p) ?_;refine⟨s1.heap.objs.size,[s1.heap.objs.size],_,_,J,rfl,u.kept (t':=s1.toks) fun b o e=>aj _ e,zeN a _,⟨_,aA _ rfl,rfl,rfl⟩,fun b C=>?_,q⟩;have e:b=s1.heap.objs.size:=by simpa using C
 subst e;exact u.fpOk (av _) (u.hok.fresh (av _))
theorem zix{pins:qO}{σ:St}{H:Hp}{s:ak}{R:It->Hp->Prop}{E:qV}{lo hi:Int}{t u v:Tok}{tk:Nat}(I:Inv X pins σ H s)(S:-(2 ^ 62)<=lo)(L:lo<2 ^ 62)(G:-(2 ^ 62)<=hi)(J:hi<2 ^ 62)
  (q:R (Itr lo (hi - lo).toNat) H):wpAny (model X.prog X.w) X.A (pyIter (.ref s.heap.objs.size)) (PIE X pins σ tg R) E { s with heap:=s.heap.push { cls:=.type "range",data:=.fields #[.int lo t,.int hi u,.int 1 v] },toks:=tk }:=by
 refine mW (uJ ..) (small_one S L G J) ?_;have x:Inv X pins σ H { s with heap:=s.heap.push { cls:=.type "range",data:=.fields #[.int lo t,.int hi u,.int 1 v] },toks:=tk }:=I.kept fun b o e=>aj _ e;refine⟨(s.heap.push { cls:=.type "range",data:=.fields #[.int lo t,.int hi u,.int 1 v] }).objs.size,[(s.heap.push { cls:=.type "range",data:=.fields #[.int lo t,.int hi u,.int 1 v] }).objs.size],_,_,H,rfl,
  x.kept (t':=tk) fun b o e=>aj _ e,zji _ lo (hi - lo).toNat,?_,fun b C=>?_,q⟩
 have U:lo+((0:Nat):Int)*1=lo:=by simp
 have e2:(((hi - lo).toNat:Nat):Int) - ((0:Nat):Int)=bU lo hi 1:=by rw[rangeSize_one];split <;> lia
 show lU _ _ (lo+((0:Nat):Int)*1) ((((hi - lo).toNat:Nat):Int) - ((0:Nat):Int)) 1;rw[U,e2];exact aA _ rfl;have e:b=(s.heap.push { cls:=.type "range",data:=.fields #[.int lo t,.int hi u,.int 1 v] }).objs.size:=by simpa using C
 subst e;exact x.fpOk (av _) (x.hok.fresh (av _))
def zvq(l:TA):TI:=fun σ H R=>l σ H fun u o=>∃j:Int,u=[.int j]/\-(2 ^ 62)<=j/\j<2 ^ 62/\R (Itr 0 j.toNat) o
def zvp(l:TA):TI:=fun σ H R=>l σ H fun v u=>∃i j:Int,v=[.int i,.int j]/\(-(2 ^ 62)<=i/\i<2 ^ 62/\-(2 ^ 62)<=j/\j<2 ^ 62)/\R (Itr i (j - i).toNat) u
theorem zkO{a:aQ}{u:TA}{p pos:Pos}(x:Gl X "range") (y:X.mg "range" = none) (J:PA X [a] u) (G:starEach [a] X.env=[(false,eval a X.env)]:=by rfl):PI X tg (.Call (.Name "range" p) [a] [] pos) (zvq u):=by
 intro pins s σ H R I h;refine Call_ (Q4 I x y pf (c8 (thn (J pos pins s σ H _ I h) fun Z s1 ⟨vs,Y,U,L,o⟩=>?_) G rfl));obtain⟨j,e,o,S,q⟩:=o;subst e;cases L with
 | cons r v =>cases v;obtain⟨t,rfl⟩:=r;exact call_range_1 (zix U (by lia) (by lia) o S (by simpa using q))
theorem zkN{a b:aQ}{x:TA}{p pos:Pos}(y:Gl X "range") (J:X.mg "range" = none) (U:PA X [a,b] x) (L:starEach [a,b] X.env=[(false,eval a X.env),(false,eval b X.env)]:=by rfl) (o:starEach [b] X.env=[(false,eval b X.env)]:=by rfl) :
  PI X tg (.Call (.Name "range" p) [a,b] [] pos) (zvp x):=by
 intro pins s σ H R I h;refine Call_ (Q4 I y J pf (c8 (thn (U pos pins s σ H _ I h) fun us s1 ⟨vs,H1,I1,Y,v⟩=>?_) (by rw[L,o]) (by rw[o];rfl)));obtain⟨i,j,e,⟨v,Z,q3,S⟩,q⟩:=v;subst e;cases Y with
 | cons r u =>
  cases u with
  | cons G u =>cases u;obtain⟨t,rfl⟩:=r;obtain⟨t',rfl⟩:=G;exact call_range_2 (zix I1 v Z q3 S q)
def tFor(wi:TI)(g:TG)(y:TS):TS:=fun D σ H=>wi σ H fun J v=>∃W:Nat->Nat->St->Hp->Prop,(∃m,W 0 m σ v)/\∀i m σ H,W i m σ H ->
 (J.stop i H/\D.nx σ H)\/(J.go i H/\∃N:St->Hp->Prop,(∀σ' H',N σ' H'->∃o,o<m/\W (i+1) o σ' H')/\∀x H',J.yld i H x H'->g x σ H' fun l u=>y { D with nx:=N,ct:=N,bk:=D.nx } l u)
def Yz(l:List af)(h:ba):List (af×Obj):=l.filterMap fun b=>(h.get? b).map fun o=>(b,o)
theorem Vx{l:List af}{h:ba}{b:af}{o:Obj}(u:b∈l)(e:h.get? b=some o):(b,o)∈Yz l h:=d9.mpr ⟨b,u,by rw[e];rfl⟩
theorem zk7{l:List af}{h:ba}{p:af×Obj}(v:p∈Yz l h):p.1∈l/\h.get? p.1=some p.2:=by
 obtain⟨b,u,e⟩:=d9.mp v;cases q:h.get? b with
 | none=>rw[q]at e;cases e
 | some o =>rw[q]at e;have x:(b,o)=p:=au e;subst x;exact⟨u,q⟩
theorem Inv.pinned{pins:qO}{σ:St}{H:Hp}{s:ak}{u:List af}(I:Inv X pins σ H s)(hf:∀b∈u,FpOk X pins H b)(C:∀b∈u,∃o,s.heap.get? b=some o/\∀v,o.data≠.cell v):Inv X (pins++Yz u s.heap) σ H s :=
 I.pins_of fun p G=>(aT.mp G).elim (fun z=>I.pin p (aH _ z)) fun z=>by obtain⟨x,e⟩:=zk7 z;obtain⟨f0,f1,f2,_⟩:=hf p.1 x;obtain⟨o,y,d⟩:=C p.1 x;rw[e]at y;cases y;exact⟨e,f0,f1,f2,d⟩
theorem Inv.unpinned{pins pl:qO}{σ:St}{H:Hp}{s:ak}(I:Inv X (pins++pl) σ H s):Inv X pins σ H s:=I.pins_of fun p l=>I.pin p (aH _ (eH _ l))
theorem zre{iter:aQ}{body:List dE}{wi:TI}{g:TG}{tb:TS}{pos:Pos}(Z:nY (model X.prog X.w) X.A X.env X.xe)(hc:X.calm=true)(hi:PI X tg iter wi)(hg:PG X tg g)(y:PSs X body tb)
  (hs:∀x,foldedSetIterable iter X.env x=pure x:=by intro _;rfl):PS X (.For tg iter body [] pos) (tFor wi g tb):=by
 intro pins s σ H D I h;refine wpAny_For (thn (hi pins s σ H _ I h) fun v s1 h1=>thn h1 fun itv s2 h2=>?_) hs;obtain⟨it,Y,tn,J,H2,e,I2,T,st2,f2,W,⟨m0,w0⟩,turn⟩:=h2;subst e;have HJ:∀{H':Hp},(∀b∈Y,H' b=none)->∀b∈Y,FpOk X pins H' b:=fun hn b y=>⟨hn b y,(f2 b y).2⟩;refine codeAny_forLoop_any (fun n s'=>∃i σ' H',Inv X pins σ' H' s'/\tn i s'.heap/\(∀b∈Y,H' b=none)/\W i n σ' H') ?_ m0 ⟨0,σ,H2,I2,st2,fun b y=>(f2 b y).1,w0⟩;rintro n s3 ⟨i,L,H3,I3,st3,U,w3⟩;rcases turn i n L H3 w3 with⟨stop,qn⟩|⟨go,N,hN,step⟩
 ·refine eE Z (thn (T.done X rfl rfl rfl hc i pins s3 L H3 X.xe I3 (HJ U) st3 stop) fun r s4 ⟨hr,I4⟩=>?_);subst hr;exact hJ ⟨L,H3,I4,qn⟩
 ·refine eE Z (thn (T.item X rfl rfl rfl hc i pins s3 L H3 X.xe I3 (HJ U) st3 go) fun r s4 ⟨u,hr,h4⟩=>?_);subst hr;refine eE Z (thn h4 fun _ s5 ⟨x,H5,I5,r5,y5,S,fr5⟩=>?_);have I5':=I5.pinned (HJ fr5) (T.obj _ _ S);refine eE Z (thn (hg _ s5 L H5 x u _ I5' r5 (step x H5 y5)) fun _ s6 ⟨σ6,H6,I6,q6⟩=>?_);refine eE Z (thn (y _ s6 σ6 H6 _ I6 q6) fun f s7 R=>?_);have again:∀{l:St} {G:Hp},Inv X (pins++Yz Y s5.heap) l G s7->N l G->∃m,m<n/\∃i σ' H',Inv X pins σ' H' s7/\tn i s7.heap/\(∀b∈Y,H' b=none)/\W i m σ' H':=fun {l G} C n7=>by
   obtain⟨m',hm,w7⟩:=hN l G n7;refine⟨m',hm,i+1,l,G,C.unpinned,T.keep _ _ _ S fun b y o e=>(C.pin (b,o) (aH _ (aH _ (Vx y e)))).1,fun b y=>?_,w7⟩;obtain⟨o,e,d⟩:=T.obj _ _ S b y;exact(C.pin (b,o) (aH _ (aH _ (Vx y e)))).2.1
  cases f with
  | next=>obtain⟨l,G,C,n7⟩:=R;exact again C n7
  | cont=>obtain⟨l,G,C,n7⟩:=R;exact again C n7
  | brk=>obtain⟨l,G,C,R⟩:=R;exact⟨l,G,C.unpinned,R⟩
  | ret v=>obtain⟨x7,l,G,C,r7,R⟩:=R;exact⟨x7,l,G,C.unpinned,r7,R⟩
end
abbrev R2:=V->V->Hp->VK->Prop
def OpR(X:Cx)(f:ae->ae->Sem ae)(r:R2):Prop :=
 ∀(pins:qO) (s:ak) (σ:St) (H:Hp) (x y:V) (v u:ae) (Q:VK),Inv X pins σ H s->RelV x v->RelV y u->r x y H Q ->
  wpAny (model X.prog X.w) X.A (f v u) (EP X pins σ Q) X.xe s
def UnR(X:Cx)(f:ae->Sem ae)(r:V->Hp->VK->Prop):Prop :=
 ∀(pins:qO) (s:ak) (σ:St) (H:Hp) (x:V) (v:ae) (Q:VK),Inv X pins σ H s->RelV x v->r x H Q ->
  wpAny (model X.prog X.w) X.A (f v) (EP X pins σ Q) X.xe s
def JQ(X:Cx)(f:ae)(r:List V->Hp->VK->Prop):Prop :=
 ∀(pins:qO) (s:ak) (σ:St) (H:Hp) (xs:List V) (l:List ae) (Q:VK),Inv X pins σ H s->Vals xs l->r xs H Q ->
  wpAny (model X.prog X.w) X.A (call f l) (EP X pins σ Q) X.xe s
def TruR(X:Cx)(r:V->Hp->(Bool->Hp->Prop)->Prop):Prop :=
 ∀(pins:qO) (s:ak) (σ:St) (H:Hp) (x:V) (v:ae) (Q:Bool->Hp->Prop),Inv X pins σ H s->RelV x v->r x H Q ->
  wpAny (model X.prog X.w) X.A (truthy v) (TP X pins σ Q) X.xe s
def tOp(r:R2)(o v:TE):TE:=fun σ H Q=>o σ H fun x u=>v σ u fun y l=>r x y l Q
def tUn(r:V->Hp->VK->Prop)(l:TE):TE:=fun σ H Q=>l σ H fun x o=>r x o Q
def rI(C:Int->Int->Prop)(g:Int->Int->V):R2:=fun x y H Q=>∃i j,x=.int i/\y=.int j/\C i j/\Q (g i j) H
def rI0(g:Int->Int->V):R2:=fun x y H Q=>∃i j,x=.int i/\y=.int j/\Q (g i j) H
def rU(g:Int->V):V->Hp->VK->Prop:=fun x H Q=>∃i,x=.int i/\Q (g i) H
section
variable{X:Cx}{a b c:aQ}{ta tb tc:TE}{pos:Pos}
theorem binT(N:PE X a ta)(J:PE X b tb){pins:qO}{s:ak}{σ:St}{H:Hp}{R:V->V->Hp->Prop}(I:Inv X pins σ H s)
  (h:ta σ H fun x G=>tb σ G fun y l=>R x y l) {Q:qV} {f:ae->ae->Sem ae}
  (hf:∀v u s2 x y l,Inv X pins σ l s2->RelV x v->RelV y u->R x y l->wpAny (model X.prog X.w) X.A (f v u) Q X.xe s2) :
  wpAny (model X.prog X.w) X.A (eval a X.env) (fun v C=>wpAny (model X.prog X.w) X.A (eval b X.env) (fun u o=>wpAny (model X.prog X.w) X.A (f v u) Q X.xe o) X.xe C) X.xe s:=by
 refine thn (N pins s σ H _ I h) fun v s1 ⟨x,G,Z,S,q1⟩=>?_;refine thn (J pins s1 σ G _ Z q1) fun u s2 ⟨y,l,Y,L,U⟩=>?_;exact hf v u s2 x y l Y S L U
theorem JF{op:o8}{r:R2}(o:OpR X (binaryOp op) r)(J:PE X a ta)(C:PE X b tb):PE X (.BinOp a op b pos) (tOp r ta tb):=by intro pins s σ H Q I h;exact wpAny_BinOp (binT J C I h fun v u s2 x y l N G L q=>o pins s2 σ l x y v u Q N G L q)
theorem zuG{op:UnaryOp}{r:V->Hp->VK->Prop}(o:UnR X (unaryOp op) r)(J:PE X a ta):PE X (.UnaryOp op a pos) (tUn r ta):=by intro pins s σ H Q I h;exact UnaryOp_ (thn (J pins s σ H _ I h) fun v s1 ⟨x,C,u,l,G⟩=>o pins s1 σ C x v Q u l G)
theorem opI{f:ae->ae->Sem ae}{C:Int->Int->Prop}{g:Int->Int->Int}
  (rule:∀(i j:Int) (t u:Tok) (s:ak) (Q:qV) (E:qV),C i j->Q (.int (g i j) s.toks) { s with toks:=s.toks+1 }->wpAny (model X.prog X.w) X.A (f (.int i t) (.int j u)) Q E s) :
  OpR X f (rI C fun i j=>.int (g i j)):=by
 intro pins s σ H x y v u Q I l o h;obtain⟨i,j,rfl,rfl,hc,q⟩:=h;obtain⟨t,rfl⟩:=l;obtain⟨t',rfl⟩:=o;exact rule i j t t' s _ _ hc ⟨.int (g i j),H,I.tok _,⟨_,rfl⟩,q⟩
theorem opI0{f:ae->ae->Sem ae}{g:Int->Int->Int}
  (rule:∀(i j:Int) (t u:Tok) (s:ak) (Q:qV) (E:qV),Q (.int (g i j) s.toks) { s with toks:=s.toks+1 }->wpAny (model X.prog X.w) X.A (f (.int i t) (.int j u)) Q E s) :
  OpR X f (rI0 fun i j=>.int (g i j)):=by
 intro pins s σ H x y v u Q I l o h;obtain⟨i,j,rfl,rfl,q⟩:=h;obtain⟨t,rfl⟩:=l;obtain⟨t',rfl⟩:=o;exact rule i j t t' s _ _ ⟨.int (g i j),H,I.tok _,⟨_,rfl⟩,q⟩
theorem opB0{f:ae->ae->Sem ae}{g:Int->Int->Bool}
  (rule:∀(i j:Int) (t u:Tok) (s:ak) (Q:qV) (E:qV),Q (.bool (g i j)) s->wpAny (model X.prog X.w) X.A (f (.int i t) (.int j u)) Q E s) :
  OpR X f (rI0 fun i j=>.bl (g i j)):=by
 intro pins s σ H x y v u Q I C G h;obtain⟨i,j,rfl,rfl,q⟩:=h;obtain⟨t,rfl⟩:=C;obtain⟨t',rfl⟩:=G;exact rule i j t t' s _ _ ⟨.bl (g i j),H,I,rfl,q⟩
def CPow(i j:Int):Prop:=0<=j/\j<=1000000/\i.natAbs<2 ^ 64
def CMul(i j:Int):Prop:=(-(2 ^ 64)<i/\i<2 ^ 64)\/(-(2 ^ 64)<j/\j<2 ^ 64)
theorem CMul.ok{i j:Int}(h:CMul i j):IntMulOk i j:=by rcases h with⟨u,v⟩|⟨u,v⟩;exact .of_left (intBits_le_64 u v);exact .of_right (intBits_le_64 u v)
theorem zjh(k:Nat):(0:Int)<=2 ^ k:=by rw[two_pow_cast];exact ic _
theorem QS:OpR X (binaryOp .Add) (rI0 fun i j=>.int (i+j)):=opI0 fun _ _ _ _ _ _ _ q=>add_int q
theorem zry:OpR X (binaryOp .Sub) (rI0 fun i j=>.int (i - j)):=opI0 fun _ _ _ _ _ _ _ q=>sub_int q
theorem QT:OpR X (binaryOp .Mult) (rI CMul fun i j=>.int (i*j)):=opI fun _ _ _ _ _ _ _ hc q=>mul_int q hc.ok
theorem Uv:OpR X (binaryOp .Mod) (rI (fun _ j=>0<j) fun i j=>.int (i % j)):=opI fun i j _ _ _ _ _ hc q=>by have l:(0:Int)<j:=hc;exact mod_int' (by lia) (by rw[Int.fmod_eq_emod_of_nonneg i (by lia)];exact q)
theorem zog:OpR X (binaryOp .Pow) (rI CPow fun i j=>.int (i ^ j.toNat)):=opI fun _ _ _ _ _ _ _ hc q=>pow_int_small hc.1 hc.2.1 hc.2.2 q
theorem zrA:OpR X (binaryOp .LShift) (rI CPow fun i j=>.int (i*2 ^ j.toNat)):=opI fun _ _ _ _ _ _ _ hc q=>lshift_int_small hc.1 hc.2.1 hc.2.2 q
theorem zrz:OpR X (binaryOp .RShift) (rI (fun _ j=>0<=j) fun i j=>.int (i / 2 ^ j.toNat)):=opI fun i j _ _ _ _ _ hc q =>
 rshift_int hc (by rw[ig i (zjh _)];exact q)
theorem zrJ:OpR X (binaryOp .BitAnd) (rI0 fun i j=>.int (fA i j)):=opI0 fun _ _ _ _ _ _ _ q=>and_int q
theorem zrx:OpR X (binaryOp .BitXor) (rI0 fun i j=>.int (bV i j)):=opI0 fun _ _ _ _ _ _ _ q=>xor_int q
theorem unI{f:ae->Sem ae}{g:Int->Int}
  (rule:∀(i:Int) (t:Tok) (s:ak) (Q:qV) (E:qV),Q (.int (g i) s.toks) { s with toks:=s.toks+1 }->wpAny (model X.prog X.w) X.A (f (.int i t)) Q E s) :
  UnR X f (rU fun i=>.int (g i)):=by
 intro pins s σ H x v Q I l h;obtain⟨i,rfl,q⟩:=h;obtain⟨t,rfl⟩:=l;exact rule i t s _ _ ⟨.int (g i),H,I.tok _,⟨_,rfl⟩,q⟩
theorem zqC:UnR X (unaryOp .USub) (rU fun i=>.int (-i)):=unI fun _ _ _ _ _ q=>neg_int q
end
def scal:V->V->Bool
 | .non,.non=>true|.non,.int _=>true|.int _,.non=>true|.non,.bl _=>true|.bl _,.non=>true|.non,.str _=>true|.str _,.non=>true
 | .int _,.int _=>true|.bl _,.bl _=>true|.str _,.str _=>true|.byt _,.byt _=>true
 | .int _,.str _=>true|.str _,.int _=>true|.bl _,.str _=>true|.str _,.bl _=>true
 | _,_=>false
def rEq:R2:=fun x y H Q=>scal x y=true/\Q (.bl (decide (x=y))) H
def rNe:R2:=fun x y H Q=>scal x y=true/\Q (.bl (!decide (x=y))) H
theorem zl_{i j:Int}:decide (V.int i=V.int j)=(i == j):=by rw[cO];simp
theorem zox{i j:Bool}:decide (V.bl i=V.bl j)=(i == j):=by rw[cO];simp
theorem zl9{i j:Str}:decide (V.str i=V.str j)=(i == j):=by rw[cO];simp
theorem zma{i j:Array UInt8}:decide (V.byt i=V.byt j)=(i.toList == j.toList):=by rw[cO];cases i;cases j;simp
section
variable{X:Cx}{a b c:aQ}{ta tb tc:TE}{pos:Pos}
theorem Js{pins:qO}{σ:St}{H:Hp}{s:ak}{Q:VK}{k u:Bool}(I:Inv X pins σ H s)(q:Q (.bl k) H)(e:k=u):EP X pins σ Q (.bool u) s:=by subst e;exact⟨.bl k,H,I,rfl,q⟩
theorem zuM:OpR X (compareOp .Eq) rEq:=by
 intro pins s σ H x y v u Q I C l h;obtain⟨o,q⟩:=h;cases x with
 | non =>
  cases C;cases y with
  | non=>cases l;exact p5 (Js I q (by simp))
  | bl j=>cases l;exact p7 (Js I q (by simp))
  | int j=>obtain⟨t',rfl⟩:=l;exact rO (Js I q (by simp))
  | str j=>obtain⟨t',rfl⟩:=l;exact rP (Js I q (by simp))
  | _=>exact absurd (show false=true from o) aL
 | bl i =>
  cases C;cases y with
  | non=>cases l;exact p9 (Js I q (by simp))
  | bl j=>cases l;exact eq_bool (Js I q zox)
  | str j=>obtain⟨t',rfl⟩:=l;exact rf (Js I q (by simp))
  | _=>exact absurd (show false=true from o) aL
 | int i =>
  obtain⟨t,rfl⟩:=C;cases y with
  | non=>cases l;exact rQ (Js I q (by simp))
  | int j=>obtain⟨t',rfl⟩:=l;exact eq_int (Js I q zl_)
  | str j=>obtain⟨t',rfl⟩:=l;exact rR (Js I q (by simp))
  | _=>exact absurd (show false=true from o) aL
 | str i =>
  obtain⟨t,rfl⟩:=C;cases y with
  | non=>cases l;exact rS (Js I q (by simp))
  | bl j=>cases l;exact rg (Js I q (by simp))
  | int j=>obtain⟨t',rfl⟩:=l;exact rT (Js I q (by simp))
  | str j=>obtain⟨t',rfl⟩:=l;exact eq_str (Js I q zl9)
  | _=>exact absurd (show false=true from o) aL
 | byt i =>
  obtain⟨t,rfl⟩:=C;cases y with
  | byt j=>obtain⟨t',rfl⟩:=l;exact PySem.W.eq_bytes (Js I q zma)
  | _=>exact absurd (show false=true from o) aL
 | _=>cases y <;> exact absurd (show false=true from o) aL
theorem zuK:OpR X (compareOp .NotEq) rNe:=by
 intro pins s σ H x y v u Q I G l h;obtain⟨C,q⟩:=h;cases x with
 | non =>
  cases G;cases y with
  | non=>cases l;exact rh (Js I q (by simp))
  | bl j=>cases l;exact rm (Js I q (by simp))
  | int j=>obtain⟨t',rfl⟩:=l;exact rV (Js I q (by simp))
  | str j=>obtain⟨t',rfl⟩:=l;exact rW (Js I q (by simp))
  | _=>exact absurd (show false=true from C) aL
 | bl i =>
  cases G;cases y with
  | non=>cases l;exact rn (Js I q (by simp))
  | bl j=>cases l;exact ne_bool (Js I q (congrArg not zox))
  | str j=>obtain⟨t',rfl⟩:=l;exact rq (Js I q (by simp))
  | _=>exact absurd (show false=true from C) aL
 | int i =>
  obtain⟨t,rfl⟩:=G;cases y with
  | non=>cases l;exact rX (Js I q (by simp))
  | int j=>obtain⟨t',rfl⟩:=l;exact ne_int (Js I q (congrArg not zl_))
  | str j=>obtain⟨t',rfl⟩:=l;exact rY (Js I q (by simp))
  | _=>exact absurd (show false=true from C) aL
 | str i =>
  obtain⟨t,rfl⟩:=G;cases y with
  | non=>cases l;exact rZ (Js I q (by simp))
  | bl j=>cases l;exact rA (Js I q (by simp))
  | int j=>obtain⟨t',rfl⟩:=l;exact r8 (Js I q (by simp))
  | str j=>obtain⟨t',rfl⟩:=l;exact ne_str (Js I q (congrArg not zl9))
  | _=>exact absurd (show false=true from C) aL
 | byt i =>
  obtain⟨t,rfl⟩:=G;cases y with
  | byt j=>obtain⟨t',rfl⟩:=l;exact PySem.W.ne_bytes (Js I q (congrArg not zma))
  | _=>exact absurd (show false=true from C) aL
 | _=>cases y <;> exact absurd (show false=true from C) aL
theorem zrE:OpR X (compareOp .Lt) (rI0 fun i j=>.bl (decide (i<j))):=opB0 fun _ _ _ _ _ _ _ q=>lt_int q
theorem zuL:OpR X (compareOp .LtE) (rI0 fun i j=>.bl (decide (i<=j))):=opB0 fun _ _ _ _ _ _ _ q=>le_int q
theorem ZG:OpR X (compareOp .Gt) (rI0 fun i j=>.bl (decide (j<i))):=opB0 fun _ _ _ _ _ _ _ q=>gt_int q
theorem zrH:OpR X (compareOp .GtE) (rI0 fun i j=>.bl (decide (j<=i))):=opB0 fun _ _ _ _ _ _ _ q=>ge_int q
theorem zkY:OpR X (compareOp .Lt) (fun x y H Q=>∃i j,x=.str i/\y=.str j/\Q (.bl (decide (i.cps.toList<j.cps.toList))) H):=by intro pins s σ H x y v u Q I o C h;obtain⟨i,j,rfl,rfl,q⟩:=h;obtain⟨t,rfl⟩:=o;obtain⟨t',rfl⟩:=C;exact lt_str (Js I q rfl)
theorem zpj:OpR X (compareOp .IsNot) (fun x y H Q=>y=.non/\Q (.bl (!decide (x=.non))) H):=by
 intro pins s σ H x y v u Q I C G h;obtain⟨rfl,q⟩:=h;cases G;refine isnot_none_gen (Js I q ?_);cases x <;> first
  | (cases C;rfl)
  | (obtain⟨t,rfl⟩:=C;rfl)
theorem OpR.or{f:ae->ae->Sem ae}{r l:R2}(h:OpR X f r)(h':OpR X f l):OpR X f (fun x y H Q=>r x y H Q\/l x y H Q):=by intro pins s σ H x y v u Q I o C q;rcases q with q|q;exact h pins s σ H x y v u Q I o C q;exact h' pins s σ H x y v u Q I o C q
theorem Jk(b:aQ){op:uK}(h:op≠.In:=by decide)(l:op≠.NotIn:=by decide):behindInMarks op b=false:=by
 have u:(op == CmpOp.In)=false:=by cases op <;> first|rfl|exact absurd rfl h
 have e2:(op == CmpOp.NotIn)=false:=by cases op <;> first|rfl|exact absurd rfl l
 cases b <;> simp[behindInMarks,u,e2]
theorem zkS{op:uK}{r:R2}(G:OpR X (compareOp op) r)(R:PE X a ta)(J:PE X b tb)(N:behindInMarks op b=false):PE X (.Compare a [op] [b] pos) (tOp r ta tb):=by intro pins s σ H Q I h;exact wpAny_Compare1 (binT R J I h fun v u s2 x y l U L S q=>G pins s2 σ l x y v u Q U L S q) N
def zqK(t:TE):TT:=fun σ H Q=>t σ H fun x H'=>∃k,x=.bl k/\Q k H'
theorem zhD{op:uK}{r:R2}(J:OpR X (compareOp op) r)(Y:PE X a ta)(L:PE X b tb)(R:behindInMarks op b=false):PT X (.Compare a [op] [b] pos) (zqK (tOp r ta tb)):=by
 intro pins s σ H Q I h;refine wpAny_isTrue_Compare1 (thn (Y pins s σ H _ I h) fun v s1 ⟨x,S,I1,Z,q1⟩=>thn (L pins s1 σ S _ I1 q1) fun u s2 ⟨y,l,I2,U,q2⟩ =>
  thn (J pins s2 σ l x y v u _ I2 Z U q2) fun c s3 ⟨z,H3,N,G,k,e,q3⟩=>?_) R
 subst e;cases G;exact cK ⟨H3,N,q3⟩
def zqM(r G:R2)(ta tb tc:TE):TE:=fun σ H Q=>ta σ H fun x I=>tb σ I fun y u=>r x y u fun z o=>∃k,z=.bl k /\
 (if k=true then tc σ o fun v C=>G y v C Q else Q (.bl false) o)
theorem zm_{op l:uK}{r J:R2}(ho:OpR X (compareOp op) r)(G:OpR X (compareOp l) J)(ha:PE X a ta)(hb:PE X b tb)(hc:PE X c tc)
  (hm:lastMarks [op,l] [b,c]=false:=by with_unfolding_all rfl):PT X (.Compare a [op,l] [b,c] pos) (zqK (zqM r J ta tb tc)):=by
 intro pins s σ H Q I h;refine isTrue_chain (thn (ha pins s σ H _ I h) fun v s1 ⟨x,H1,I1,r1,q1⟩=>test_link (thn (hb pins s1 σ H1 _ I1 q1) fun u s2 ⟨y,U,I2,N,q2⟩ =>
  thn (ho pins s2 σ U x y v u _ I2 r1 N q2) fun d s3 ⟨z,R,L,Y,k,e,S⟩=>?_)) hm
 subst e;cases Y;refine cK ?_;cases k with
 | false =>obtain⟨k',e',q'⟩:=S;cases e';exact ite_ff ⟨R,L,q'⟩
 | true =>refine ite_tt (test_last (thn (hc pins s3 σ R _ L S) fun w' s4 ⟨z',H4,I4,r4,q4⟩=>thn (G pins s4 σ H4 y z' u w' _ I4 N r4 q4) fun d' s5 ⟨z2,Z,I5,r5,k2,e2,q5⟩=>?_));subst e2;cases r5;exact cK ⟨Z,I5,q5⟩
def TruV(K:qF)(x:V)(H:Hp)(k:Bool):Prop :=
 match x with
 | .non=>k=false
 | .bl b=>k=b
 | .int i=>k=(i != 0)
 | .str y=>y.length<=sizeLine/\k=((y.length:Int) != 0)
 | .byt y=>y.size<=sizeLine/\k=((y.size:Int) != 0)
 | .ref p=>(∃xs,SqL K H p xs/\k=!xs.isEmpty)\/(∃xs,SqT K H p xs/\k=!xs.isEmpty)\/∃u,H p=some (.dK u)/\k=!u.isEmpty
 | _=>False
theorem zjM{u:Type}{l:List (u×V)}{o:List (u×ae)}(r:KV l o):(!o.isEmpty)=!l.isEmpty:=by cases r <;> rfl
theorem ze1{xs:List V}{its:List ae}(r:Vals xs its):(!its.toArray.isEmpty)=!xs.isEmpty:=by cases r <;> simp
theorem Ut:(sizeLine:Nat)<2 ^ 63:=by rw[dP];decide
theorem zqF:TruR X (fun x H Q=>∃k,TruV X.K x H k/\Q k H):=by
 intro pins s σ H x v Q I G h;obtain⟨k,e,q⟩:=h;have S:=Ut;have R:sizeLine=16777216:=dP;cases x with
 | non =>cases G;have o:k=false:=e;subst o;exact truthy_none ⟨H,I,q⟩
 | bl b =>cases G;have o:k=b:=e;subst o;exact cK ⟨H,I,q⟩
 | int i =>obtain⟨t,rfl⟩:=G;have o:k=(i != 0):=e;subst o;exact PySem.P.truthy_int ⟨H,I,q⟩
 | str y =>obtain⟨t,rfl⟩:=G;obtain⟨L,o⟩:y.length<=sizeLine/\k=((y.length:Int) != 0):=e;subst o;exact PySem.P.truthy_str (by lia) ⟨H,I.tok _,q⟩
 | byt y =>obtain⟨t,rfl⟩:=G;obtain⟨L,o⟩:y.size<=sizeLine/\k=((y.size:Int) != 0):=e;subst o;exact PySem.W.truthy_bytes (by lia) ⟨H,I.tok _,q⟩
 | ref p =>cases G;have o:(∃xs,SqL X.K H p xs/\k=!xs.isEmpty)\/(∃xs,SqT X.K H p xs/\k=!xs.isEmpty)\/∃u,H p=some (.dK u)/\k=!u.isEmpty:=e;rcases o with⟨xs,hx,o⟩|⟨xs,hx,o⟩|⟨u,hx,o⟩;subst o;obtain⟨its,r,pl,hz⟩:=I.list hx;have C:=r.length;exact wpAny_truthy_list pl.isList (by simp only[aw];lia) ⟨H,I.tok _,by rw[ze1 r];exact q⟩;subst o;obtain⟨its,r,pl,hz⟩:=I.tuple hx;have C:=r.length;exact truthy_tuple pl (by simp only[aw];lia) ⟨H,I.tok _,by rw[ze1 r];exact q⟩;subst o;obtain⟨hz,N,J,r,m⟩:u.length<=sizeLine/\(p == sysModules)=false/\∃J,KV u J/\s.heap.DictOf (JA X.prog X.w) p J:=I.hok p _ hx;have C:u.length=J.length:=dI r;exact wpAny_truthy_dict N m (by lia) ⟨H,I.tok _,by rw[zjM r];exact q⟩
 | _=>exact(show False from e).elim
theorem zm9(o:PE X a ta)(he:∀whole,isTrue a X.env whole=(do let v <- whole;standAt a.pos;holding [v] (truthy v))) :
  PT X a (fun σ H Q=>ta σ H fun x H'=>∃k,TruV X.K x H' k/\Q k H'):=by
 intro pins s σ H Q I h;exact isTrue_plain (thn (o pins s σ H _ I h) fun v s1 ⟨x,l,y,u,C⟩=>zqF pins s1 σ l x v Q y u C) (he _)
theorem zjx:OpR X (binaryOp .Add) (fun x y H Q=>∃i j,x=.str i/\y=.str j/\i.length+j.length<=sizeLine/\Q (.str (i++j)) H):=by intro pins s σ H x y v u Q I l o h;obtain⟨i,j,rfl,rfl,hz,q⟩:=h;obtain⟨t,rfl⟩:=l;obtain⟨t',rfl⟩:=o;exact add_str (fun t' tk=>⟨.str (i++j),H,I.tok _,⟨_,rfl⟩,q⟩) hz
theorem vals1{x:V}{l:List ae}(r:Vals [x] l):∃u,l=[u]/\RelV x u:=by
 cases r with
 | cons o v=>cases v;exact⟨_,rfl,o⟩
theorem vals2{x y:V}{o:List ae}(r:Vals [x,y] o):∃u l,o=[u,l]/\RelV x u/\RelV y l:=by
 cases r with
 | cons v I =>
  cases I with
  | cons C G=>cases G;exact⟨_,_,rfl,v,C⟩
theorem zes(hc:X.calm=true):JQ X (.builtin "max") (fun xs H Q=>∃i j,xs=[.int i,.int j]/\Q (.int (if j > i then j else i)) H):=by intro pins s σ H xs v Q I r h;obtain⟨i,j,rfl,q⟩:=h;obtain⟨u,o,rfl,⟨t,rfl⟩,⟨t',rfl⟩⟩:=vals2 r;refine max_two_ints (I.ok.hd hc) fun h' tk k=>⟨_,H,I.kept k,?_,q⟩;by_cases hj:j > i;rw[if_pos hj,if_pos hj];exact⟨_,rfl⟩;rw[if_neg hj,if_neg hj];exact⟨_,rfl⟩
theorem Uy(hc:X.calm=true):JQ X (.builtin "min") (fun xs H Q=>∃i j,xs=[.int i,.int j]/\Q (.int (if j<i then j else i)) H):=by intro pins s σ H xs v Q I r h;obtain⟨i,j,rfl,q⟩:=h;obtain⟨u,o,rfl,⟨t,rfl⟩,⟨t',rfl⟩⟩:=vals2 r;refine min_two_ints (I.ok.hd hc) fun h' tk k=>⟨_,H,I.kept k,?_,q⟩;by_cases hj:j<i;rw[if_pos hj,if_pos hj];exact⟨_,rfl⟩;rw[if_neg hj,if_neg hj];exact⟨_,rfl⟩
theorem zet:JQ X (.type "int") (fun xs H Q=>(∃i,xs=[.int i]/\Q (.int i) H)\/∃k,xs=[.bl k]/\Q (.int (if k then 1 else 0)) H):=by intro pins s σ H xs v Q I r h;rcases h with⟨i,rfl,q⟩|⟨k,rfl,q⟩;obtain⟨u,rfl,t,rfl⟩:=vals1 r;exact call_int_int ⟨.int i,H,I,⟨_,rfl⟩,q⟩;obtain⟨u,rfl,o⟩:=vals1 r;cases o;exact call_int_bool ⟨.int (if k then 1 else 0),H,I.tok _,⟨_,rfl⟩,q⟩
def LenV(K:qF)(x:V)(H:Hp)(n:Nat):Prop :=
 match x with
 | .str y=>y.length<=sizeLine/\n=y.length
 | .byt y=>y.size<=sizeLine/\n=y.size
 | .ref p=>(∃xs,SqL K H p xs/\n=xs.length)\/∃xs,SqT K H p xs/\n=xs.length
 | _=>False
theorem QF:JQ X (.builtin "len") (fun xs H Q=>∃x n,xs=[x]/\LenV X.K x H n/\Q (.int n) H):=by
 intro pins s σ H xs R Q I r h;obtain⟨x,n,rfl,e,q⟩:=h;obtain⟨u,rfl,C⟩:=vals1 r;have N:=Ut;have L:sizeLine=16777216:=dP;cases x with
 | str y =>obtain⟨t,rfl⟩:=C;obtain⟨J,v⟩:y.length<=sizeLine/\n=y.length:=e;subst v;exact len_str (by lia) ⟨.int _,H,I.tok _,⟨_,rfl⟩,q⟩
 | byt y =>obtain⟨t,rfl⟩:=C;obtain⟨J,v⟩:y.size<=sizeLine/\n=y.size:=e;subst v;exact PySem.W.len_bytes (by lia) ⟨.int _,H,I.tok _,⟨_,rfl⟩,q⟩
 | ref p =>cases C;have v:(∃xs,SqL X.K H p xs/\n=xs.length)\/∃xs,SqT X.K H p xs/\n=xs.length:=e;rcases v with⟨xs,hx,v⟩|⟨xs,hx,v⟩;subst v;obtain⟨its,G,pl,hz⟩:=I.list hx;have o:=G.length;exact mJ pl.isList (by simp only[aw];lia) ⟨.int xs.length,H,I.tok _,⟨_,by simp only[aw];rw[o]⟩,q⟩;subst v;obtain⟨its,G,pl,hz⟩:=I.tuple hx;have o:=G.length;exact len_tuple pl (by simp only[aw];lia) ⟨.int xs.length,H,I.tok _,⟨_,by simp only[aw];rw[o]⟩,q⟩
 | _=>exact(show False from e).elim
end
structure ObjM(h:ba)(x dx C:af)(mA:qM):Prop where
 obj:h.get? x=some (k8 C dx)
 ns:h.Ns1 dx mA
 ne:dx≠x
theorem zlg{h:ba}{x:af}{v:qM}(n:h.Ns1 x v):∃u,h.get? x=some u/\∀name,lV name u=some (v name):=by
 obtain⟨o,es,ep,C,hd,L,_,G⟩:=n;refine⟨o,C,fun name=>?_⟩;have e:=G name;unfold nsFind findBy at e;rw[<- Array.find?_toList]at e;unfold lV;rw[hd];dsimp only;split;rename_i y q;rw[q]at e;exact congrArg some e;rename_i q;rw[q]at e;have a:es.toList.any (·.refKey)=false:=by rw[iI];intro y I;obtain⟨z,t,l⟩:=L y (Array.mem_toList_iff.mp I);simp[DictEntry.refKey,l]
 have J:¬es.toList.any (·.refKey)=true:=by rw[a];exact aL
 rw[if_neg J];exact congrArg some e
theorem ObjM.look{h:ba}{x u C:af}{o:qM}(I:ObjM h x u C o):∃l,PySem.W.InstAt h x (k8 C u) C (some l)/\∀name,lV name l=some (o name) :=
 let ⟨l,ho,hl⟩:=zlg I.ns
 ⟨l,⟨I.obj,rfl,rfl,ho⟩,hl⟩
section
variable{P:aO}{w:br}{H H':Hp}{h h':ba}{a C dx:af}{fs fs':List (Str×V)}
theorem zpK(hok:HOk P w H h)(e:H a=some (.ins C dx fs)):∃l,ObjM h a dx C l/\(∀f,RelO (fs.lookup f) (l f))/\tG l (fs.map (·.1))/\fs.length<=1000/\H dx=some (.own a):=by obtain⟨d,z,ne,u,l,n,r,q⟩:=(show JI P w H h a (.ins C dx fs) from hok a _ e);exact⟨l,⟨u,n,ne⟩,r,q,z,d⟩
end
structure Cls(K:qF)(C:af):Prop where
 pg:nZ K C gT=true
 hd:PySem.W.hasDictIn K C=true
 po:PySem.W.plainOver K C=true
 sa:pE K (.ref C) "__setattr__" = some (some (.builtin "object.__setattr__"))
theorem Cls.get{K:qF}{C:af}(c:Cls K C)(f:Str):nZ K C f=true:=c.pg
section
variable{X:Cx}{pins:qO}{σ:St}{H:Hp}{s:ak}{A:bc}{E:qV}{Q:qV}{c:ae}{b:Bool}
inductive TyOf (K:qF)(H:Hp):V->ae->Prop where
 | non:TyOf K H .non (.type "NoneType")
 | bl (x:Bool):TyOf K H (.bl x) (.type "bool")
 | int (i:Int):TyOf K H (.int i) (.type "int")
 | str (x:Str):TyOf K H (.str x) (.type "str")
 | flt (x:UInt64):TyOf K H (.flt x) (.type "float")
 | lst {a:af} {xs:List V} (e:H a=some (.lst xs)):TyOf K H (.ref a) (.type "list")
 | frz {a:af} {o:Obj} {xs:List V} (e:H a=some (.frz o (.lst xs))):TyOf K H (.ref a) (.type "list")
 | tup {a:af} {xs:List V} (e:H a=some (.tup xs)):TyOf K H (.ref a) (.type "tuple")
 | dK {a:af} {kvs:List (Key×V)} (e:H a=some (.dK kvs)):TyOf K H (.ref a) (.type "dict")
 | dT {a:af} {kvs:List (List Key×V)} (e:H a=some (.dT kvs)):TyOf K H (.ref a) (.type "dict")
 | ins {a C dx:af} {fs:List (Str×V)} (e:H a=some (.ins C dx fs)) (cl:Cls K C) (ha:pE K (.ref C) "__class__" = some (some (.builtin "object.__class__")))
   (hn:PySem.W.specialIn K (.builtin "object.__class__") "__get__" = some (some (.builtin "getset_descriptor.__get__"))) (htk:PySem.W.takesIn K (.builtin "object.__class__")=some true)
   (hm:PySem.W.mroIn K C (.type "object")=some true):TyOf K H (.ref a) (.ref C)
theorem zlG{x:V}{u t:ae}(I:Inv X pins σ H s)(v:RelV x u)(ty:TyOf X.K H x t)(e:pF X.K t c=some b)(h:∀tk,Q (.bool b) { s with toks:=tk }) :
  wpAny (model X.prog X.w) A (call (.builtin "isinstance") [u,c]) Q E s:=by
 cases ty with
 | non=>cases(show u=fz from v);exact bC PySem.W.kitx_none I.kIn gU e (fun z=>nomatch z) h
 | bl y=>cases(show u=ku y from v);exact bC PySem.W.kitx_bool I.kIn gU e (fun z=>nomatch z) h
 | int i=>obtain⟨t,q⟩:=(show ∃t,u=iS i t from v);cases q;exact bC PySem.W.kitx_int I.kIn gU e (fun z=>nomatch z) h
 | str y=>obtain⟨t,q⟩:=(show ∃t,u=nW y t from v);cases q;exact bC PySem.W.kitx_str I.kIn gU e (fun z=>nomatch z) h
 | flt y=>obtain⟨t,q⟩:=(show ∃t,u=uB y t from v);cases q;exact bC PySem.W.kitx_float I.kIn gU e (fun z=>nomatch z) h
 | @lst a xs ea =>cases(show u=aX a from v);obtain⟨_,_,n,_,G⟩:=(show JI X.prog X.w H s.heap a (.lst xs) from I.hok a _ ea);exact bC nq I.kIn ⟨_,G,rfl⟩ e (fun z=>nomatch z) h
 | @frz a ob xs ea =>cases(show u=aX a from v);obtain⟨_,_,_,n,_,G⟩:=(show JI X.prog X.w H s.heap a (.frz ob (.lst xs)) from I.hok a _ ea);exact bC nq I.kIn ⟨_,G,rfl⟩ e (fun z=>nomatch z) h
 | @tup a xs ea =>cases(show u=aX a from v);obtain⟨_,_,_,p⟩:=(show JI X.prog X.w H s.heap a (.tup xs) from I.hok a _ ea);obtain⟨o,G,L,_⟩:=p;exact bC mX I.kIn ⟨o,G,L⟩ e (fun z=>nomatch z) h
 | @dK a kvs ea =>cases(show u=aX a from v);obtain⟨_,_,S,_,p⟩:=(show JI X.prog X.w H s.heap a (.dK kvs) from I.hok a _ ea);obtain⟨o,es,ep,G,L,_⟩:=p;exact bC eI I.kIn ⟨o,G,L.1⟩ e (fun z=>nomatch z) h
 | @dT a kvs ea =>cases(show u=aX a from v);obtain⟨_,_,xs,_,o,es,ep,G,L,_⟩:=(show JI X.prog X.w H s.heap a (.dT kvs) from I.hok a _ ea);exact bC eI I.kIn ⟨o,G,L.1⟩ e (fun z=>nomatch z) h
 | @ins a C dx fs ea cl ha hn htk hm =>cases(show u=aX a from v);obtain⟨R,O,_⟩:=zpK I.hok ea;obtain⟨N,J,_⟩:=O.look;exact bC (PySem.W.kitx_own (cl.get _) cl.hd ha hn htk hm) I.kIn J e (fun z=>nomatch z) h
end
structure Room(k:Nat)(A:bc):Prop where
 hd:A.handled=none
 dp:A.depth+3*k+5<recursionLimit
 un:A.units+16*k+200<cLine
 gd:A.guards=some []
theorem Room.mono{j k:Nat}{A:bc}(r:Room k A)(h:j<=k):Room j A:=⟨r.hd,by have:=r.dp;lia,by have:=r.un;lia,r.gd⟩
theorem Room.deeper{k:Nat}{A:bc}(r:Room (k+1) A)(env:Env):Room k (A.deeper env) :=
 ⟨r.hd,by have:=r.dp;show A.depth+1+3*k+5<_;lia,by have:=r.un;show A.units+3+16*k+200<_;lia,r.gd⟩
theorem Room.in1{k:Nat}{A:bc}(r:Room (k+1) A):Room k A.in1 :=
 ⟨r.hd,by have:=r.dp;show A.depth+3*k+5<_;lia,by have:=r.un;show A.units+1+16*k+200<_;lia,r.gd⟩
theorem Room.depth{k:Nat}{A:bc}(r:Room k A):A.depth<recursionLimit:=by have:=r.dp;lia
theorem Room.units0{k:Nat}{A:bc}(r:Room k A):A.units<cLine:=by have:=r.un;lia
def tNil:TA:=fun _ H Q=>Q [] H
def Qw(o:TE)(u:TA):TA:=fun σ H Q=>o σ H fun x v=>u σ v fun xs l=>Q (x::xs) l
section
variable{X:Cx}{e:aQ}{es:List aQ}{te:TE}{t:TA}{pos:Pos}
theorem QI:PA X [] tNil:=fun _ _ _ _ H Q I h=>nt ⟨[],H,I,.nil,h⟩
theorem Qh(J:PE X e te)(v:PA X es t)(y:starEach (e::es) X.env=(false,eval e X.env)::starEach es X.env:=by rfl):PA X (e::es) (Qw te t):=by intro pos pins s σ H Q I h;rw[y];show wpAny _ _ (spliced ((false,eval e X.env)::backTo pos (starEach es X.env))) _ _ s;refine mY (thn (J pins s σ H _ I h) fun u s1 ⟨x,C,S,L,U⟩=>?_);exact thn (v pos pins s1 σ C _ S U) fun Y s2 ⟨xs,l,R,G,N⟩=>⟨x::xs,l,R,.cons L G,N⟩
def tTup(t:TA):TE:=fun σ H Q=>t σ H fun xs l=>xs.length<=sizeLine/\∀p,l p=none->Q (.ref p) (upd l p (.tup xs))
def tLst(t:TA):TE:=fun σ H Q=>t σ H fun xs o=>xs.length<=sizeLine/\∀p,o p=none->Q (.ref p) (upd o p (.lst xs))
theorem zrl{x1}(h:PA X es t):PE X (.Tuple es x1 pos) (tTup t):=by intro pins s σ H Q I x;refine wpAny_Tuple_spliced (thn (h pos pins s σ H _ I x) fun y s1 ⟨xs,o,v,r,z,q⟩=>⟨by rw[<- r.length];exact z,?_⟩);have hf:o s1.heap.objs.size=none:=v.hok.fresh (av _);refine⟨.ref s1.heap.objs.size,upd o s1.heap.objs.size (.tup xs),v.laid (t':=s1.toks) (fun b u e=>aj _ e) (av _) ?_,rfl,q _ hf⟩;exact⟨z,y,r,⟨_,aA _ rfl,rfl,⟨_,rfl⟩,rfl⟩⟩
theorem zro(h:PA X es t):PE X (.List es pos) (tLst t):=by intro pins s σ H Q I x;refine wpAny_List_spliced (thn (h pos pins s σ H _ I x) fun y s1 ⟨xs,o,v,r,z,q⟩=>⟨by rw[<- r.length];exact z,?_⟩);have hf:o s1.heap.objs.size=none:=v.hok.fresh (av _);refine⟨.ref s1.heap.objs.size,upd o s1.heap.objs.size (.lst xs),v.laid (t':=s1.toks) (fun b u e=>aj _ e) (av _) ?_,rfl,q _ hf⟩;exact⟨z,y,0,r,aA _ rfl⟩
end
abbrev Sp:=List V->Hp->VK->XK->Prop
abbrev CXT:=List Env->Hp->ak->XK->ae->ak->Prop
structure Env0(P:aO)(w:br)(K:qF)(mg:qM)(base:ba)(A:bc)(outer:List Env)(s:ak)(H:Hp):Prop where
 frames:A.frames=some outer
 mod:Mod K mg base
 bs:∀b o,base.get? b=some o->s.heap.get? b=some o/\H b=none
 bsz:base.objs.size<=s.heap.objs.size
 funs:s.heap.FunFrames base outer
 frf:∀b∈frs outer,H b=none
 hok:HOk P w H s.heap
 bare:hX s.gens
def CE(outer:List Env)(P:aO)(w:br)(H:Hp)(s:ak)(Q:VK)(u:ae)(s':ak):Prop :=
 ∃v H',s'.os=s.os/\hX s'.gens/\Un (frs outer) [] H H' s.heap s'.heap/\HOk P w H' s'.heap/\RelV v u/\Q v H'
def CR(l:CXT)(outer:List Env)(P:aO)(w:br)(H:Hp)(s:ak)(Q:VK)(E:XK)(r:lW)(s':ak):Prop :=
 match r with
 | .ok (.ret u)=>CE outer P w H s Q u s'
 | .ok _=>False
 | .error e=>l outer H s E e s'
structure FnOk(P:aO)(w:br)(K:qF)(mg:qM)(base:ba)(CX:CXT)(k:Nat)(f:af)(fd:cH)(ps:List Str)(sp:Sp):Prop where
 len:∀vs H Q E,sp vs H Q E->vs.length=ps.length
 run:∀(A:bc) (outer:List Env) (s:ak) (H:Hp) (args:Args) (us:List ae) (vs:List V) (Q:VK) (E:XK),Room k A->Env0 P w K mg base A outer s H->oY s fd args (ps.zip us)->Vals vs us->sp vs H Q E ->
  codeAny (model P w) A (.call (.ref f) args) (CR CX outer P w H s Q E) s
theorem FnOk.imp{P:aO}{w:br}{K:qF}{mg:qM}{base:ba}{u:CXT}{k:Nat}{f:af}{fd:cH}{ps:List Str}{v o:Sp}(F:FnOk P w K mg base u k f fd ps v)
  (h:∀l H Q E,o l H Q E->v l H Q E):FnOk P w K mg base u k f fd ps o :=
 ⟨fun l H Q E q=>F.len l H Q E (h _ _ _ _ q),fun A outer s H args G l Q E x he y I C=>F.run A outer s H args G l Q E x he y I (h _ _ _ _ C)⟩
theorem Env0.in1{P:aO}{w:br}{K:qF}{mg:qM}{base:ba}{A:bc}{outer:List Env}{s:ak}{H:Hp}(e:Env0 P w K mg base A outer s H) :
  Env0 P w K mg base A.in1 outer s H:=⟨e.frames,e.mod,e.bs,e.bsz,e.funs,e.frf,e.hok,e.bare⟩
section
variable{X:Cx}{pins:qO}{σ:St}{H:Hp}{s s':ak}
theorem Inv.env0(I:Inv X pins σ H s):Env0 X.prog X.w X.K X.mg X.base X.A X.stack s H :=
 ⟨I.ok.frames,I.ok.mod,I.bs,bA I.ok.bsz I.sz,I.stack,I.stkFree,I.hok,I.bare⟩
theorem Inv.after{Q:VK}{u:ae}(I:Inv X pins σ H s)(h:CE X.stack X.prog X.w H s Q u s'):EP X pins σ Q u s':=by obtain⟨v,H',os,bare,un,hok,r,q⟩:=h;obtain⟨o,g,d,t,l⟩:=s';obtain rfl:l=s.os:=os;exact⟨v,H',I.call (h':=o) (g':=g) (d':=d) (t':=t) (ch:=[]) un hok bare (fun b z=>absurd z (by simp)),r,q⟩
end
def zoI(o:Sp)(l:List V)(E:XK)(t:TA):TE:=fun σ H Q=>t σ H fun v u=>o (v++l) u Q E
def Binds(K:qF)(fd:cH)(ps:List Str)(ds:List ae):Prop :=
 ∀(s:ak) (o:List ae),K.In s.heap->(o++ds).length=ps.length->oY s fd ⟨o,[]⟩ (ps.zip (o++ds))
theorem Binds.all{K:qF}{fd:cH}{ps:List Str}(h:∀l:List ae,l.length=ps.length->bindArgs fd ⟨l,[]⟩=pure (ps.zip l)):Binds K fd ps []:=fun s l _ u=>by rw[bS]at u ⊢;exact .of_eq (h l u)
def ZR(l:CXT)(X:Cx)(E:XK):Prop:=∀(pins:qO) (σ:St) (H:Hp) (s:ak) (e:ae) (s':ak),Inv X pins σ H s->l X.stack H s E e s'->X.xe e s'
section
variable{X:Cx}{CX:CXT}{k:Nat}{f C:af}{fd:cH}{ps:List Str}{sp:Sp}{dvs:List V}{ds:List ae}{E:XK}{x m:Str}{p pos apos:Pos}{e o:aQ}{es:List aQ}{ta:TE}{t:TA}
theorem zoa{pins:qO}{σ:St}{H:Hp}{s:ak}{Q:VK}{v:List ae}{G:List V}(F:FnOk X.prog X.w X.K X.mg X.base CX k f fd ps sp)(L:Room k X.A)(N:Binds X.K fd ps ds)(hd:Vals dvs ds)(hx:ZR CX X E)
  (I:Inv X pins σ H s) (r:Vals G v) (h:sp (G++dvs) H Q E):wpAny (model X.prog X.w) X.A (call (.ref f) v) (EP X pins σ Q) X.xe s:=by
 have J:Vals (G++dvs) (v++ds):=r.append hd;have R:(v++ds).length=ps.length:=by rw[<- J.length];exact F.len _ _ _ _ h
 refine pG (fG (F.run X.A X.stack s H ⟨v,[]⟩ (v++ds) (G++dvs) Q E L I.env0 (N s v I.kIn R) J h) fun r s' y=>?_);cases r with
 | error e=>exact hx pins σ H s e s' I y
 | ok fl =>
  cases fl with
  | ret u=>exact I.after y
  | next=>exact cm y
  | brk=>exact cm y
  | cont=>exact cm y
theorem zpe(F:FnOk X.prog X.w X.K X.mg X.base CX k f fd ps sp)(J:Room k X.A)(L:Gl X x)(S:X.mg x=some (.ref f))(Y:fB X.K (.ref f)=true)(R:Binds X.K fd ps ds)(hd:Vals dvs ds)(hx:ZR CX X E)
  (U:PA X (e::es) t) (v:(x == ("__debug__":Str))=false:=by decide) (he:starEach (e::es) X.env=(false,eval e X.env)::starEach es X.env:=by rfl) (u:(backTo pos (starEach es X.env)).any (·.1)=false:=by rfl) :
  PE X (.Call (.Name x p) (e::es) [] pos) (zoI sp dvs E t):=by
 intro pins s σ H Q I h;refine ff (zlj I L S ?_ v);refine mZ (h₀:=X.base) I.ok.mod.kin Y (thn (U pos pins s σ H _ I h) fun us s1 ⟨vs,Z,G,r,q⟩=>⟨G.kIn,?_⟩) he u;exact zoa F J R hd hx G r q
end
structure Qs(N P:List Str)(sc:dD):Prop where
 kind:sc.kind=.function
 co:sc.isCoroutine=false
 gen:sc.isGenerator=false
 nd:N.Nodup
 pre:N.take P.length=P
 par:∀x∈P,sc.names.lookup x=some .local\/sc.names.lookup x=some .cell
 nofree:∀y∈sc.names,y.2≠.free
theorem zhn{kindOf:Str->Option dQ}{x:Str}:∀{binds:List (Str×ae)}{m:qM},(∀v,(x,v)∉binds)->bindL kindOf binds m x=m x
 | [],_,_=>rfl
 | (n,v)::r,m,h=>by
  unfold bindL;rw[zhn fun w hw=>h w (cw _ hw)];split;have:x≠n:=by rintro rfl;exact h v dF
  simp[this];rfl
theorem zhp{kindOf:Str->Option dQ}{x:Str}:∀{binds:List (Str×ae)}{m:qM},(∀v,(x,v)∉binds)->bindC kindOf binds m x=m x
 | [],_,_=>rfl
 | (n,v)::r,m,h=>by
  unfold bindC;rw[zhp fun w hw=>h w (cw _ hw)];split;rfl;have:x≠n:=by rintro rfl;exact h v dF
  simp[this]
theorem zho{kindOf:Str->Option dQ}{x:Str}{v:ae}:∀{P:List Str}{u:List ae}{i:Nat}{m:qM},P.Nodup->P[i]?=some x->u[i]?=some v->kindOf x=some .local ->
  bindL kindOf (P.zip u) m x=some v
 | [],_,_,_,_,h,_,_=>by simp at h
 | _::_,[],_,_,_,_,h,_=>by simp at h
 | p::P,w::u,0,m,nd,h1,h2,hk=>by simp at h1 h2;subst h1;subst h2;show bindL kindOf ((p,w)::P.zip u) m p=_;unfold bindL;rw[zhn fun v y=>(cC.mp nd).1 (dW y).1,if_pos hk];simp
 | p::P,w::u,i+1,m,nd,h1,h2,hk=>by show bindL kindOf ((p,w)::P.zip u) m x=_;unfold bindL;exact zho (i:=i) (cC.mp nd).2 (by simpa using h1) (by simpa using h2) hk
theorem zhq{kindOf:Str->Option dQ}{x:Str}{v:ae}:∀{P:List Str}{u:List ae}{i:Nat}{m:qM},P.Nodup->P[i]?=some x->u[i]?=some v->kindOf x≠some .local ->
  bindC kindOf (P.zip u) m x=some v
 | [],_,_,_,_,h,_,_=>by simp at h
 | _::_,[],_,_,_,_,h,_=>by simp at h
 | p::P,w::u,0,m,nd,h1,h2,hk=>by simp at h1 h2;subst h1;subst h2;show bindC kindOf ((p,w)::P.zip u) m p=_;unfold bindC;rw[zhp fun v y=>(cC.mp nd).1 (dW y).1,if_neg hk];simp
 | p::P,w::u,i+1,m,nd,h1,h2,hk=>by show bindC kindOf ((p,w)::P.zip u) m x=_;unfold bindC;exact zhq (i:=i) (cC.mp nd).2 (by simpa using h1) (by simpa using h2) hk
def start(N:List Str)(l:List V):St:=l.map some++aU (N.length - l.length) none
def cxOf(o:CXT)(P:aO)(w:br)(K:qF)(mg:qM)(base:ba)(N:List Str)(qual:Str)(scope:dD)(f:af)(cd:ae)(A:bc)(outer:List Env)(s:ak)(H:Hp)(E:XK):Cx where
 prog:=P
 w:=w
 K:=K
 mg:=mg
 base:=base
 A:=A.deeper (envOfC qual scope s.heap.objs.size f cd)
 N:=N
 s₀:=s
 H₀:=H
 env:=envOfC qual scope s.heap.objs.size f cd
 outer:=outer
 stack:=envOfC qual scope s.heap.objs.size f cd::outer
 ex:=[]
 calm:=true
 fn:=fun _=>true
 pn:=[]
 xe:=fun e s'=>wpAny (model P w) (A.deeper (envOfC qual scope s.heap.objs.size f cd)) (leaving (envOfC qual scope s.heap.objs.size f cd) e) (fun _ l=>o outer H s E e l) (fun u l=>o outer H s E u l) s'
theorem zjc{sc:dD}{n:Nat}{x:Str}(h:sc.names.lookup x=some .cell):∃c,(cellsFrom n sc.names []).lookup x=some c:=by have q:=gx sc.names n [] (.inl h);exact Option.isSome_iff_exists.mp q
theorem zgQ{Z:CXT}{P:aO}{w:br}{K:qF}{mg:qM}{base:ba}{N ps:List Str}{qual:Str}{scope:dD}{f:af}{cd:ae}{A:bc}{outer:List Env}{s s1:ak}{H:Hp}{E:XK}{Y:List ae}{J:List V}
  (S:Qs N ps scope) (hd:A.handled=none) (C:Env0 P w K mg base A outer s H) (hl:J.length=ps.length) (r:Vals J Y)
  (x:InCallC s s.heap.objs.size (bindL (envOfC qual scope s.heap.objs.size f cd).kindOf (ps.zip Y) fun _=>none) (cellsFrom (s.heap.objs.size+1) scope.names []) (bindC (envOfC qual scope s.heap.objs.size f cd).kindOf (ps.zip Y) fun _=>none) s1) :
  Inv (cxOf Z P w K mg base N qual scope f cd A outer s H E) [] (start N J) H s1:=by
 have hpl:ps.length<=N.length:=by have:=congrArg dA S.pre;rw[eW]at this;lia
 obtain⟨U,tk,rfl,hk⟩:=x.done;have I:∀b:af,b∉(cxOf Z P w K mg base N qual scope f cd A outer s H E).ex:=fun b z=>absurd (show b∈([]:List af) from z) (by simp);refine⟨⟨C.mod,S.kind,rfl,rfl,av _,fun y z c U o=>?_,fun y G=>?_,fun y c _ h=>?_,fun _=>hd,Around.frames_deeper C.frames,.inr ⟨rfl,rfl⟩,fun b z=>absurd z (I b),C.bs,C.bsz,fun b _ _=>I b,fun b z=>absurd z (I b),C.funs,C.frf⟩,
  rfl,C.bare,Un.kept hk,⟨_,x.toInCall.ns,fun i y v U o h3=>?_⟩,fun y c h=>⟨_,x.cell y c h⟩,C.hok.fresh (av _),fun y c h=>?_,fun p L=>absurd (show p∈([]:qO) from L) (by simp),C.hok.kept hk,?_⟩
 exact name_of_addr x.apart (eS U) (eS o);have G:scope.names.lookup y=some .cell\/scope.names.lookup y=some .free:=G;rcases G with G|G;exact zjc G;exact absurd rfl (S.nofree _ (eS G));exact hY (x.above y c (eS h));have hi:i<J.length:=by unfold start at o;by_cases hi:i<J.length;exact hi;rw[bH (by simpa using hi)]at o;rw[cS]at o;split at o <;> cases o
 have ha:J[i]?=some v:=by
  unfold start at o;rw[bu (by simpa using hi),aD]at o;cases e:J[i]? with
  | none=>rw[e]at o;cases o
  | some a=>rw[e]at o;cases o;rfl
 obtain⟨u,hu,rv⟩:=r.get ha;have L:ps[i]?=some y:=by rw[<- S.pre,fT (by lia)];exact U
 have R:ps.Nodup:=by rw[<- S.pre];exact S.nd.sublist (List.take_sublist _ _)
 refine⟨u,rv,?_⟩;rcases S.par y (aB L) with k|k;exact .inl ⟨k,zho R L hu k⟩;obtain⟨c,e⟩:=zjc (n:=s.heap.objs.size+1) k;refine .inr ⟨.inl k,c,e,?_⟩;have q:=x.cell y c e;rw[zhq R L hu (by show scope.names.lookup y≠_;rw[k];decide)]at q;exact q;exact C.hok.fresh (hY (x.above y c (eS h)));unfold start;show _=N.length;rw[bE,aP,gQ];lia
theorem zsV{Y:CXT}{P:aO}{w:br}{K:qF}{mg:qM}{base:ba}{k:Nat}{f:af}{name qual:Str}{params:iT}{body:List dE}{scope:dD}{dV kV doc pm C ct oc:ae}{an od:Option af}
  {osl:Array (Option ae)} {N ps:List Str} {sp:Sp} (lk:K.lookup f=some ⟨oc,od,.func (dJ name qual params body scope dV kV doc pm an C ct),osl⟩) (hcd:gy K C qual=true) (S:Qs N ps scope)
  (len:∀G H Q E,sp G H Q E->G.length=ps.length)
  (HV:∀(A:bc) (outer:List Env) (s:ak) (H:Hp) (G:List V) (Q:VK) (E:XK),Room k (A.deeper (envOfC qual scope s.heap.objs.size f C))->sp G H Q E ->
   ∃t,PSs (cxOf Y P w K mg base N qual scope f C A outer s H E) body t/\t { nx:=fun _ H'=>Q .non H',rt:=Q } (start N G) H) :
  FnOk P w K mg base Y (k+1) f (dJ name qual params body scope dV kV doc pm an C ct) ps sp:=by
 refine⟨len,fun A outer s H args us G Q E Z U hb r R=>?_⟩;have hl:=len _ _ _ _ R;have KX:K.In s.heap:=U.mod.kin.keeps fun b o e=>(U.bs b o e).1;have lim:s.heap.NoLimit:=U.mod.nolimit.keeps fun b o e=>(U.bs b o e).1;have HH:∀y∈ps.zip us,scope.names.lookup y.1=some .local\/(scope.names.lookup y.1=some .cell/\((cellsFrom (s.heap.objs.size+1) scope.names []).lookup y.1).isSome=true):=fun⟨n,v⟩ hy=>by rcases S.par n (dW hy).1 with q|q;exact .inl q;exact .inr ⟨q,gx _ _ _ (.inl q)⟩
 refine codeAny_call_function Z.depth (KX _ _ lk) rfl S.co S.gen rfl (PySem.W.codeRec_of KX hcd) (hb _ _ _ _ ?_);refine ik S.kind HH fun env he s1 x=>?_;subst he;refine⟨lim.keeps x.toInCall.keep,codeAny_func ?_⟩;obtain⟨t,ht,hq⟩:=HV A outer s H G Q E (Z.deeper _) R;have I:Inv (cxOf Y P w K mg base N qual scope f C A outer s H E) [] (start N G) H s1:=zgQ S Z.hd U hl r x;refine cJ (ht [] s1 (start N G) H _ I hq) (fun fl s' L=>?_) fun e s' L=>L;have fin:∀{σ':St} {H':Hp} {v:V} {u:ae},Inv (cxOf Y P w K mg base N qual scope f C A outer s H E) [] σ' H' s'->RelV v u->Q v H'->CE outer P w H s Q u s' :=
  fun {σ' H' v u} J rv q=>⟨v,H',J.os,J.bare,J.base,J.hok,rv,q⟩
 cases fl with
 | ret u =>obtain⟨v,σ',H',J,rv,q⟩:=L;exact fin J rv q
 | next =>obtain⟨σ',H',J,q⟩:=L;exact fin (v:=V.non) (u:=fz) J rfl q
 | brk =>obtain⟨_,_,_,q⟩:=L;exact cm q
 | cont =>obtain⟨_,_,_,q⟩:=L;exact cm q
section
variable{X:Cx}{x:Str}{p pos:Pos}{e:aQ}{es:List aQ}{t:TA}{id T:String}{r:List V->Hp->VK->Prop}
def tCB(r:List V->Hp->VK->Prop)(t:TA):TE:=fun σ H Q=>t σ H fun o l=>r o l Q
theorem znj(hc:JQ X (.builtin id) r)(G:Gl X x)(L:X.mg x=none)(hv:bootBuiltins x=some (.builtin id))(S:PA X (e::es) t)(J:x ≠ "__name__":=by decide) (v:(x == ("__debug__":Str))=false:=by decide)
  (he:starEach (e::es) X.env=(false,eval e X.env)::starEach es X.env:=by rfl) (o:(backTo pos (starEach es X.env)).any (·.1)=false:=by rfl):PE X (.Call (.Name x p) (e::es) [] pos) (tCB r t):=by
 intro pins s σ H Q I h;refine ff (Q4 I G L hv ?_ J v);exact n8 (thn (S pos pins s σ H _ I h) fun Y s1 ⟨vs,R,Z,U,q1⟩=>hc pins s1 σ R vs Y Q Z U q1) he o
theorem zgp(hc:JQ X (.type T) r)(v:Gl X x)(J:X.mg x=none)(Z:bootBuiltins x=some (.type T))(R:PA X (e::es) t)(G:x ≠ "__name__":=by decide) (u:(x == ("__debug__":Str))=false:=by decide)
  (he:starEach (e::es) X.env=(false,eval e X.env)::starEach es X.env:=by rfl) (o:(backTo pos (starEach es X.env)).any (·.1)=false:=by rfl):PE X (.Call (.Name x p) (e::es) [] pos) (tCB r t):=by
 intro pins s σ H Q I h;refine ff (Q4 I v J Z ?_ G u);exact c8 (thn (R pos pins s σ H _ I h) fun U s1 ⟨vs,L,Y,S,q1⟩=>hc pins s1 σ L vs U Q Y S q1) he o
end
end L2
namespace HT
open PySem PyProof.Rows
def lexLt:List Int->List Int->Bool
 | [],[]=>false
 | [],_::_=>true
 | _::_,[]=>false
 | x::xs,y::ys=>if x=y then lexLt xs ys else decide (x<y)
theorem zjH(x y:Int)(xs ys:List Int):lexLt (x::xs) (y::ys)=if x=y then lexLt xs ys else decide (x<y):=rfl
theorem zfK:lexLt [] []=false:=rfl
theorem zeE(y:Int)(ys:List Int):lexLt [] (y::ys)=true:=rfl
theorem zeF(x:Int)(xs:List Int):lexLt (x::xs) []=false:=rfl
theorem znK(A:bc)(s:ak)(a:Int)(t:Tok)(c:Int)(u:Tok):∃e,m3 A s (.int a t) (.int c u) e/\(e=true↔a=c) :=
 ⟨(a == c),f7 a t c u,by simp⟩
theorem zm6(A:bc)(s:ak)(a:Int)(t:Tok)(c:Int)(u:Tok)(prog:aO)(w:br)(E:qV)(Q:qV)(h:Q (.bool (decide (a<c))) s) :
  wpAny (model prog w) A (richCompare .Lt (.int a t) (.int c u)) Q E s :=
 (vy h:wpAny (model prog w) A (compareOp .Lt (.int a t) (.int c u)) Q E s)
section
open PySem.SeqAt
open PySem.AutoSeq1 (wpAny_loadPart')
open PySem.MeetsSeq PySem.MeetsSeq2 PySem.MeetsSeq3
theorem zfn(l b:af)(items U:Array ae)(n n2:Nat)(dd dd2:Option af)(sl sl2:Array (Option ae))(ns ms:List Int)(hi:fg items.toList ns)(hj:fg U.toList ms) :
  Meets (dh.«tuple.__lt__» ⟨[.ref l,.ref b],[]⟩)
   (fun _ R s=>s.heap.get? l=some { cls:=.type "tuple",dict:=dd,data:=.seq items n,slots:=sl }/\s.heap.get? b=some { cls:=.type "tuple",dict:=dd2,data:=.seq U n2,slots:=sl2 } /\
    R (.ok (.ret (.bool (lexLt ns ms)))) s) :=
 .of_wp fun prog w A R s h=>by
  obtain⟨hp,g,d,tk,os⟩:=s;obtain⟨hl,hb,h⟩:=h;have f2:=AutoSeq1.sub_tuple_tuple;have z1:items.size=ns.length:=by rw[<- hi.length];simp
  have z2:U.size=ms.length:=by rw[<- hj.length];simp
  wp_walk using lg hl,lg hb,wpAny_forIn_list _ (fun rest b s'=>b.1=none/\s'=⟨hp,g,d,tk,os⟩/\∃(vs ws:List ae) (G C:List Int),rest=vs.zip ws /\
   fg vs G/\fg ws C/\G.length+U.size=C.length+items.size/\R (.ok (.ret (.bool (lexLt G C)))) ⟨hp,g,d,tk,os⟩) _
  case turn =>
   rintro⟨y,x⟩ rest b s' ⟨S,rfl,vs,ws,G,C,hz,N,I,v,L⟩;cases N with
   | nil=>rw[List.zip_nil_left]at hz;cases hz
   | cons a t Z =>
    cases I with
    | nil=>rw[List.zip_nil_right]at hz;cases hz
    | cons c u Y =>
     rw[m4]at hz;injection hz with hyx hrest;injection hyx with hy hx;subst hy hx;rw[zjH]at L;simp only[aE]at v;obtain⟨e,he,J⟩:=znK A.in1 ⟨hp,g,d,tk,os⟩ a t c u;refine aa (he prog w _ _ ?_);cases e with
     | true =>rw[if_pos (J.mp rfl)]at L;wp_walk;exact⟨rfl,rfl,_,_,_,_,hrest,Z,Y,by lia,L⟩
     | false =>rw[if_neg (fun q=>absurd (J.mpr q) aL)]at L;have hri:=zm6 A.in1 ⟨hp,g,d,tk,os⟩ a t c u prog w;wp_walk using hri;exact⟨_,rfl,by simpa using L⟩
  case fin =>
   rintro⟨b1,b2⟩ s' ⟨S,rfl,vs,ws,G,C,hz,N,I,v,L⟩;simp only at S;subst S;have hv:lexLt G C=decide (items.size<U.size):=by
    cases N with
    | nil =>
     cases I with
     | nil =>simp only[bK]at v;rw[zfK];exact(decide_eq_false (by lia)).symm
     | cons c u hw =>simp only[bK,aE]at v;rw[zeE];exact(decide_eq_true (by lia)).symm
    | cons a t hv =>
     cases I with
     | nil =>simp only[bK,aE]at v;rw[zeF];exact(decide_eq_false (by lia)).symm
     | cons c u hw =>rw[m4]at hz;cases hz
   rw[hv]at L;wp_walk;exact⟨_,rfl,by simpa[nV] using L⟩
  case h =>exact⟨rfl,rfl,items.toList,U.toList,ns,ms,rfl,hi,hj,by lia,h⟩
end
section
variable{prog:aO}{w:br}{A:bc}{E:qV}{s:ak}
theorem zeZ{l b:af}{items I:Array ae}{ns u:List Int}{Q:qV}(hl:o6 s.heap l items)(R:o6 s.heap b I)(hi:fg items.toList ns)(U:fg I.toList u)
  (Z:A.units<cLine) (h:Q (.bool (lexLt ns u)) s):wpAny (model prog w) A (compareOp .Lt (.ref l) (.ref b)) Q E s:=by
 obtain⟨⟨cls,S,data,sl⟩,J,hc,n,hd⟩:=id hl;obtain⟨⟨N,G,data2,C⟩,y,v,Y,hd2⟩:=id R;simp only at hc hd v hd2;subst hc hd v hd2;exact richCompare_meets_room (op:=.Lt) ⟨_,J,rfl⟩ ⟨_,y,rfl⟩ PySem.F.slot_tuple_lt PySem.F.entry_tuple_lt (PySem.F.args_tuple_lt_2 _ _) (zfn l b items I n Y S G sl C ns u hi U)
  ⟨J,y,show ku (lexLt ns u)≠Value.notImplemented/\Q (.bool (lexLt ns u)) s from⟨(fun x=>nomatch x),h⟩⟩ Z
theorem zqh{t b:af}{v l:List ae}{Q:qV}(ht:o6 s.heap t v.toArray)(U:o6 s.heap b l.toArray)(S:v≠[])
  (Z:l=[]->Q (.ref t) s) (Y:l≠[]->Q (.ref s.heap.objs.size) { s with heap:=s.heap.push { cls:=.type "tuple",data:=.seq (v++l).toArray } })
  (hsz:v.length+l.length<=sizeLine):wpAny (model prog w) A (binaryOp .Add (.ref t) (.ref b)) Q E s:=by
 obtain⟨⟨cls,J,data,R⟩,I,hc,n,hd⟩:=id ht;obtain⟨⟨L,G,data2,C⟩,u,x,N,hd2⟩:=id U;simp only at hc hd x hd2;subst hc hd x hd2;have e:v.toArray++l.toArray=(v++l).toArray:=by simp
 by_cases hw:l=[];exact nu ⟨_,I,rfl⟩ ⟨_,u,rfl⟩ iU mQ gz gn (fU _ _)
  (tuple_addW1 t b v.toArray l.toArray n N J G R C (by simpa using S) (by simp[hw])) ⟨I,u,Z hw⟩
 refine nu ⟨_,I,rfl⟩ ⟨_,u,rfl⟩ iU mQ gz gn (fU _ _)
  (tuple_addW2 t b v.toArray l.toArray n N J G R C (by simpa using S) (by simpa using hw) (by rw[aw,aw];exact hsz)) ⟨I,u,?_⟩
 rw[e];exact Y hw
def sIx(n d:Nat):Option Int->Nat
 | none=>d
 | some v=>if v<0 then(v+(n:Int)).toNat else min v.toNat n
theorem zkt(n d k:Nat):sIx n d (some (k:Int))=min k n:=by show(if (k:Int)<0 then((k:Int)+(n:Int)).toNat else min (k:Int).toNat n)=min k n;rw[if_neg (by lia),dm]
end
end HT
namespace L2
open PySem PySem.Spec PyProof.Rows
abbrev TO:=St->Hp->(Option Int->Hp->Prop)->Prop
def PO(X:Cx)(e:Option aQ)(t:TO):Prop :=
 ∀(pins:qO) (s:ak) (σ:St) (H:Hp) (Q:Option Int->Hp->Prop),Inv X pins σ H s->t σ H Q ->
  wpAny (model X.prog X.w) X.A (evalPart e X.env) (fun u s'=>∃o H',Inv X pins σ H' s'/\IsPart u o/\Q o H') X.xe s
def zt2(t:TE):TO:=fun σ H Q=>t σ H fun x l=>∃i,x=.int i/\Q (some i) l
theorem intsAre_of{ns:List Int}:∀{u:List ae},Vals (ns.map V.int) u->fg u ns:=by
 induction ns with
 | nil=>intro u r;rw[dM]at r;cases r;exact .nil
 | cons n ns x =>
  intro u r;rw[aG]at r;cases r with
  | cons v y =>obtain⟨t,e⟩:=v;subst e;exact .cons n t (x y)
section
variable{X:Cx}{e:aQ}{te:TE}{lo hi:Option aQ}{tl th:TO}{pos p2:Pos}
theorem zo8(h:PE X e te):PO X (some e) (zt2 te):=by intro pins s σ H Q I hw;rw[evalPart_some];refine thn (h pins s σ H _ I hw) fun u s1 ⟨x,l,v,o,y⟩=>?_;obtain⟨i,rfl,q⟩:=y;obtain⟨t,rfl⟩:=o;exact⟨some i,l,v,.int i t,q⟩
def SlR(X:Cx)(r:V->Option Int->Option Int->Hp->VK->Prop):Prop :=
 ∀(pins:qO) (s:ak) (σ:St) (H:Hp) (x:V) (v C G:ae) (lo hi:Option Int) (I:af) (Q:VK),Inv X pins σ H s->RelV x v->s.heap.IsSliceOf I C G .none->IsPart C lo->IsPart G hi->r x lo hi H Q ->
  ∃T id,typeLookup (.type T) "__getitem__" = pure (some (.builtin id))/\s.TypeIs v T/\wpAny (model X.prog X.w) X.A (getItem v (.ref I)) (EP X pins σ Q) X.xe s
def tSl(r:V->Option Int->Option Int->Hp->VK->Prop)(te:TE)(tl th:TO):TE:=fun σ H Q=>te σ H fun x v=>tl σ v fun l o=>th σ o fun u y=>r x l u y Q
theorem zne{r:V->Option Int->Option Int->Hp->VK->Prop}(N:SlR X r)(he:PE X e te)(hl:PO X lo tl)(hu:PO X hi th):PE X (.Subscript e (.Slice lo hi none p2) pos) (tSl r te tl th):=by intro pins s σ H Q I h;refine pH (thn (he pins s σ H _ I h) fun v s1 ⟨x,Y,I1,r1,q1⟩=>?_);refine wpAny_Slice (thn (hl pins s1 σ Y _ I1 q1) fun C s2 ⟨l,L,I2,pl,q2⟩=>thn (hu pins s2 σ L _ I2 q2) fun G s3 ⟨u,J,R,Z,q3⟩=>?_);rw[evalPart_none];refine ag ?_;have I4:Inv X pins σ J { s3 with heap:=s3.heap.push { cls:=.type "slice",data:=.fields #[C,G,.none] } }:=R.kept (t':=s3.toks) fun b ob q=>aj _ q;obtain⟨T,id,hT,ht,U⟩:=N pins { s3 with heap:=s3.heap.push { cls:=.type "slice",data:=.fields #[C,G,.none] } } σ J x v C G l u s3.heap.objs.size Q I4 r1 (v8 ..) pl Z q3;show wpAny (model X.prog X.w) X.A (subscriptTail e (.Slice lo hi none p2) v (.ref s3.heap.objs.size)) (EP X pins σ Q) X.xe { s3 with heap:=s3.heap.push { cls:=.type "slice",data:=.fields #[C,G,.none] } };exact tail_any (ops:=[.ref s3.heap.objs.size,v]) ht hT U (by with_unfolding_all rfl)
def cutV(xs:List V)(lo hi:Option Int):List V:=(xs.drop (HT.sIx xs.length 0 lo)).take (HT.sIx xs.length xs.length hi - HT.sIx xs.length 0 lo)
theorem zh5(xs:List V)(lo hi:Option Int):(cutV xs lo hi).length<=xs.length:=by unfold cutV;rw[eW,List.length_drop];lia
def rLtT(K:qF):R2:=fun x y H Q=>∃a b ns o,x=.ref a/\y=.ref b/\SqT K H a (ns.map V.int)/\SqT K H b (o.map V.int)/\Q (.bl (HT.lexLt ns o)) H
theorem zrD(Z:X.A.units<cLine):OpR X (compareOp .Lt) (rLtT X.K):=by intro pins s σ H x y v u Q I G ry h;obtain⟨a,b,ns,C,rfl,rfl,U,J,q⟩:=h;cases G;cases ry;obtain⟨its,Y,p1,_⟩:=I.tuple U;obtain⟨o,S,p2,_⟩:=I.tuple J;have N:fg its.toArray.toList ns:=intsAre_of Y;have R:fg o.toArray.toList C:=intsAre_of S;exact HT.zeZ p1 p2 N R Z ⟨.bl (HT.lexLt ns C),H,I,rfl,q⟩
def zuE(K:qF):R2:=fun x y H Q=>∃a b xs ys,x=.ref a/\y=.ref b/\SqT K H a xs/\SqT K H b ys/\xs≠[]/\xs.length+ys.length<=sizeLine /\
 (ys=[]->Q (.ref a) H)/\(ys≠[]->∀p,H p=none->Q (.ref p) (upd H p (.tup (xs++ys))))
theorem Vals.nil_iff{xs:List V}{l:List ae}(r:Vals xs l):l=[]↔xs=[]:=by
 cases r with
 | nil=>simp
 | cons _ _=>simp
theorem zpk:OpR X (binaryOp .Add) (zuE X.K):=by intro pins s σ H x y v u Q I J S h;obtain⟨a,b,xs,ys,rfl,rfl,N,L,hx,hz,U,R⟩:=h;cases J;cases S;obtain⟨its,C,p1,_⟩:=I.tuple N;obtain⟨G,l,p2,_⟩:=I.tuple L;refine HT.zqh p1 p2 (fun z=>hx (C.nil_iff.mp z)) (fun z=>⟨.ref a,H,I,rfl,U (l.nil_iff.mp z)⟩) (fun z=>?_) (by rw[<- C.length,<- l.length];exact hz);refine⟨.ref s.heap.objs.size,_,I.laid (t':=s.toks) (o:=.tup (xs++ys)) (fun b Y q=>aj _ q) (av _) ?_,rfl,R (fun w=>z (l.nil_iff.mpr w)) _ (I.hok.fresh (av _))⟩;exact⟨by rw[bE];exact hz,_,C.append l,IsTD.new _ _⟩
end
def ixN(n:Nat)(i:Int):Option Nat:=if 0<=i then(if i<n then some i.toNat else none) else if -(n:Int)<=i then some (i+n).toNat else none
def atI{α:Type}(xs:List α)(i:Int):Option α:=(ixN xs.length i).bind fun j=>xs[j]?
theorem zlE{n:Nat}{i:Int}{j:Nat}(h:ixN n i=some j):seqIndex? i n=some j/\j<n/\-(n:Int)<=i/\i<n:=by unfold ixN at h;by_cases h0:0<=i;rw[if_pos h0]at h;by_cases h1:i<n;rw[if_pos h1]at h;have e:i.toNat=j:=au h;exact⟨by rw[ou h0 h1,e],by lia,by lia,h1⟩;rw[if_neg h1]at h;cases h;rw[if_neg h0]at h;by_cases h1:-(n:Int)<=i;rw[if_pos h1]at h;have e:(i+n).toNat=j:=au h;exact⟨by rw[nv (by lia) h1,e],by lia,h1,by lia⟩;rw[if_neg h1]at h;cases h
theorem zia{α:Type}{xs:List α}{i:Int}{v:α}(h:atI xs i=some v):∃j,seqIndex? i xs.length=some j/\xs[j]?=some v/\j<xs.length/\-(xs.length:Int)<=i/\i<xs.length:=by
 unfold atI at h;cases e:ixN xs.length i with
 | none=>rw[e]at h;cases h
 | some j =>rw[e]at h;obtain⟨l,u,x,o⟩:=zlE e;exact⟨j,l,h,u,x,o⟩
theorem zqm{α:Type}{xs:List α}{j:Nat}{v:α}(h:xs[j]?=some v):atI xs (j:Int)=some v:=by
 have l:j<xs.length:=(ao.mp h).1;have e:ixN xs.length (j:Int)=some j:=by unfold ixN;rw[if_pos (by lia),if_pos (by lia)];simp
 unfold atI;rw[e];exact h
def zmM(b:aQ):Prop:=∀o i,subscripted b false o i=operate [o,i] (getItem o i)
def IxR(X:Cx)(r:R2):Prop :=
 ∀(value slice:aQ) (pins:qO) (s:ak) (σ:St) (H:Hp) (x y:V) (v u:ae) (Q:VK),Inv X pins σ H s->RelV x v->RelV y u->r x y H Q ->
  subscripted slice false v u=operate [v,u] (getItem v u)->wpAny (model X.prog X.w) X.A (subscriptTail value slice v u) (EP X pins σ Q) X.xe s
def MtR(X:Cx)(id:String)(r:V->List V->Hp->VK->Prop):Prop :=
 ∀(pins:qO) (s:ak) (σ:St) (H:Hp) (x:V) (xs:List V) (v:ae) (o:List ae) (Q:VK),Inv X pins σ H s->RelV x v->Vals xs o->r x xs H Q ->
  wpAny (model X.prog X.w) X.A (call (.builtin id) (v::o)) (EP X pins σ Q) X.xe s
section
variable{X:Cx}{a b:aQ}{ta tb:TE}{pos:Pos}
theorem IxR.or{r l:R2}(h:IxR X r)(h':IxR X l):IxR X (fun x y H Q=>r x y H Q\/l x y H Q):=by intro value slice pins s σ H x y v u Q I o G q C;rcases q with q|q;exact h value slice pins s σ H x y v u Q I o G q C;exact h' value slice pins s σ H x y v u Q I o G q C
theorem QZ{r:R2}(o:IxR X r)(L:PE X a ta)(C:PE X b tb)(J:zmM b):PE X (.Subscript a b pos) (tOp r ta tb):=by intro pins s σ H Q I h;exact pH (binT L C I h fun v u s2 x y l R G N q=>o a b pins s2 σ l x y v u Q R G N q (J _ _))
def rIxL(K:qF):R2:=fun x y H Q=>∃p xs i v,x=.ref p/\y=.int i/\SqL K H p xs/\atI xs i=some v/\Q v H
def rIxT(K:qF):R2:=fun x y H Q=>∃p xs i v,x=.ref p/\y=.int i/\SqT K H p xs/\atI xs i=some v/\Q v H
def rIxS:R2:=fun x y H Q=>∃z i c,x=.str z/\y=.int i/\z.length<=sizeLine/\atI z.cps.toList i=some c/\Q (.str ⟨#[c]⟩) H
theorem Ua:IxR X (rIxL X.K):=by
 intro value slice pins s σ H x y v u Q I R ry h L;obtain⟨p,xs,i,z,rfl,rfl,S,he,q⟩:=h;cases R;obtain⟨t,rfl⟩:=ry;obtain⟨its,r,pl,hz⟩:=I.list S;obtain⟨j,l,Y,h3,U,h5⟩:=zia he;obtain⟨w,J,C⟩:=r.get Y;have Z:=r.length;have hn:=Ut;have fin:EP X pins σ Q w s:=⟨z,H,I,C,q⟩;by_cases h0:0<=i;have G:i.toNat=j:=by rw[ou h0 h5]at l;exact au l
 exact item_listR pl.isList h0 (by lia) (by rw[G];simpa using J) fin L;have G:(i+(its.toArray.size:Int)).toNat=j:=by rw[nv (by lia) U]at l;rw[aw,<- Z];exact au l
 exact kC (x:=w) pl.isList.typeIs ny.lookup
  (wpAny_getItem_list_neg (Q:=fun r s'=>r=w/\EP X pins σ Q r s') pl.isList (by lia) (by rw[aw] <;> lia) (by lia) (by rw[G];simpa using J) ⟨rfl,fin⟩) L
theorem zsd:IxR X (rIxT X.K):=by
 intro value slice pins s σ H x y v u Q I C S h J;obtain⟨p,xs,i,z,rfl,rfl,G,he,q⟩:=h;cases C;obtain⟨t,rfl⟩:=S;obtain⟨its,r,pl,hz⟩:=I.tuple G;obtain⟨j,N,L,U,Y,h5⟩:=zia he;obtain⟨w,o,l⟩:=r.get L;have R:=r.length;have Z:=Ut;have fin:EP X pins σ Q w s:=⟨z,H,I,l,q⟩;exact kC (x:=w) pl.typeIs slot_tuple_getitem.lookup
  (getItem_tuple (j:=j) (Q:=fun r s'=>r=w/\EP X pins σ Q r s') pl (by lia) (by lia) (by rw[aw,<- R];exact N) (by simpa using o) ⟨rfl,fin⟩) J
theorem zse:IxR X rIxS:=by
 intro value slice pins s σ H x y v u Q I o N h G;obtain⟨z,i,c,rfl,rfl,hz,he,q⟩:=h;obtain⟨t,rfl⟩:=o;obtain⟨t',rfl⟩:=N;obtain⟨j,l,J,U,C,R⟩:=zia he;have L:z.cps.toList.length=z.length:=by simp[Str.length]
 rw[L]at l C R;have Y:=Ut;exact tail_any (typeIs_str s z t) slot_str_getitem.lookup (getItem_str (c:=c) (by have S:decide (i < -(2 ^ 63:Int))=false:=decide_eq_false (by lia);have e2:decide (i>=2 ^ 63)=false:=decide_eq_false (by lia);rw[S,e2,Bool.or_false]) (by rw[l];simpa using J) ⟨.str ⟨#[c]⟩,H,I.tok _,⟨_,rfl⟩,q⟩) G
def rIx(K:qF):R2:=fun x y H Q=>rIxL K x y H Q\/rIxT K x y H Q\/rIxS x y H Q
theorem zsf:IxR X (rIx X.K):=Ua.or (zsd.or zse)
theorem zjG(its:List ae)(n j:Nat)(u:ae):bJ (·.setIfInBounds j u) { cls:=.type "list",data:=.seq its.toArray n }={ cls:=.type "list",data:=.seq (its.set j u).toArray n }:=by simp[bJ]
theorem Inv.lst{pins:qO}{σ:St}{H:Hp}{s:ak}{p:af}{xs:List V}(I:Inv X pins σ H s)(h:H p=some (.lst xs)) :
  ∃(its:List ae) (n:Nat),Vals xs its/\s.heap.get? p=some { cls:=.type "list",data:=.seq its.toArray n }/\xs.length<=sizeLine:=by
 obtain⟨z,its,n,r,e⟩:=I.hok p _ h;exact⟨its,n,r,e,z⟩
theorem Inv.lstUpd{pins:qO}{σ:St}{H:Hp}{s:ak}{p:af}{xs ys:List V}{its its':List ae}{n o:Nat}{f:Obj->Obj}(I:Inv X pins σ H s)(h:H p=some (.lst xs))
  (v:s.heap.get? p=some { cls:=.type "list",data:=.seq its.toArray n }) (hf:f { cls:=.type "list",data:=.seq its.toArray n }={ cls:=.type "list",data:=.seq its'.toArray o }) (r:Vals ys its') (hz:ys.length<=sizeLine) (t:Nat) :
  Inv X pins σ (upd H p (.lst ys)) { s with heap:=s.heap.update p f,toks:=t }:=by
 have e:(s.heap.update p f).get? p=some { cls:=.type "list",data:=.seq its'.toArray o }:=by rw[gR f v (by rw[hf] <;> rfl),hf]
 refine I.write (x:=p) (e:=p) (by rw[h];trivial) (.inl rfl) (fun b u C q=>(kD _ _ (fc C)).trans q) ⟨_,e⟩ ?_;exact⟨hz,its',o,r,e⟩
def zuD:V->V->V->Hp->(Hp->Prop)->Prop:=fun o i v H Q=>∃p xs k j,o=.ref p/\i=.int k/\H p=some (.lst xs)/\ixN xs.length k=some j/\Q (upd H p (.lst (xs.set j v)))
theorem set_list:PSet X zuD:=by
 intro pins s σ H o i v ov iv u Q I Z Y rv h;obtain⟨p,xs,k,j,rfl,rfl,J,U,q⟩:=h;cases Z;obtain⟨t,rfl⟩:=Y;obtain⟨its,n,r,y,hz⟩:=I.lst J;obtain⟨x,h2,L,R⟩:=zlE U;have G:=r.length;have hn:=Ut;have S:Inv X pins σ (upd H p (.lst (xs.set j v))) { s with heap:=s.heap.update p (bJ (·.setIfInBounds j u)) } :=
  I.lstUpd J y (zjG its n j u) (r.set rv j) (by rw[lh];exact hz) s.toks
 by_cases h0:0<=k;have C:k.toNat=j:=by rw[ou h0 R]at x;exact au x
 exact PySem.W.ki_setAt y h0 (by lia) (by rw[aw,<- G];exact R) (by rw[C];exact⟨_,S,q⟩);have C:(k+(its.toArray.size:Int)).toNat=j:=by rw[nv (by lia) L]at x;rw[aw,<- G];exact au x
 exact PySem.W.ki_setBack y (by lia) (by rw[aw,<- G];exact L) (by lia) (by rw[C];exact⟨_,S,q⟩)
theorem zgf(lo hi:Option Int)(n:Nat):(sliceBounds lo hi none n).1=((HT.sIx n 0 lo:Nat):Int)/\(sliceBounds lo hi none n).2.1=((HT.sIx n n hi:Nat):Int)/\(sliceBounds lo hi none n).2.2=1:=by
 refine⟨?_,?_,rfl⟩;cases lo with
 | none=>simp[sliceBounds,HT.sIx]
 | some i =>simp only[sliceBounds,HT.sIx,iV,show(1:Int) > 0 by decide,if_true];by_cases h:i<0;simp only[h,if_true] <;> lia;simp only[h,if_false] <;> lia
 cases hi with
 | none=>simp[sliceBounds,HT.sIx]
 | some i =>simp only[sliceBounds,HT.sIx,iV,show(1:Int) > 0 by decide,if_true];by_cases h:i<0;simp only[h,if_true] <;> lia;simp only[h,if_false] <;> lia
theorem zfq(its:List ae)(lo hi:Option Int):slicePick its.toArray lo hi none=((its.drop (HT.sIx its.length 0 lo)).take (HT.sIx its.length its.length hi - HT.sIx its.length 0 lo)).toArray:=by obtain⟨l,u,v⟩:=zgf lo hi its.toArray.size;unfold slicePick;rw[l,u,v];simp only[sliceRange_one,pick_run,aw] <;> rfl
def rSlL(K:qF):V->Option Int->Option Int->Hp->VK->Prop:=fun x lo hi H Q=>∃a xs,x=.ref a/\SqL K H a xs/\∀p,H p=none->Q (.ref p) (upd H p (.lst (cutV xs lo hi)))
theorem zoL:SlR X (rSlL X.K):=by intro pins s σ H x v L R lo hi S Q I C G pl J h;obtain⟨a,xs,rfl,hx,q⟩:=h;cases C;obtain⟨its,r,y,hz⟩:=I.list hx;have u:=r.length;refine⟨"list",_,ny.lookup,y.isList.typeIs,?_⟩;refine wpAny_getItem_list_slice y.isList G pl J .none (by simp) ?_ (by rw[aw] <;> lia);rw[zfq,<- u];refine⟨.ref s.heap.objs.size,_,I.laid (t':=s.toks) (o:=.lst (cutV xs lo hi)) (fun b N q=>aj _ q) (av _) ?_,rfl,q _ (I.hok.fresh (av _))⟩;exact⟨bA (zh5 xs lo hi) hz,_,0,(r.drop (HT.sIx xs.length 0 lo)).take (HT.sIx xs.length xs.length hi - HT.sIx xs.length 0 lo),aA _ rfl⟩
theorem zhd:JQ X (.builtin "len") (fun xs H Q=>∃p ys,xs=[.ref p]/\(SqL X.K H p ys\/SqT X.K H p ys)/\Q (.int ys.length) H):=by intro pins s σ H xs G Q I r h;obtain⟨p,ys,rfl,v,q⟩:=h;obtain⟨u,rfl,y⟩:=vals1 r;cases y;have C:=Ut;rcases v with v|v;obtain⟨its,x,pl,hz⟩:=I.list v;have o:=x.length;exact mJ pl.isList (by simp only[aw] <;> lia) ⟨.int ys.length,H,I.tok _,⟨s.toks+1,by rw[aw,o]⟩,q⟩;obtain⟨its,x,pl,hz⟩:=I.tuple v;have o:=x.length;exact len_tuple pl (by simp only[aw] <;> lia) ⟨.int ys.length,H,I.tok _,⟨s.toks+1,by rw[aw,o]⟩,q⟩
theorem zhc:JQ X (.type "list") (fun xs H Q=>∃p ys,xs=[.ref p]/\(SqL X.K H p ys\/SqT X.K H p ys)/\∀l,H l=none->Q (.ref l) (upd H l (.lst ys))):=by
 intro pins s σ H xs N Q I r h;obtain⟨p,ys,rfl,x,q⟩:=h;obtain⟨u,rfl,L⟩:=vals1 r;cases L;have fin:∀(its:List ae),Vals ys its->ys.length<=sizeLine->∀(h':ba) (c':Nat),(∀b J,s.heap.get? b=some J->h'.get? b=some J) ->
   h'.get? s.heap.objs.size=some { cls:=.type "list",dict:=none,data:=.seq its.toArray c',slots:=#[] }->EP X pins σ Q (.ref s.heap.objs.size) { s with heap:=h' }:=fun its v hz h' c' kp e =>
  ⟨.ref s.heap.objs.size,_,I.laid (t':=s.toks) kp (av _) (show JI X.prog X.w _ h' _ (.lst ys) from⟨hz,its,c',v,e⟩),rfl,q _ (I.hok.fresh (av _))⟩
 rcases x with x|x;obtain⟨its,v,pl,hz⟩:=I.list x;have C:=v.length;obtain⟨o,G,hc,n,hd⟩:=pl.isList;exact call_list_seq p (.inl rfl) G hc hd (fun h' c' kp e=>fin its v hz h' c' kp e) (by simp only[aw] <;> lia);obtain⟨its,v,pl,hz⟩:=I.tuple x;have C:=v.length;obtain⟨o,G,hc,n,hd⟩:=pl;exact call_list_seq p (.inr rfl) G hc hd (fun h' c' kp e=>fin its v hz h' c' kp e) (by simp only[aw] <;> lia)
theorem ZB:JQ X (.type "tuple") (fun xs H Q=>∃p ys,xs=[.ref p]/\((SqL X.K H p ys/\∀l,H l=none->Q (.ref l) (upd H l (.tup ys)))\/(SqT X.K H p ys/\Q (.ref p) H))):=by
 intro pins s σ H xs N Q I r h;obtain⟨p,ys,rfl,h⟩:=h;obtain⟨u,rfl,J⟩:=vals1 r;cases J;rcases h with⟨v,q⟩|⟨v,q⟩;obtain⟨its,x,pl,hz⟩:=I.list v;have G:=x.length;refine call_tuple_list pl.isList (fun h' kp=>?_) (by simp only[aw] <;> lia);have C:Inv X pins σ H { s with heap:=h' }:=I.kept (t':=s.toks) kp;have L:Inv X pins σ (upd H h'.objs.size (.tup ys)) { s with heap:=h'.push { cls:=.type "tuple",data:=.seq its.toArray } } :=
  C.laid (t':=s.toks) (fun b o e=>aj _ e) (av _) (show JI X.prog X.w _ _ _ (.tup ys) from⟨hz,its,x,IsTD.new _ _⟩)
 exact⟨.ref h'.objs.size,_,L,rfl,q _ (C.hok.fresh (av _))⟩;obtain⟨its,x,pl,hz⟩:=I.tuple v;exact call_tuple_same pl ⟨.ref p,H,I,rfl,q⟩
def tyV(K:qF)(T:String)(x:V)(H:Hp):Prop:=match x with
 | .str _=>T = "str"
 | .int _=>T = "int"
 | .ref p=>(T = "list" /\ ∃xs,SqL K H p xs)\/(T = "tuple" /\ ∃o,K.lookup p=some o/\o.cls=.type "tuple" /\ o.dict=none) \/
   (T = "dict" /\ ((∃l,H p=some (.dK l))\/∃l,H p=some (.dT l)))\/(T = "set" /\ ∃S n,H p=some (.set S n))
 | _=>False
theorem zn6{pins:qO}{σ:St}{H:Hp}{s:ak}{T:String}{x:V}{v:ae}(I:Inv X pins σ H s)(r:RelV x v)(ty:tyV X.K T x H) :
  s.TypeIs v T/\∀a,v=.ref a->∃y,s.heap.get? a=some y/\y.dict=none:=by
 cases x with
 | str z =>obtain⟨t,rfl⟩:=r;cases(show T = "str" from ty);exact⟨typeIs_str s z t,fun _ e=>nomatch e⟩
 | int i =>obtain⟨t,rfl⟩:=r;cases(show T = "int" from ty);exact⟨pI s i t,fun _ e=>nomatch e⟩
 | ref p =>
  cases r;rcases ty with⟨rfl,xs,C⟩|⟨rfl,o,l,hc,hd⟩|⟨rfl,l⟩|⟨rfl,S,n,l⟩;obtain⟨its,_,pl,_⟩:=I.list C;refine⟨pl.isList.typeIs,fun a e=>?_⟩;cases e;obtain⟨o,n,e,c,hd,_⟩:=pl;exact⟨o,e,hd⟩;refine⟨⟨o,I.kIn p o l,hc⟩,fun a e=>?_⟩;cases e;exact⟨o,I.kIn _ o l,hd⟩;have z:∃o,s.heap.get? p=some o/\o.ExactDict:=by rcases l with⟨u,l⟩|⟨u,l⟩;obtain⟨_,_,_,_,o,_,_,e,ex,_⟩:=I.hok p _ l;exact⟨o,e,ex⟩;obtain⟨_,_,_,_,o,_,_,e,ex,_⟩:=I.hok p _ l;exact⟨o,e,ex⟩
  obtain⟨o,e,ex⟩:=z;refine⟨⟨o,e,ex.1⟩,fun a e2=>?_⟩;cases e2;exact⟨o,e,ex.2.1⟩;obtain⟨o,_,_,_,e,ex,_⟩:=I.hok p _ l;refine⟨⟨o,e,ex.1⟩,fun a e2=>?_⟩;cases e2;exact⟨o,e,ex.2.1⟩
 | _=>exact cm ty
def tBM0(K:qF)(T:String)(r:V->List V->Hp->VK->Prop)(to:TE):TE:=fun σ H Q=>to σ H fun x l=>tyV K T x l/\r x [] l Q
def tBM(K:qF)(T:String)(r:V->List V->Hp->VK->Prop)(to:TE)(t:TA):TE:=fun σ H Q=>to σ H fun x l=>tyV K T x l/\t σ l fun xs o=>r x xs o Q
variable{o e:aQ}{es:List aQ}{to:TE}{t:TA}{name:Str}{apos Hy:Pos}{T id:String}{r:V->List V->Hp->VK->Prop}
theorem zrr(pa:PlainAttrs T)(slot:Slot T name id)(G:typeOf (.builtin id)=pure (.type "method_descriptor")) (R:MtR X id r) (N:PE X o to)
  (Hh:attributeBase o name X.env (eval o X.env)=eval o X.env:=by rfl) (Z:(apos.endLine == Hy.line)=true:=by rfl):PE X (.Call (.Attribute o name apos) [] [] Hy) (tBM0 X.K T r to):=by
 intro pins s σ H Q I h;refine wpAny_Call_method0_late Hh Z (thn (N pins s σ H _ I h) fun v s1 ⟨x,U,L,J,ty,q1⟩=>?_);obtain⟨Y,S⟩:=zn6 L J ty;exact⟨T,id,pa,slot,G,Y,S,gA rfl (PySem.evalArgs_none (R pins s1 σ U x [] v [] Q L J .nil q1))⟩
theorem zpf(pa:PlainAttrs T)(slot:Slot T name id)(G:typeOf (.builtin id)=pure (.type "method_descriptor")) (U:MtR X id r) (S:PE X o to) (ha:PA X (e::es) t)
  (Hh:attributeBase o name X.env (eval o X.env)=eval o X.env:=by rfl)
  (HM:((backTo Hy (starEach (e::es) X.env)).all (fun x=>!x.1)&&(backToKw Hy (keywordEach [] X.env)).all (fun x=>x.1.isSome)
   && decide ((e::es).length+([]:List gC).length+(if ([]:List gC).isEmpty then 0 else 1)<30))=true:=by rfl)
  (Hi:(apos.endLine == Hy.line)=true:=by rfl) (Y:starEach (e::es) X.env=(false,eval e X.env)::starEach es X.env:=by rfl) (HX:(backTo Hy (starEach es X.env)).any (·.1)=false:=by rfl) :
  PE X (.Call (.Attribute o name apos) (e::es) [] Hy) (tBM X.K T r to t):=by
 intro pins s σ H Q I h;refine kE Hh HM Hi rfl (thn (S pins s σ H _ I h) fun v s1 ⟨x,H1,L,J,ty,q1⟩=>?_);obtain⟨h1,Z⟩:=zn6 L J ty;refine⟨T,id,pa,slot,G,h1,Z,?_⟩;have N:=ha Hy pins s1 σ H1 _ L q1;rw[Y]at N ⊢;refine gA (by show(false||(backTo Hy (starEach es X.env)).any (·.1))=false;rw[HX] <;> rfl) (lX ?_);exact thn N fun us s2 ⟨vs,R,I2,r2,q2⟩=>U pins s2 σ R x vs v us Q I2 J r2 q2
end
def MtM(X:Cx)(id:String)(r:V->List V->Hp->VK->Prop):Prop :=
 ∀(pins:qO) (s:ak) (σ:St) (H:Hp) (x:V) (xs:List V) (v:ae) (o:List ae) (Q:VK),Inv X pins σ H s->RelV x v->Vals xs o->r x xs H Q ->
  wpAny (model X.prog X.w) X.A (call (.builtin id) (v::o)) (EP X pins σ Q) X.xe s
theorem Vals.one{x:V}{l:List ae}(h:Vals [x] l):∃u,l=[u]/\RelV x u:=by
 cases h with
 | cons r t=>cases t;exact⟨_,rfl,r⟩
theorem Vals.rep{xs:List V}{o:List ae}(h:Vals xs o):∀k:Nat,Vals (aU k xs).flatten (aU k o).flatten
 | 0=>.nil
 | k+1=>by rw[bG,bG,fv,fv];exact Vals.append h (Vals.rep h k)
theorem foldl_rep(its:List ae):∀(k:Nat) (u:List ae),
  pJ (fun x1 v=>x1++v) u.toArray (aU k its.toArray)=(u++(aU k its).flatten).toArray
 | 0,u=>by simp
 | k+1,u=>by
  have e:u.toArray++its.toArray=(u++its).toArray:=by simp
  have e2:(u++its)++(aU k its).flatten=u++(aU (k+1) its).flatten:=by rw[bG,fv,iJ]
  rw[<- e2,<- foldl_rep its k (u++its),<- e,bG,fZ]
section
variable{X:Cx}{pins:qO}{σ:St}{H:Hp}{s:ak}{l b:af}{xs ys zs:List V}
theorem Inv.lset{its its':List ae}{n:Nat}{f:Array ae->Array ae}{t':Nat}(I:Inv X pins σ H s)(o:H l=some (.lst xs))
  (e:s.heap.get? l=some { cls:=.type "list",data:=.seq its.toArray n }) (hf:f its.toArray=its'.toArray) (C:Vals ys its') (hz:ys.length<=sizeLine) :
  Inv X pins σ (upd H l (.lst ys)) { s with heap:=s.heap.update l (bJ f),toks:=t' }:=by
 have q:=PySem.IsL.update e f;rw[hf]at q;refine I.write (x:=l) (e:=l) (by rw[o];exact trivial) (.inl rfl) (fun J u v G=>(kD s.heap (bJ f) (fc v)).trans G) ⟨_,q⟩ ?_;exact⟨hz,its',_,C,q⟩
theorem Inv.lnew{its:List ae}{t':Nat}(I:Inv X pins σ H s)(o:Vals ys its)(hz:ys.length<=sizeLine) :
  Inv X pins σ (upd H s.heap.objs.size (.lst ys)) { s with heap:=s.heap.push { cls:=.type "list",data:=.seq its.toArray },toks:=t' } :=
 I.laid (fun _ _ q=>aj _ q) (av _) ⟨hz,its,0,o,aA _ rfl⟩
theorem Inv.fresh(I:Inv X pins σ H s):H s.heap.objs.size=none:=I.hok.fresh (av _)
theorem Inv.lstM(I:Inv X pins σ H s)(o:H l=some (.lst xs)):xs.length<=sizeLine/\∃(its:List ae) (n:Nat),Vals xs its/\xs.length=its.length/\s.heap.get? l=some { cls:=.type "list",data:=.seq its.toArray n }:=by obtain⟨z,its,n,r,e⟩:=I.hok l _ o;exact⟨z,its,n,r,r.length,e⟩
theorem zfH{n:Nat}(h:n<=sizeLine):dN n=false:=by unfold dN;exact decide_eq_false (by lia)
end
section
variable{X:Cx}
def zoZ:V->List V->Hp->VK->Prop:=fun x u H Q=>∃l xs y,x=.ref l/\u=[y]/\H l=some (.lst xs)/\xs.length<sizeLine/\Q .non (upd H l (.lst (xs++[y])))
theorem VA:MtM X "list.append" zoZ:=by intro pins s σ H x S v R Q I G J h;obtain⟨l,xs,y,rfl,rfl,C,hz,q⟩:=h;cases G;obtain⟨u,rfl,L⟩:=J.one;obtain⟨z,its,n,r,N,e⟩:=I.lstM C;refine kF F.slot_list_append ⟨_,e,rfl⟩ F.entry_list_append (F.args_list_append_2 _ _) (PySem.list_append l its.toArray n u (by rw[aw];lia)) ⟨e,?_⟩;refine⟨.non,_,I.lset (its':=its++[u]) C e (by simp) (r.append (.cons L .nil)) ?_,rfl,q⟩;rw[bE,List.length_singleton];lia
def zoW:V->List V->Hp->VK->Prop:=fun x u H Q=>∃l b xs zs,x=.ref l/\u=[.ref b]/\H l=some (.lst xs)/\H b=some (.lst zs)/\xs.length+zs.length<=sizeLine/\Q .non (upd H l (.lst (xs++zs)))
theorem zk9:MtM X "list.extend" zoW:=by
 intro pins s σ H x vs v us Q I G S h;obtain⟨l,b,xs,zs,rfl,rfl,C,N,hz,q⟩:=h;cases G;obtain⟨u,rfl,Y⟩:=S.one;cases Y;obtain⟨z,its,n,r,hl,e⟩:=I.lstM C;obtain⟨Z,y,J,L,U,e2⟩:=I.lstM N;have hsz:its.toArray.size+y.toArray.size<=sizeLine:=by rw[aw,aw];lia
 have R:¬(!its.toArray.isEmpty&&dN (its.toArray.size+y.toArray.size))=true:=by rw[zfH hsz,lY];exact aL
 refine kF m5 ⟨_,e,rfl⟩ mK (lZ _ _)
  (AutoSeq1.list_extend_list_list_0 l its.toArray n b y.toArray J R (by rw[aw];lia) (by lia)) ⟨e,e2,?_⟩
 refine⟨.non,_,I.lset (its':=its++y) C e (by simp) (r.append L) ?_,rfl,q⟩;rw[bE];lia
def rRep:R2:=fun x y H Q=>∃l k xs,x=.ref l/\y=.int k/\H l=some (.lst xs)/\-(2 ^ 63)<=k/\k<2 ^ 63/\xs.length*k.toNat<=sizeLine /\
 ∀p,H p=none->Q (.ref p) (upd H p (.lst (aU k.toNat xs).flatten))
theorem len_rep{α:Type}(xs:List α)(k:Nat):(aU k xs).flatten.length=k*xs.length:=by
 induction k with
 | zero=>simp
 | succ k o=>rw[bG,fv,bE,o,tO,tP]
theorem zrB:OpR X (binaryOp .Mult) rRep:=by
 intro pins s σ H x y v u Q I N ry h;obtain⟨l,k,xs,rfl,rfl,R,Y,S,hz,q⟩:=h;cases N;obtain⟨t,rfl⟩:=ry;obtain⟨z,its,n,r,hl,e⟩:=I.lstM R;have J:its.toArray.size*k.toNat<=sizeLine:=by rw[aw,<- hl];exact hz
 have C:¬its.toArray.size*k.toNat > (2 ^ 63 - 1) / 8:=by
  have:(sizeLine:Nat)<=(2 ^ 63 - 1) / 8:=by decide
  lia
 have G:¬(!Builtin.List.listFitsIndex k)=true:=by rw[fitsIndex_both Y S];exact aL
 have Z:¬dN (its.toArray.size*k.toNat)=true:=by rw[zfH J];exact aL
 have Ii:pJ (fun x1 L=>x1++L) #[] (aU (if its.toArray.isEmpty=true then 0 else k.toNat) its.toArray)=(aU k.toNat its).flatten.toArray:=by
  have f0:∀m:Nat,pJ (fun x1 L=>x1++L) #[] (aU m its.toArray)=(aU m its).flatten.toArray:=fun m=>by have:=foldl_rep its m [];rw[dB]at this;exact this
  rw[f0];cases its with
  | nil=>simp
  | cons a r'=>rw[if_neg (by simp)]
 refine wpAny_binaryOp_repeat_ref (T:="list") (U:="int") (by decide) ⟨_,e,rfl⟩ (fun s'=>pI s' k t) noFill_list_mul F.fills_int_mul oK repeat_list F.slot_int_index.lookup
  (kF oK (pI s k t) F.entry_int_rmul (F.args_int_rmul_2 _ _) (int___rmul___int_list k t l its.toArray n)
   ⟨e,rfl,⟨_,e,rfl⟩,kF F.slot_list_mul ⟨_,e,rfl⟩ F.entry_list_mul (F.args_list_mul_2 _ _) (AutoListH.list___mul___list_int_3 l its.toArray n k t G C Z) ⟨e,?_⟩⟩)
 rw[Ii];exact⟨.ref _,_,I.lnew (t':=s.toks) (r.rep k.toNat) (by rw[len_rep,kG];exact hz),rfl,q _ I.fresh⟩
end
end L2
namespace Att
open PySem PySem.W PySem.Calls PyProof.Rows
theorem zef{P:pK}{h:ba}:∀(ns:List Int) (u:List ae),WellAll P h u (ns.map xY)->fg u ns:=by
 intro ns;induction ns with
 | nil =>intro u w;rw[dM]at w;cases w;exact .nil
 | cons n ns v =>
  intro u w;rw[aG]at w;cases w with
  | cons a b =>cases a;exact .cons _ _ (v _ b)
theorem zkp{l:OpenLaw}{n:Nat}(R:l.most=some n){P:pK}{h:ba}{args:List WData}{vals:List ae}
  (I:l.row.toRowW.claim.pre args=true) (G:WellAll P h vals args) :
  ∃a J ns,vals=[aX a]/\args=[WData.list (ns.map xY)]/\h.get? a=some { cls:=.type "list",data:=.seq J.toArray }/\fg J ns/\ns.length<=n:=by
 have C:WShape.hasAll [] args [.list .int]=true:=(pre_splitW I).1;have hc:l.pre.holds [] { args:=args }=true:=(pre_splitW I).2;obtain⟨d,r,rfl,Z,U⟩:=hasAllW_cons C;obtain rfl:=hasAllW_nil U;obtain⟨xs,rfl,N⟩:=hasW_list Z;obtain⟨ns,rfl⟩:=items_int N;have u:ns.length<=n:=by
  unfold OpenLaw.pre at hc;have v:(WTm.not (.lt (.lit (.int (n:Int))) (.len (.arg 0)))).holds [] { args:=[.list (ns.map .int)] }=true:=by have v:=(holds_andW hc).1;rw[R]at v;exact v
  have x:=condW_of v (w_not (w_lt w_lit (w_len_list (w_arg rfl))));rw[aP]at x;refine iW fun q=>?_;have S:(n:Int)<((ns.length:Nat):Int):=by lia
  first
   | (rw[decide_eq_true S]at x;exact absurd x (by decide))
   | (simp at x;lia)
 cases G with
 | cons Y w2 =>
  cases w2;cases Y with
  | list L Ib=>exact⟨_,_,ns,rfl,rfl,L,zef ns _ Ib,u⟩
theorem zkL(l:OpenLaw)(args:List WData):l.row.toRowW.claim.post args (.bool true) args=true :=
 postW_of (r:=l.row.toRowW) (X:=(true == true))
  (show wg [] (.bool true) .bool=true by first|rfl|decide|simp[wg,WShape.arms,WShape.armsAll])
  (show(WTm.eq .res (.lit (.bool true))).value [] { args:=args,res:=some (.bool true),after:=args }=some (.bool (true == true)) from w_eq_bool (w_res rfl) w_lit) rfl
theorem attach_call{l:OpenLaw}{n:Nat}{q:aO}{loose:List Str}{XP:(Str->Option ae)->ba->Prop}{YP:br->ba->Prop}{d:DefRec}
  (hn:l.most=some n) (S:d.params.defaults=[])
  (call:∀(w:br) (s₀ v:ak) (mg N:qM) (J:af) (o:Obj) (pm cd doc:ae) (a:af) (C:List ae) (ns:List Int),
   Ground q loose [] XP w s₀ mg N v.heap->YP w v.heap ->
   v.heap.get? J=some o->o.data=.func (docDef d.name d.params d.body d.scope pm cd doc)->v.heap.CodeRec cd d.name->mg d.name=some (.ref J) ->
   v.heap.get? a=some { cls:=.type "list",data:=.seq C.toArray }->fg C ns->ns.length<=n->v.gens=#[] ->
   codeAny (model l.prog w) callerA (.call (.ref J) ⟨[.ref a],[]⟩) (fun r s'=>r=.ok (.ret (.bool true))/\OldK v.heap s'.heap/\s'.os=v.os/\hX s'.gens) v) :
  WalkO q loose XP YP l.row.toRowW d [] (fun f C=>wj f C):=by
 intro w s₀ v mg N G Y J o pm cd doc dV kV ho hd U hD R hg args vals as Ij hlay hrd Z hlo;obtain rfl:dV=.none:=Dflts.none hD S;obtain rfl:kV=.none:=Dflts.noKw hD;obtain⟨a,C,ns,rfl,rfl,I,x,L⟩:=zkp hn Ij Z;refine enter_call (fG (call w s₀ v mg N J o pm cd doc a C ns G Y ho (fd_plain hd) U R I x L hg) fun r s' hq=>?_);obtain⟨rfl,h2,h3,h4⟩:=hq;exact⟨.inl ⟨.bool true,.bool true,[],rfl,fun _=>rfl,.bool true,zkL l _,fun _=>⟨xk,fun _ hm=>(nomatch hm)⟩⟩,h2,h3,h4⟩
section
variable{prog:aO}{w:br}{A:bc}{E:qV}{s:ak}{K:Frag}
def Z8(h:ba):ba:={ h with objs:=#[] }
theorem Vy(h:ba)(b:af):(Z8 h).get? b=none:=by
 cases e:(Z8 h).get? b with
 | none=>rfl
 | some o=>exact absurd (ax e) (oM _)
def ledger(h:ba)(L d:af):List (af×Obj):=(bY h.objs.size).filterMap fun a=>if a=L\/a=d then none else(h.get? a).map fun o=>(a,o)
theorem zjF{h:ba}{L d a:af}{o:Obj}:(a,o)∈ledger h L d↔a≠L/\a≠d/\h.get? a=some o:=by unfold ledger;rw[d9];constructor;rintro⟨b,_,e⟩;split at e;cases e;rename_i v;obtain⟨G,u,x⟩:=dr.mp e;cases x;exact⟨fun q=>v (.inl q),fun q=>v (.inr q),u⟩;rintro⟨C,y,u⟩;refine⟨a,dO.mpr (ax u),?_⟩;rw[if_neg (show ¬(a=L\/a=d) from fun q=>q.elim C y),u] <;> rfl
theorem zsO{h:ba}{L:af}{m:qM}(n:h.Ns L m):Fr (Z8 h) L h m :=
 ⟨n,fun b o e=>(by rw[Vy]at e;cases e),bX _⟩
end
end Att
namespace L2
open PySem PySem.Spec PyProof.Rows
theorem zf6:∀{u:List ae}{ns:List Int},fg u ns->Vals (ns.map V.int) u
 | _,_,.nil=>.nil
 | _,_,.cons n t h=>.cons ⟨t,rfl⟩ (zf6 h)
def Qy(s:dE):iT:=match s with
 | .FunctionDef _ a _ _ _ _ _ _ _ _=>a
 | _=>{ posonlyargs:=[],args:=[],vararg:=none,kwonlyargs:=[],kw_defaults:=[],kwarg:=none,defaults:=[] }
def J1(s:dE):List dE:=match s with
 | .FunctionDef _ _ b _ _ _ _ _ _ _=>b
 | _=>[]
def JE(s:dE):dD:=match s with
 | .FunctionDef _ _ _ _ _ _ sc _ _ _=>sc
 | _=>{ kind:=.function,names:=[],isGenerator:=false,isCoroutine:=false }
abbrev CX0:CXT:=fun _ _ _ _ _ _=>False
abbrev E0:XK:=fun _ _ _=>False
theorem zru{X:Cx}:ZR CX0 X E0:=fun _ _ _ _ _ _ _ h=>h.elim
structure Fun(K:qF)(x qual:Str)(st:dE)(f:af)(fd:cH):Prop where
 ex:∃(oc:ae) (od:Option af) (kV doc pm:ae) (an:Option af) (cdv ct:ae) (osl:Array (Option ae)),
  fd=dJ x qual (Qy st) (J1 st) (JE st) .none kV doc pm an cdv ct/\K.lookup f=some ⟨oc,od,.func fd,osl⟩/\gy K cdv qual=true
 kp:fB K (.ref f)=true
section
variable{P:aO}{w:br}{K:qF}{mg:qM}{base:ba}
theorem Fun.ok{x qual:Str}{st:dE}{f:af}{fd:cH}{N ps:List Str}{k:Nat}{v:Sp}(F:Fun K x qual st f fd)(S:Qs N ps (JE st))(len:∀u H Q E,v u H Q E->u.length=ps.length)
  (I:∀(l:ae) (A:bc) (outer:List Env) (s:ak) (H:Hp) (u:List V) (Q:VK) (E:XK),Room k (A.deeper (envOfC qual (JE st) s.heap.objs.size f l))->v u H Q E ->
   ∃t,PSs (cxOf CX0 P w K mg base N qual (JE st) f l A outer s H E).nox (J1 st) t/\t { nx:=fun _ H'=>Q .non H',rt:=Q } (start N u) H):FnOk P w K mg base CX0 (k+1) f fd ps v:=by
 obtain⟨R,U,kV,doc,pm,an,l,ct,J,rfl,L,C⟩:=F.ex;refine zsV L C S len fun A outer s H u Q E G y=>?_;obtain⟨t,h,q⟩:=I l A outer s H u Q E G y;exact⟨t,h.nox,q⟩
theorem Fun.binds{x qual:Str}{st:dE}{f:af}{fd:cH}{ps:List Str}(F:Fun K x qual st f fd)
  (h:∀(kV doc pm:ae) (an:Option af) (u ct:ae) (v:List ae),v.length=ps.length->bindArgs (dJ x qual (Qy st) (J1 st) (JE st) .none kV doc pm an u ct) ⟨v,[]⟩=pure (ps.zip v)):Binds K fd ps []:=by
 obtain⟨G,I,kV,doc,pm,an,u,ct,y,rfl,J,C⟩:=F.ex;exact .all (h kV doc pm an u ct)
theorem zor{x qual:Str}{st:dE}{f:af}{G:ae}{C an:Option af}{y:Array (Option ae)}{kV doc pm v ct:ae}(l:K.lookup f=some ⟨G,C,.func (dJ x qual (Qy st) (J1 st) (JE st) .none kV doc pm an v ct),y⟩)
  (c:gy K v qual=true) (k:fB K (.ref f)=true):Fun K x qual st f (dJ x qual (Qy st) (J1 st) (JE st) .none kV doc pm an v ct):=⟨⟨G,C,kV,doc,pm,an,v,ct,y,rfl,l,c⟩,k⟩
end
section
variable{X:Cx}
theorem pv(i:Nat){x:Str}{pos:Pos}(u:X.N[i]?=some x:=by rfl)(o:Vis X.env.scope x:=by walk_at "V")(hd:(x == ("__debug__":Str))=false:=by decide)
  (l:(x == ("__classdict__":Str))=false:=by decide):PE X (.Name x pos) (tVar i):=Qe u o hd l
end
theorem iteF{A B:Prop}(h:B):if false=true then A else B:=by rw[if_neg aL];exact h
theorem iteT{A B:Prop}(h:A):if true=true then A else B:=by rw[if_pos rfl];exact h
def Same(H H':Hp):Prop:=∀b o,H b=some o->H' b=some o
theorem Same.refl(H:Hp):Same H H:=fun _ _ h=>h
def closed(env:Env):List (Str×dQ)->List (Str×af)->List (Str×af)
 | [],acc=>acc
 | (n,k)::r,acc=>closed env r (if (k == .free)=true then(n,(env.cells.lookup n).getD 0)::acc else acc)
theorem zer{env:Env}:∀(l:List (Str×dQ)) (o:List (Str×af)),(∀x∈l,x.2=.free->∃c,env.cells.lookup x.1=some c) ->
  (forIn l o fun x __s=>if (x.snd == bW)=true then do
    let c <- cellOf env x.fst
    pure (bT ((x.fst,c)::__s))
   else pure (bT __s):Sem (List (Str×af)))=pure (closed env l o)
 | [],o,_=>rfl
 | (n,k)::r,o,h=>by
  have y:=fun a=>zer (env:=env) r a fun x hx=>h x (cw _ hx);rw[lu];by_cases e:(k == bW)=true;obtain⟨c,hc⟩:=h (n,k) dF (by simpa using e);have u:uQ n env.cells=some c:=hc;have e2:cellOf env n=pure c:=by unfold cellOf;rw[u]
  simp only[e,if_true,e2,pure_bind];rw[y];conv=>rhs;unfold closed
  simp only[e,if_true,u,dG];have v:(k == bW)=false:=by simpa using e
  simp only[v,aI,if_false,pure_bind];rw[y];conv=>rhs;unfold closed
  simp only[v,aI,if_false]
theorem VG{scope:dD}{env:Env}(h:∀x∈scope.names,x.2=.free->∃c,env.cells.lookup x.1=some c):closureFor scope env=pure (closed env scope.names []):=by simp only[closureFor];rw[zer scope.names [] h];rfl
theorem UA{env:Env}:∀(l:List (Str×dQ)) (v:List (Str×af)),(∀x∈l,x.2=.free->∃c,env.cells.lookup x.1=some c) ->
  (∀x c,v.lookup x=some c->env.cells.lookup x=some c)->∀x c,(closed env l v).lookup x=some c->env.cells.lookup x=some c
 | [],v,_,ha=>ha
 | (n,k)::r,v,h,ha=>by
  unfold closed;refine UA r _ (fun x hx=>h x (cw _ hx)) fun x c=>?_;by_cases e:(k == bW)=true;obtain⟨d,hd⟩:=h (n,k) dF (by simpa using e);have y:uQ n env.cells=some d:=hd;simp only[e,if_true,y,dG];intro q;rw[cF]at q;by_cases ex:(x == n)=true;simp only[ex]at q;have G:x=n:=by simpa using ex
  cases q;rw[G];exact y;have C:(x == n)=false:=by simpa using ex
  simp only[C]at q;exact ha x c q;have I:(k == bW)=false:=by simpa using e
  simp only[I,aI,if_false];exact ha x c
theorem zfc{env:Env}:∀(l:List (Str×dQ)) (v:List (Str×af)) (x:Str),(∃c,v.lookup x=some c)->∃c,(closed env l v).lookup x=some c
 | [],_,_,h=>h
 | (n,k)::r,v,x,h=>by
  unfold closed;refine zfc r _ x ?_;by_cases e:(k == bW)=true;simp only[e,if_true];rw[cF];cases(x == n) with
  | true=>exact⟨_,rfl⟩
  | false=>exact h
  have y:(k == bW)=false:=by simpa using e
  simp only[y,aI,if_false];exact h
theorem Zx{env:Env}:∀(l:List (Str×dQ)) (v:List (Str×af)) (x:Str),(x,bW)∈l->∃c,(closed env l v).lookup x=some c
 | [],_,_,h=>nomatch h
 | (n,k)::r,v,x,h=>by unfold closed;rcases aC.mp h with e|h;cases e;refine zfc r _ _ ?_;have y:(bW == bW)=true:=rfl;simp only[y,if_true];rw[cF];simp;exact Zx r _ x h
theorem lookup_mem{α:Type}{l:List (Str×α)}{x:Str}{v:α}(h:l.lookup x=some v):(x,v)∈l:=by
 induction l with
 | nil=>simp at h
 | cons p r u =>
  obtain⟨n,w⟩:=p;rw[cF]at h;by_cases e:(x == n)=true;simp only[e]at h;cases h;have o:x=n:=by simpa using e
  rw[o];exact dF;have e2:(x == n)=false:=by simpa using e
  simp only[e2]at h;exact cw _ (u h)
def Q0(env:Env)(p:Str×dQ):Str×dQ:=if (p.2 == bW&&env.scope.kind == .function&&env.kindOf p.1 == some .cell)=true then(p.1,.cell) else p
theorem zkD(env:Env)(p:Str×dQ):(Q0 env p).1=p.1:=by unfold Q0;by_cases c:(p.2 == bW&&env.scope.kind == .function&&env.kindOf p.1 == some .cell)=true;rw[if_pos c];rw[if_neg c]
def kin(env:Env)(x:Str):Option dQ->Option dQ
 | some .free=>if (env.scope.kind == .function&&env.kindOf x == some .cell)=true then some .cell else some .free
 | o=>o
theorem zkC(env:Env)(x:Str)(k:dQ):some (Q0 env (x,k)).2=kin env x (some k):=by
 unfold Q0;by_cases c:(k == bW&&env.scope.kind == .function&&env.kindOf x == some .cell)=true;rw[if_pos c];rw[bL,bL]at c;have y:k=.free:=by simpa using c.1.1
 subst y;unfold kin;rw[if_pos (by rw[bL];exact⟨c.1.2,c.2⟩)];rw[if_neg c];cases k with
 | free =>have:¬(env.scope.kind == .function&&env.kindOf x == some .cell)=true:=fun z=>c (by have v:(bW == bW)=true:=rfl;rw[v,g9];exact z);unfold kin;rw[if_neg this]
 | _=>rfl
theorem zfv(scope:dD)(env:Env):(relabel scope env).names=scope.names.map (Q0 env):=by show scope.names.map _=_;refine dX fun p _=>?_;obtain⟨n,k⟩:=p;rfl
theorem zeS(env:Env):∀(l:List (Str×dQ)) (x:Str),(l.map (Q0 env)).lookup x=kin env x (l.lookup x)
 | [],_=>rfl
 | (n,k)::r,x=>by
  have y:=zeS env r x;have C:Q0 env (n,k)=(n,(Q0 env (n,k)).2):=cx (zkD env (n,k)) rfl;rw[aG,C,cF,cF];by_cases e:(x == n)=true;have v:x=n:=by simpa using e
  subst v;simp only[beq_self_eq_true];exact zkC env x k;have e2:(x == n)=false:=by simpa using e
  simp only[e2];exact y
theorem VF(scope:dD)(env:Env)(x:Str):(relabel scope env).names.lookup x=kin env x (scope.names.lookup x):=by rw[zfv];exact zeS env _ x
def tbH(A B:Hp):Hp:=fun b=>match A b with
 | some (.tbl q)=>some (.tbl q)
 | _=>B b
theorem zkh{A B:Hp}(h:∀b q,A b=some (.tbl q)->B b=some (.tbl q)):tbH A B=B:=funext fun b=>by unfold tbH;split;rename_i q e;exact(h b q e).symm;rfl
theorem zn7{A B:Hp}{b:af}{q:Str}(h:A b=some (.tbl q)):tbH A B b=some (.tbl q):=by unfold tbH;rw[h]
abbrev capN(X:Cx)(capt:List Nat):List Str:=capt.map fun i=>X.N.getD i gT
abbrev capS(capt:List Nat)(σ:St):St:=capt.map fun i=>σ.getD i none
abbrev Jl(own:List Str):St:=own.map fun _=>none
abbrev Jd(X:Cx)(scope:dD)(own:List Str)(capt:List Nat)(C:af)(s₀:ak)(H₀:Hp)(fp:List af):Cx :=
 { X with N:=own++capN X capt,s₀:=s₀,H₀:=tbH X.H₀ H₀,env:=compEnvC scope (closed X.env scope.names []) C X.env,outer:=X.stack,stack:=X.stack,ex:=fp,fn:=fun _=>false,pn:=[],xe:=fun _ _=>False }
structure JO(scope:dD)(own:List Str)(capt:List Nat)(X:Cx):Prop where
 kind:scope.kind=.function
 nocell:∀y∈scope.names,y.2≠.cell
 names:∀y∈scope.names,y.2=.local->scope.names.lookup y.1=some .local
 frees:∀y∈scope.names,y.2=.free->X.env.kindOf y.1=some .cell\/X.env.kindOf y.1=some .free
 caps:∀k∈capt,scope.names.lookup (X.N.getD k gT)=some .free
theorem getD_some{α:Type}{l:List (Option α)}{k:Nat}{v:α}(h:l.getD k none=some v):l[k]?=some (some v):=by
 rw[aM]at h;cases e:l[k]? with
 | none=>rw[e]at h;cases h
 | some o=>rw[e]at h;simp at h;rw[h]
section
variable{X:Cx}{scope:dD}{own:List Str}{capt:List Nat}
theorem JO.cells(S:JO scope own capt X)(ok:X.Ok):∀x∈scope.names,x.2=.free->∃c,X.env.cells.lookup x.1=some c:=fun x hx hf=>ok.has x.1 (S.frees x hx hf)
theorem zqg{pins:qO}{σ:St}{H₀:Hp}{s₀:ak}{C:af}{L:List af}(S:JO scope own capt X)(I:Inv X pins σ H₀ s₀)(hf:∀b∈L,FpOk X pins H₀ b)(J:∀b∈L,b<s₀.heap.objs.size)(U:s₀.heap.objs.size<=C) :
  (Jd X scope own capt C s₀ H₀ L).Ok:=by
 have sub:=UA scope.names [] (S.cells I.ok) (fun x c h=>nomatch (show(none:Option af)=some c from h));unfold Jd;rw[zkh I.base.tbls];refine⟨I.ok.mod,S.kind,I.ok.glob,I.ok.blt,U,fun x y c Z Y=>I.ok.inj x y c (sub x c Z) (sub y c Y),fun x hk=>?_,fun x c z=>absurd (show false=true from z) aL,I.ok.hd,I.ok.frames,.inl rfl,fun b G=>?_,I.bs,bA I.ok.bsz I.sz,fun b o e G=>?_,fun b G z=>?_,I.stack,I.stkFree⟩;have e:=VF scope X.env x;have v:(relabel scope X.env).names.lookup x=some .cell\/(relabel scope X.env).names.lookup x=some .free:=hk;rw[e]at v;cases q:scope.names.lookup x with
 | none=>rw[q]at v;rcases v with z|z <;> cases z
 | some k =>
  rw[q]at v;cases k with
  | free=>exact Zx scope.names [] x (lookup_mem q)
  | cell=>exact absurd rfl (S.nocell _ (lookup_mem q))
  | _=>rcases v with z|z <;> cases z
 obtain⟨f0,f1,f2,N,f4,R⟩:=hf b G;exact⟨ay (aq (J b G) U),fun x c e=>f4 x c (sub x c e)⟩;obtain⟨f0,f1,f2,N,f4,R⟩:=hf b G;rcases N with z|z;exact I.ok.noex b o e z;exact absurd (aq (ax (I.ok.bs b o e).1) z) (fk _);obtain⟨f0,f1,f2,N,f4,R⟩:=hf b G;rcases aC.mp (I.stkSub b z) with q|q;exact f1 q;exact f2 q
theorem zmq{J:HO}{pins:qO}{σ:St}{H₀:Hp}{s₀:ak}{fp:List af}{h':ba}{D C:af}{tk:Nat}(S:JO scope own capt X)(I:Inv X pins σ H₀ s₀)(hf:∀b∈fp,FpOk X pins H₀ b)(hfp:∀b∈fp,b<s₀.heap.objs.size)
  (Z:s₀.heap.objs.size<=D) (hC:s₀.heap.objs.size<=C) (hDC:D≠C) (old:∀b o,s₀.heap.get? b=some o->h'.get? b=some o) (hns:h'.Ns C (fun _=>none)) (N:JI X.prog X.w (upd H₀ D J) h' D J) :
  Inv (Jd X scope own capt C s₀ H₀ fp) [] (Jl own++capS capt σ) (upd H₀ D J) { s₀ with heap:=h',toks:=tk }:=by
 have ok:=zqg S I hf hfp hC;have sub:=UA scope.names [] (S.cells I.ok) (fun x c h=>nomatch (show(none:Option af)=some c from h));have hn:H₀ D=none:=I.hok.fresh Z;unfold Jd at ok ⊢;rw[zkh I.base.tbls]at ok ⊢;refine⟨ok,rfl,I.bare,Un.laid old Z hn,⟨_,hns,fun i x v e1 e2 e3=>?_⟩,fun x c e=>?_,?_,fun x c e=>?_,fun p hp=>absurd (show p∈([]:qO) from hp) (by simp),I.hok.laid (o:=J) old Z N,(by show(Jl own++capS capt σ).length=(own++capN X capt).length;simp[Jl,capS,capN])⟩;have L:(Jl own).length=own.length:=aP ..;by_cases hi:i<own.length;rw[bu (by rw[L];exact hi)]at e2;unfold Jl at e2;rw[aD]at e2;cases q:own[i]? with
 | none=>rw[q]at e2;cases e2
 | some z=>rw[q]at e2;cases e2
 have Y:own.length<=i:=iW hi;have G:(own++capN X capt)[i]?=some x:=e1;rw[bH Y]at G;rw[bH (by rw[L];exact Y),L]at e2;unfold capN at G;unfold capS at e2;rw[aD]at G e2;cases q:capt[i - own.length]? with
 | none=>rw[q]at G;cases G
 | some k =>
  rw[q]at G e2;have ex:X.N.getD k gT=x:=au G;have ev:σ.getD k none=some v:=au e2;have hk:k∈capt:=aB q;have hv:=getD_some ev;have U:k<X.N.length:=by rw[<- I.len];exact(ao.mp hv).1
  have hx:X.N[k]?=some x:=by rw[aM,ah U]at ex;rw[ah U];exact congrArg some ex
  have Hr:=S.caps k hk;rw[ex]at Hr;have HH:=S.frees _ (lookup_mem Hr) rfl;obtain⟨m,hm,hl⟩:=I.loc;have vis:Vis X.env.scope x:=by rcases HH with z|z;exact .inr (.inl z);exact .inr (.inr z)
  obtain⟨u,r,l⟩:=hl k x v hx hv vis;refine⟨u,r,.inr ⟨?_,?_⟩⟩;have e:=VF scope X.env x;rw[Hr]at e;show(relabel scope X.env).names.lookup x=some .cell\/(relabel scope X.env).names.lookup x=some .free;rw[e];unfold kin;by_cases c:(X.env.scope.kind == .function&&X.env.kindOf x == some .cell)=true;rw[if_pos c];exact .inl rfl;rw[if_neg c];exact .inr rfl;rcases l with⟨z,_⟩|⟨_,c,hc,R⟩;rcases HH with y|y <;> (have y':X.env.kindOf x=_:=y;rw[z]at y';cases y');obtain⟨d,hd⟩:=Zx (env:=X.env) scope.names [] x (lookup_mem Hr);have:=sub x d hd;rw[hc]at this;cases this;obtain⟨o,N,hod⟩:=R;exact⟨c,hd,o,old _ _ N,hod⟩
 obtain⟨v,o,N,hd⟩:=I.cell x c (sub x c e);exact⟨v,o,old _ _ N,hd⟩;show upd H₀ D J C=none;rw[Jg (fc hDC)];exact I.hok.fresh hC;obtain⟨v,o,N,hd⟩:=I.cell x c (sub x c e);show upd H₀ D J c=none;rw[Jg (ay (aq (ax N) Z))];exact I.freeC x c (sub x c e)
theorem znX{pins:qO}{σ:St}{H₀:Hp}{s₀:ak}{v:List af}{h':ba}{D C:af}{tk:Nat}(S:JO scope own capt X)(I:Inv X pins σ H₀ s₀)(hf:∀b∈v,FpOk X pins H₀ b)(u:∀b∈v,b<s₀.heap.objs.size)
  (J:s₀.heap.objs.size<=D) (N:s₀.heap.objs.size<=C) (x:D≠C) (old:∀b o,s₀.heap.get? b=some o->h'.get? b=some o) (G:h'.Ns C (fun _=>none)) (L:h'.get? D=some { cls:=.type "list",data:=.seq ([]:List ae).toArray 0 }) :
  Inv (Jd X scope own capt C s₀ H₀ v) [] (Jl own++capS capt σ) (upd H₀ D (.lst [])) { s₀ with heap:=h',toks:=tk }:=zmq S I hf u J N x old G ⟨bX _,[],0,.nil,L⟩
theorem znV{pins Y:qO}{σ σ':St}{H₀ H':Hp}{s₀ s':ak}{R:List af}{l:ba}{C:af}(I:Inv X pins σ H₀ s₀)(hf:∀b∈R,FpOk X pins H₀ b)(hC:s₀.heap.objs.size<=C)
  (J:Inv (Jd X scope own capt C s₀ H₀ R) Y σ' H' s') (N:c9 C s'.heap l):Inv X pins σ H' { s' with heap:=l }:=by
 have L:H' C=none:=J.free;have x:∀b o,s₀.heap.get? b=some o->b≠C:=fun b o e=>ay (aq (ax e) hC);have u:Un (frs X.stack) R (tbH X.H₀ H₀) H' s₀.heap s'.heap:=J.base;rw[zkh I.base.tbls]at u;have U:Un (frs X.stack) R H₀ H' s₀.heap l:=by refine⟨fun b o q n S G=>(N.2 b (x b o q)).trans (u.keep b o q n S G),fun b o q n S G=>?_,u.free,fun b o q G=>?_,u.tups,u.frzs,u.tbls⟩;obtain⟨sl,e⟩:=u.slot b o q n S G;exact⟨sl,(N.2 b (x b o q)).trans e⟩;obtain⟨o',e⟩:=u.there b o q G;exact⟨o',(N.2 b (x b o q)).trans e⟩
 have hok:HOk X.prog X.w H' l:=fun b ob e=>by refine(J.hok b ob e).stay (fun c v hc q=>(N.2 c ?_).trans q) (fun _ q=>q) (fun _ _ q=>q) fun _ _ _ q=>q;rintro rfl;rcases hc with z|z;subst z;rw[L]at e;cases e;rw[L]at z;cases z
 refine I.call' (s':={ s' with heap:=l }) J.os U hok J.bare fun b Z=>?_;obtain⟨f0,f1,f2,f3,f4,f5⟩:=hf b Z;exact⟨f3,f1,f4,f5⟩
end
def PTs(Y:Cx)(ifs:List aQ)(t:TT):Prop :=
 ∀(pins:qO) (s:ak) (σ:St) (H:Hp) (Q:Bool->Hp->Prop),Inv Y pins σ H s->t σ H Q ->
  wpAny (model Y.prog Y.w) Y.A (forIn ifs true fun c r=>if r=true then do let ok <- isTrue c Y.env (eval c Y.env);pure (bT ok) else pure (bT r)) (TP Y pins σ Q) Y.xe s
def tYes:TT:=fun _ H Q=>Q true H
theorem zo4{Y:Cx}:PTs Y [] tYes:=fun _ _ _ H _ I h=>wpAny_tests_nil ⟨H,I,h⟩
theorem zo3{Y:Cx}{c:aQ}{t:TT}(h:PT Y c t):PTs Y [c] t:=fun pins s σ H Q I q=>wpAny_tests_one (h pins s σ H Q I q)
abbrev NoX:ae->ak->Prop:=fun _ _=>False
theorem zfa{prog:aO}{w:br}{A:bc}{R:lW->ak->Prop}{s:ak}{elt target iter:aQ}{ifs:List aQ}{scope:dD}{pos:Pos}{it acc:ae}{env:Env}(I:Nat->ak->Prop)
  (turn:∀n s,I n s->wpAny (model prog w) A (pyNext it) (fun r G=>match r with
   | none=>R (.ok .next) G
   | some v=>wpAny (model prog w) A (letOwnedTupleGo target it v) (fun _ J=>wpAny (model prog w) A (assign target env v) (fun _ U =>
     wpAny (model prog w) A (forIn ifs true fun c r=>if r=true then do let ok <- isTrue c env (eval c env);pure (bT ok) else pure (bT r)) (fun ok y =>
      if ok=true then wpAny (model prog w) A (eval elt env) (fun x Y=>wpAny (model prog w) A (call (.builtin "list.append") [acc,x]) (fun _ S=>∃m,m<n/\I m S) NoX Y) NoX y
      else ∃m,m<n/\I m y) NoX U) NoX J) NoX G) NoX s) (n:Nat) (h:I n s) :
  codeAny (model prog w) A (.compLoop (.ListComp elt [⟨target,iter,ifs,0⟩] scope pos) 0 it acc env) R s:=by
 refine nB rfl I (fun n s hI=>?_) n h;show wpAny _ A ((compTurn (.ListComp elt [⟨target,iter,ifs,0⟩] scope pos) 0 it acc env).onRaise (fun x=>do noteFrame x env;theTreesLotGoes x)) _ _ s;refine oz (cJ (E:=NoX) ?_ (fun _ _ q=>q) fun _ _ z=>cm z);rw[compTurn_list];refine aa (cB (aa (thn (turn n s hI) fun r G Z=>?_)));cases r with
 | none=>exact ag Z
 | some v =>
  refine aa (thn Z fun _ J h₂=>aa (thn h₂ fun _ U h₃=>aa (thn h₃ fun ok y N=>?_)));cases ok with
  | false=>exact ag ⟨rfl,N⟩
  | true =>refine aa (aa (thn N fun x Y h₅=>aa (thn h₅ fun _ S h₆=>?_)));exact ag (ag ⟨rfl,h₆⟩)
def Wk:St->St->Prop
 | [],[]=>True
 | none::r,_::r'=>Wk r r'
 | some v::r,o::r'=>o=some v/\Wk r r'
 | _,_=>False
theorem Wk.weak:∀{σ σ':St},Wk σ σ'->σ.length=σ'.length/\∀(i:Nat) v,σ[i]?=some (some v)->σ'[i]?=some (some v)
 | [],[],_=>⟨rfl,fun _ _ h=>by simp at h⟩
 | none::r,o::r',h=>by
  obtain⟨a,b⟩:=Wk.weak (σ:=r) (σ':=r') h;refine⟨by simp[a],fun i v e=>?_⟩;cases i with
  | zero=>simp at e
  | succ i=>simpa using b i v (by simpa using e)
 | some w::r,o::r',h=>by
  obtain⟨h0,l⟩:o=some w/\Wk r r':=h;obtain⟨a,b⟩:=Wk.weak l;refine⟨by simp[a],fun i v e=>?_⟩;cases i with
  | zero=>rw[h0];simpa using e
  | succ i=>simpa using b i v (by simpa using e)
 | none::_,[],h=>cm h
 | some _::_,[],h=>cm h
 | [],_::_,h=>cm h
def ZL(own:List Str)(capt:List Nat)(g:TG)(tt:TT)(R:TE)(σ:St)(J:It)(S:Hp)(D:af)(Q:VK):Prop:=∃W:Nat->Nat->Hp->Prop,(∃m,W 0 m (upd S D (.lst [])))/\∀i m u,W i m u ->
 (J.stop i u/\Q (.ref D) u)\/(J.go i u/\∃(N:V->Hp->Prop) (I:Hp->Prop),(∀v G,N v G->∃ys,G D=some (.lst ys)/\ys.length<sizeLine/\∃C,C<m/\W (i+1) C (upd G D (.lst (ys++[v]))))/\(∀y,I y->∃C,C<m/\W (i+1) C y) /\
  ∀x L,J.yld i u x L->g x (Jl own++capS capt σ) L fun o U=>Wk (Jl own++capS capt σ) o/\tt o U fun b y=>if b=true then R o y N else I y)
def tComp(own:List Str)(capt:List Nat)(wi:TI)(g:TG)(tt:TT)(o:TE):TE:=fun σ H Q=>wi σ H fun J l=>∀D,l D=none->ZL own capt g tt o σ J l D Q
def CompI(Y:Cx)(pins:qO)(σ:St)(o:List af)(l:Nat->ba->Prop)(W:Nat->Nat->Hp->Prop)(n:Nat)(s':ak):Prop:=∃i H',Inv Y pins σ H' s'/\l i s'.heap/\(∀b∈o,H' b=none)/\W i n H'
theorem Vt{Y:Cx}{tg:aQ}{ifs:List aQ}{g:TG}{tt:TT}(hxe:Y.xe=NoX)(hc:Y.calm=true)(hg:PG Y tg g)(ht:PTs Y ifs tt){pins:qO}{σ:St}{it:af}{L:List af}{tn:Nat->ba->Prop}{J:It}(T:Turn Y.prog Y.w Y.K tg J L it tn)
  (HJ:∀{H':Hp},(∀b∈L,H' b=none)->∀b∈L,FpOk Y pins H' b) {W:Nat->Nat->Hp->Prop} {n i:Nat} {s4:ak} {G:Hp} {Dn AC:ak->Prop} (I4:Inv Y pins σ G s4) (st4:tn i s4.heap) (fr4:∀b∈L,G b=none)
  (h:(J.stop i G/\∀s5,Inv Y pins σ G s5->Dn s5)\/(J.go i G/\∃(NT:St->Hp->Prop) (NF:Hp->Prop),(∀{p6 l C U},Inv Y (pins++p6) l C U->NT l C->(∀{s9 H9 y},Inv Y (pins++p6) l H9 s9->y<n->W (i+1) y H9->∃m,m<n/\CompI Y pins σ L tn W m s9)->AC U) /\
   (∀H5,NF H5->∃y,y<n/\W (i+1) y H5)/\∀x H3,J.yld i G x H3->g x σ H3 fun S H5=>Wk σ S/\tt S H5 fun b H6=>if b=true then NT S H6 else NF H6)) :
  wpAny (model Y.prog Y.w) Y.A (pyNext (.ref it)) (fun r I=>match r with
   | none=>Dn I
   | some v=>wpAny (model Y.prog Y.w) Y.A (letOwnedTupleGo tg (.ref it) v) (fun _ s₂=>wpAny (model Y.prog Y.w) Y.A (assign tg Y.env v) (fun _ s₃ =>
     wpAny (model Y.prog Y.w) Y.A (forIn ifs true fun c r=>if r=true then do let ok <- isTrue c Y.env (eval c Y.env);pure (bT ok) else pure (bT r)) (fun ok N =>
      if ok=true then AC N else ∃m,m<n/\CompI Y pins σ L tn W m N) NoX s₃) NoX s₂) NoX I) NoX s4:=by
 rcases h with⟨stop,dn⟩|⟨go,NT,NF,hT,hF,step⟩
 ·refine thn (T.done Y rfl rfl rfl hc i pins s4 _ G NoX I4 (HJ fr4) st4 stop) fun r s5 ⟨hr,I5⟩=>?_;subst hr;exact dn s5 I5
 refine thn (T.item Y rfl rfl rfl hc i pins s4 _ G NoX I4 (HJ fr4) st4 go) fun r s5 ⟨u,hr,h5⟩=>?_;subst hr;refine thn h5 fun _ s6 ⟨x,H6,I6,r6,y6,R,fr6⟩=>?_;have I6':=I6.pinned (HJ fr6) (T.obj _ _ R);have a1:=hg _ s6 _ H6 x u _ I6' r6 (step x H6 y6);rw[hxe]at a1;refine thn a1 fun _ s7 ⟨l,H7,I7,wk,q7⟩=>?_;obtain⟨wl,wv⟩:=wk.weak;have again:∀{U:ak} {C:Hp} {y:Nat},Inv Y (pins++Yz L s6.heap) l C U->y<n->W (i+1) y C->∃m,m<n/\CompI Y pins σ L tn W m U:=fun {U C y} Z hm w8=>by refine⟨y,hm,i+1,C,(Z.unpinned).weak wl wv,T.keep _ _ _ R fun b hb o e=>(Z.pin (b,o) (aH _ (aH _ (Vx hb e)))).1,fun b hb=>?_,w8⟩;obtain⟨o,e,d⟩:=T.obj _ _ R b hb;exact(Z.pin (b,o) (aH _ (aH _ (Vx hb e)))).2.1
 have a2:=ht _ s7 l H7 _ I7 q7;rw[hxe]at a2;refine thn a2 fun ok U ⟨C,Z,q8⟩=>?_;cases ok with
 | false =>obtain⟨y,hm,w8⟩:=hF C (by simpa using q8);exact again Z hm w8
 | true=>exact hT Z (by simpa using q8) again
section
variable{X:Cx}{scope:dD}{own:List Str}{capt:List Nat}{elt tg iter:aQ}{ifs:List aQ}{pos:Pos}{wi:TI}{g:TG}{tt:TT}{te:TE}
theorem zmm(S:JO scope own capt X){pins:qO}{σ:St}{v:Hp}{s2:ak}{o:List af}{C:af}(G:Inv X pins σ v s2)(f2:∀b∈o,FpOk X pins v b)(y:∀b∈o,b<s2.heap.objs.size)(L:s2.heap.objs.size<=C){H':Hp}(J:∀b∈o,H' b=none):∀b∈o,FpOk (Jd X scope own capt C s2 v o) [] H' b:=fun b u=>by obtain⟨U,g1,g2,g3,N,R⟩:=f2 b u;have sub:=UA scope.names [] (S.cells G.ok) (fun x c h=>nomatch (show(none:Option af)=some c from h));refine⟨J b u,ay (aq (y b u) L),fun z=>?_,.inl u,fun x c e=>N x c (sub x c e),fun p I=>absurd (show p∈([]:qO) from I) (by simp)⟩;rcases aC.mp (G.stkSub b z) with q|q;exact g1 q;exact g2 q
theorem zg8(S:JO scope own capt X){pins:qO}{σ:St}{R:It->Hp->Prop}{Y:ae}{s2:ak}{E:qV}{CA:ae->Env->ak->Prop}(h2:PIE X pins σ tg R Y s2)
  (k:∀(it:af) (G:List af) (tn:Nat->ba->Prop) (J:It) (I:Hp) (D C:af) (v:ba),Y=.ref it->Turn X.prog X.w X.K tg J G it tn->R J I->I D=none->tn 0 v->(∀b∈G,upd I D (.lst []) b=none) ->
   (∀tk,Inv (Jd X scope own capt C s2 I G) [] (Jl own++capS capt σ) (upd I D (.lst [])) { s2 with heap:=v,toks:=tk })->(∀{H':Hp},(∀b∈G,H' b=none)->∀b∈G,FpOk (Jd X scope own capt C s2 I G) [] H' b) ->
   (∀s5 H4,Inv (Jd X scope own capt C s2 I G) [] (Jl own++capS capt σ) H4 s5->(∃m,s5.heap.Ns C m)/\(∀N,c9 C s5.heap N->Inv X pins σ H4 { s5 with heap:=N })/\H4 C=none/\FpOk X pins H4 C) ->
   CA (.ref D) (compEnvC scope (closed X.env scope.names []) C X.env) { s2 with heap:=v }) :
  wpAny (model X.prog X.w) X.A (newList []) (fun acc s₃=>wpAny (model X.prog X.w) X.A (newFunctionEnv scope X.env.globals (closed X.env scope.names []) [] X.env.qual none .none (some X.env)) (fun cenv s₄=>CA acc { cenv with scope:=relabel scope X.env } s₄) E s₃) E s2:=by
 obtain⟨it,G,tn,J,I,e,I2,T,st2,f2,rd⟩:=h2;have L:∀b∈G,b<s2.heap.objs.size:=fun b U=>by obtain⟨o,e,_⟩:=T.obj 0 _ st2 b U;exact ax e
 refine df (wpAny_newFunctionEnv S.nocell (by intro y hy;simp at hy) (fun v x u=>?_) S.kind);dsimp only at x u ⊢;generalize hH3:s2.heap.push { cls:=.type "list",dict:=none,data:=.seq ([]:List ae).toArray }=H3 at x u ⊢;have hC:H3.objs.size=s2.heap.objs.size+1:=by rw[<- hH3,l4]
 have hDC:s2.heap.objs.size≠H3.objs.size:=by rw[hC];exact ay (iX _)
 have Z:s2.heap.objs.size<=H3.objs.size:=by rw[hC];exact cT _
 have neC:∀b o,s2.heap.get? b=some o->b≠H3.objs.size:=fun b o e=>ay (aq (ax e) Z);have old:∀b o,s2.heap.get? b=some o->v.get? b=some o:=fun b o e=>u.extBut b o (neC b o e) (aj _ (hH3▸aj _ e));have HR:v.get? s2.heap.objs.size=some { cls:=.type "list",data:=.seq ([]:List ae).toArray 0 }:=u.extBut _ _ hDC (aj _ (hH3▸aA _ rfl));refine k it G tn J I s2.heap.objs.size H3.objs.size v e T rd (I2.hok.fresh (av _)) (T.keep _ _ _ st2 fun b U o e=>old b o e) (fun b U=>by rw[Jg (ay (L b U))];exact(f2 b U).1)
  (fun tk=>znX (tk:=tk) S I2 f2 L (av _) Z hDC old x HR) (zmm S I2 f2 L Z) (fun s5 H4 I5=>?_)
 obtain⟨m,hn,_⟩:=I5.loc;exact⟨⟨m,hn⟩,fun N sb=>znV I2 f2 Z I5 sb,I5.free,I2.fpOk Z I5.free⟩
theorem zja(hc:X.calm=true)(S:JO scope own capt X)
  (hg:∀C s₀ H₀ R,PG (Jd X scope own capt C s₀ H₀ R) tg g) (ht:∀C s₀ H₀ R,PTs (Jd X scope own capt C s₀ H₀ R) ifs tt) (he:∀C s₀ H₀ R,PE (Jd X scope own capt C s₀ H₀ R) elt te)
  {pins:qO} {σ:St} {Q:VK} {U:ae} {s2:ak} {E:qV} {RR:ae->af->lW->ak->Prop}
  (h2:PIE X pins σ tg (fun J H1=>∀D,H1 D=none->ZL own capt g tt te σ J H1 D Q) U s2)
  (hR:∀D C s' H',(∃m,s'.heap.Ns C m)->(∀h'',c9 C s'.heap h''->Inv X pins σ H' { s' with heap:=h'' })->H' C=none->FpOk X pins H' C->Q (.ref D) H'->RR (.ref D) C (.ok .next) s') :
  wpAny (model X.prog X.w) X.A (newList []) (fun G s₃=>wpAny (model X.prog X.w) X.A (newFunctionEnv scope X.env.globals (closed X.env scope.names []) [] X.env.qual none .none (some X.env)) (fun u I =>
   codeAny (model X.prog X.w) X.A (.compStart (.ListComp elt [⟨tg,iter,ifs,0⟩] scope pos) 0 U G { u with scope:=relabel scope X.env }) (RR G u.locals) I) E s₃) E s2:=by
 refine zg8 (CA:=fun G u I=>codeAny (model X.prog X.w) X.A (.compStart (.ListComp elt [⟨tg,iter,ifs,0⟩] scope pos) 0 U G u) (RR G u.locals) I) S h2 fun it R tn J H2 D C h₁ e T rd hnD Z fr0 J0 HJ out=>?_;subst e;obtain⟨W,⟨m0,w0⟩,turn⟩:=rd _ hnD;have loop:∀tk:Tok,codeAny (model X.prog X.w) X.A (.compLoop (.ListComp elt [⟨tg,iter,ifs,0⟩] scope pos) 0 (.ref it) (.ref D) (compEnvC scope (closed X.env scope.names []) C X.env)) (RR (.ref D) C) { s2 with heap:=h₁,toks:=tk }:=fun tk=>by
  refine zfa (CompI (Jd X scope own capt C s2 H2 R) [] (Jl own++capS capt σ) R tn W) ?_ m0 ⟨0,_,J0 tk,Z,fr0,w0⟩;rintro n s4 ⟨i,H4,I4,st4,fr4,w4⟩;refine Vt (Y:=Jd X scope own capt C s2 H2 R) rfl hc (hg _ _ _ _) (ht _ _ _ _) T HJ I4 st4 fr4 ?_;rcases turn i n H4 w4 with⟨stop,qn⟩|⟨go,N,N',hN,hN',step⟩
  ·exact .inl ⟨stop,fun s5 I5=>let ⟨o1,o2,o3,o4⟩:=out s5 H4 I5;hR _ _ s5 H4 o1 o2 o3 o4 qn⟩
  refine .inr ⟨go,fun σ4 H5=>te σ4 H5 N,N',fun {p6 σ7 H8 s8} I8 q8 again=>?_,hN',step⟩;refine thn (he _ _ _ _ _ s8 σ7 H8 N I8 q8) fun y s9 ⟨v,H9,I9,r9,q9⟩=>?_;obtain⟨ys,hD,hl,m',hm,w9⟩:=hN v H9 q9;refine thn (VA (X:=Jd X scope own capt C s2 H2 R) _ s9 σ7 H9 (.ref D) [v] _ [y] (fun _ H'=>H'=upd H9 D (.lst (ys++[v]))) I9 rfl (.cons r9 .nil) ⟨_,ys,v,rfl,rfl,hD,hl,rfl⟩) fun _ s10 ⟨_,H10,I10,_,q10⟩=>?_;subst q10;exact again I10 hm w9
 exact gD (loop _) (T.self X.A 0 _ _ _ Z (loop _))
theorem znf(hc:X.calm=true)(S:JO scope own capt X)(hi:PI X tg iter wi)
  (N:∀C s₀ H₀ l,PG (Jd X scope own capt C s₀ H₀ l) tg g) (ht:∀C s₀ H₀ l,PTs (Jd X scope own capt C s₀ H₀ l) ifs tt) (he:∀C s₀ H₀ l,PE (Jd X scope own capt C s₀ H₀ l) elt te)
  (U:∀x,foldedSetIterable iter X.env x=pure x:=by intro _;rfl):PE X (.ListComp elt [⟨tg,iter,ifs,0⟩] scope pos) (tComp own capt wi g tt te):=by
 intro pins s σ H Q I h;rw[eval_ListComp];refine eP (use:=none) rfl U (VG (S.cells I.ok)) S.kind S.names (thn (hi pins s σ H _ I h) fun v s1 h1=>thn h1 fun R s2 Z=>?_);refine zja (RR:=fun y C=>compPost (model X.prog X.w) X.A X.xe none (EP X pins σ Q) y C) hc S N ht he Z fun D C s' H' u J _ _ q=>?_;obtain⟨m,u⟩:=u;exact⟨m,u,fun G Y=>⟨.ref D,H',J G Y,rfl,q⟩⟩
theorem zkI(hc:X.calm=true)(S:JO scope own capt X)(hi:PI X tg iter wi)
  (hg:∀C s₀ H₀ y,PG (Jd X scope own capt C s₀ H₀ y) tg g) (ht:∀C s₀ H₀ y,PTs (Jd X scope own capt C s₀ H₀ y) ifs tt) (he:∀C s₀ H₀ y,PE (Jd X scope own capt C s₀ H₀ y) elt te)
  {i:Nat} {x:Str} {u HI:Pos} (hN:X.N.Nodup) (hxi:X.N[i]?=some x) (hx:Loc X.env.scope x)
  (hs:∀x,foldedSetIterable iter X.env x=pure x:=by intro _;rfl) (Z:swapsWith (.ListComp elt [⟨tg,iter,ifs,0⟩] scope pos) (some (.Name x u)) HI.line X.env=pure true:=by rfl)
  (hf:X.fn x=true\/X.env.scope.names.lookup x=some .local:=by walk_at "F") :
  PS X (.Assign [.Name x u] (.ListComp elt [⟨tg,iter,ifs,0⟩] scope pos) HI) (tAsg (tComp own capt wi g tt te) (Yo i)):=by
 intro pins s σ H D I h;rw[lI _ _ _ _ Z];refine aa (cB (aa ?_));show wpAny _ X.A (do let _ <- comprehension (.ListComp elt [⟨tg,iter,ifs,0⟩] scope pos) scope X.env _ (newList []) false (eval iter X.env) (some (assign (.Name x u) X.env))) _ _ s;refine aa (cJ (eP (use:=some (assign (.Name x u) X.env)) (Q:=fun _ s'=>SP X pins D .next s') rfl hs (VG (S.cells I.ok)) S.kind S.names (thn (hi pins s σ H _ I h) fun v s1 h1=>thn h1 fun itv s2 h2=>?_)) (fun _ s' hq=>ag (ag hq)) fun _ _ e=>e);refine zja (RR:=fun acc C=>compPost (model X.prog X.w) X.A X.xe (some (assign (.Name x u) X.env)) (fun _ s'=>SP X pins D .next s') acc C) hc S hg ht he h2 fun D' C s' H' U J hCn y q=>?_;obtain⟨m,U⟩:=U;obtain⟨f0,f1,f2,f3,f4,f5⟩:=y;have Is:Inv X pins σ H' s':=J s'.heap (nC _ _);refine iG (zdT Is hN hxi hx (show RelV (.ref D') (.ref D') from rfl) (fun G R Y=>?_) hf);obtain⟨a,Y,ha⟩:=Y;have neA:C≠a:=by rcases ha with rfl|ha;exact f1;exact fun z=>f4 x a ha z.symm
 have hn':G.heap.Ns C m:=U.sameBut Y neA;exact⟨m,hn',fun h' sb'=>⟨_,H',R.turned (t':=G.toks) (fun b o hb e=>(sb'.2 b hb).trans e) f0 f1 f3 f4 f5,q⟩⟩
end
theorem zg7{J:It}{n:Nat}{own:List Str}{capt:List Nat}{g:TG}{tt:TT}{L:TE}{σ:St}{N:Hp}{D:af}{Q:VK}(y:Nat->List V->Hp->Prop)(h0:y 0 [] (upd N D (.lst [])))
  (turn:∀i ys o,i<n->o D=some (.lst ys)->y i ys o->J.go i o/\∀x R,J.yld i o x R->g x (Jl own++capS capt σ) R fun u S=>Wk (Jl own++capS capt σ) u/\tt u S fun b C =>
   if b=true then L u C (fun v G=>∃zs,G D=some (.lst zs)/\zs.length<sizeLine/\y (i+1) (zs++[v]) (upd G D (.lst (zs++[v])))) else ∃zs,C D=some (.lst zs)/\y (i+1) zs C)
  (stop:∀ys o,o D=some (.lst ys)->y n ys o->J.stop n o/\Q (.ref D) o) :
  ZL own capt g tt L σ J N D Q:=by
 refine⟨fun i m H=>m=n - i/\i<=n/\∃ys,H D=some (.lst ys)/\y i ys H,⟨n,rfl,bX _,[],JB,h0⟩,?_⟩;rintro i m o ⟨rfl,hi,ys,I,p⟩;by_cases hlt:i<n;obtain⟨go,st⟩:=turn i ys o hlt I p;refine .inr ⟨go,_,_,?_,?_,st⟩;rintro v G ⟨zs,e,l,q⟩;exact⟨zs,e,l,n - (i+1),by omega,rfl,hlt,_,JB,q⟩;rintro C ⟨zs,e,q⟩;exact⟨n - (i+1),by omega,rfl,hlt,zs,e,q⟩
 ·have e:i=n:=by omega
  subst e;exact .inl (stop ys o I p)
def Vz(scope outer:dD)(N:List Str)(capt:List Nat):Bool :=
 scope.kind == .function&&scope.names.all (fun y=>!(y.2 == .cell))&&scope.names.all (fun y=>!(y.2 == .local)||scope.names.lookup y.1 == some .local) &&
 scope.names.all (fun y=>!(y.2 == .free)||(outer.names.lookup y.1 == some .cell||outer.names.lookup y.1 == some .free))&&capt.all (fun k=>scope.names.lookup (N.getD k gT) == some .free)
theorem JO.of{X:Cx}{scope:dD}{own:List Str}{capt:List Nat}(h:Vz scope X.env.scope X.N capt=true):JO scope own capt X:=by unfold Vz at h;simp only[bL]at h;obtain⟨⟨⟨⟨G,x⟩,C⟩,u⟩,v⟩:=h;rw[cU]at x C u v;refine⟨by simpa using G,fun y o=>?_,fun y o I=>?_,fun y o hf=>?_,fun k J=>?_⟩;simpa using x y o;have:=C y o;rw[I]at this;simpa using this;have:=u y o;rw[hf]at this;show X.env.scope.names.lookup y.1=some .cell\/X.env.scope.names.lookup y.1=some .free;simpa using this;simpa using v k J
section
variable{X:Cx}
theorem zk1:OpR X (compareOp .IsNot) (fun x y H Q=>∃a b,x=.bl a/\y=.bl b/\Q (.bl (a != b)) H):=by intro pins s σ H x y v u Q I C G h;obtain⟨a,b,rfl,rfl,q⟩:=h;cases C;cases G;exact isnot_bool ⟨.bl (a != b),H,I,rfl,q⟩
def kitB(t T:String):Option Bool:=if (aZ t == aZ T)=true then some true else if PySem.W.kitMeta T=true then(fastBuiltinMro t).map (·.contains (.type T)) else none
theorem UV(K:qF)(t T:String):pF K (.type t) (.type T)=kitB t T:=rfl
inductive Ty (H:Hp):V->String->Prop where
 | non:Ty H .non "NoneType"
 | bl (x:Bool):Ty H (.bl x) "bool"
 | int (i:Int):Ty H (.int i) "int"
 | str (x:Str):Ty H (.str x) "str"
 | lst {a:af} {xs:List V} (e:H a=some (.lst xs)):Ty H (.ref a) "list"
 | tup {a:af} {xs:List V} (e:H a=some (.tup xs)):Ty H (.ref a) "tuple"
 | dK {a:af} {kvs:List (Key×V)} (e:H a=some (.dK kvs)):Ty H (.ref a) "dict"
theorem Ty.of{K:qF}{H:Hp}{v:V}{t:String}(h:Ty H v t):TyOf K H v (.type t):=by
 cases h with
 | non=>exact .non
 | bl x=>exact .bl x
 | int i=>exact .int i
 | str x=>exact .str x
 | lst e=>exact .lst e
 | tup e=>exact .tup e
 | dK e=>exact .dK e
theorem zn1:bootBuiltins "isinstance" = some (.builtin "isinstance"):=by decide +kernel
theorem boot_int:bootBuiltins "int" = some (.type "int"):=by decide +kernel
theorem zfh:bootBuiltins "bool" = some (.type "bool"):=by decide +kernel
theorem U4:bootBuiltins "tuple" = some (.type "tuple"):=by decide +kernel
theorem zmF:bootBuiltins "all" = some (.builtin "all"):=by decide +kernel
theorem UE:bootBuiltins "min" = some (.builtin "min"):=by decide +kernel
theorem zez:bootBuiltins "max" = some (.builtin "max"):=by decide +kernel
theorem Qp:bootBuiltins "len" = some (.builtin "len"):=by decide +kernel
theorem zmD:bootBuiltins "sum" = some (.builtin "sum"):=by decide +kernel
theorem zhk:∀{bs:List Bool}{u:List ae},Vals (bs.map V.bl) u->LSm.BoolsAre u bs
 | [],_,h=>by cases h;exact .nil
 | b::bs,_,h=>by
  cases h with
  | cons r t =>cases(show _=ku b from r);exact .cons b (zhk t)
theorem zmz(hc:X.calm=true):JQ X (.builtin "all") (fun xs H Q=>∃(a:af) (bs:List Bool),xs=[.ref a]/\SqL X.K H a (bs.map V.bl)/\Q (.bl (bs.all id)) H):=by
 intro pins s σ H xs Y Q I r h;obtain⟨a,bs,rfl,G,q⟩:=h;cases r with
 | cons R J =>
  cases J;cases(show _=aX a from R);obtain⟨its,S,p,hz⟩:=I.list G;have y:=zhk S;have x:s.heap.IsList a its.toArray:=p.isList;have o:a<s.heap.objs.size:=by obtain⟨_,e,_⟩:=x;exact ax e
  refine call_all_walk (gv x ?_);refine⟨s.heap.objs.size,[s.heap.objs.size,a],[s.heap.objs.size],its.toArray.size,_,_,fun i=>(bs[i]?).getD true,rfl,Walks.list (A:=X.A.in1) (I.ok.hd hc) _ a (ay o) its.toArray,
   ⟨⟨_,aA _ rfl,rfl,rfl⟩,x.push _⟩,fun i v s' Z U N C=>?_,fun h' tk L=>?_⟩
  obtain⟨b,e,rfl⟩:=y.get i v (by simpa using N);simp only[e,dG]at C;exact cK C;have e:((bY its.toArray.size).all fun i=>(bs[i]?).getD true)=bs.all id:=by rw[aw,y.length];exact LSm.range_all bs
  rw[e];exact⟨.bl _,H,I.kept (LSm.kept_iter L),rfl,q⟩
mutual
inductive Ue (H:Hp):V->ab->Prop
 | non:Ue H .non .none
 | bl (b:Bool):Ue H (.bl b) (.bool b)
 | int (i:Int):Ue H (.int i) (.int i)
 | str (x:Str):Ue H (.str x) (.str x)
 | lst {a:af} {xs:List V} {ds:qD}:H a=some (.lst xs)->Zq H xs ds->Ue H (.ref a) (.list ds)
 | tup {a:af} {xs:List V} {ds:qD}:H a=some (.tup xs)->Zq H xs ds->Ue H (.ref a) (.tuple ds)
inductive Zq (H:Hp):List V->List ab->Prop
 | nil:Zq H [] []
 | cons {v:V} {vs:List V} {d:ab} {ds:qD}:Ue H v d->Zq H vs ds->Zq H (v::vs) (d::ds)
end
def U7(i j:Int):Prop:=0<j/\j<2 ^ 128
theorem Vq:OpR X (binaryOp .FloorDiv) (rI U7 fun i j=>.int (i / j)):=opI fun i j _ _ _ _ _ hc q=>by
 have x:(0:Int)<j:=hc.1;have y:j<2 ^ 128:=hc.2;refine floordiv_int (by omega) (by rw[ig i (by omega)];exact q) (.inl (PyProof.noPylong_of_log2 ?_));have u:j.natAbs<2 ^ 128:=by omega
 have C:j.natAbs.log2<128:=(Nat.log2_lt (by omega)).mpr u;omega
end
def Pl(X:Cx)(es:List aQ):Prop:=∀pos,(backTo pos (starEach es X.env)).any (·.1)=false
def Hd(X:Cx):List aQ->Prop
 | []=>True
 | e::r=>starEach (e::r) X.env=(false,eval e X.env)::starEach r X.env/\Pl X r
structure PB(X:Cx)(es:List aQ)(t:TA):Prop where
 pa:PA X es t
 pl:Pl X es
 hd:Hd X es
section
variable{X:Cx}{es:List aQ}{t:TA}{te:TE}
theorem Qk:PB X [] tNil:=⟨QI,fun _=>rfl,trivial⟩
theorem JY(h:PE X e te)(l:PB X es t)(o:starEach (e::es) X.env=(false,eval e X.env)::starEach es X.env):PB X (e::es) (Qw te t) :=
 ⟨Qh h l.pa o,fun pos=>by rw[o];have:(backTo pos ((false,eval e X.env)::starEach es X.env)).any (·.1)=(false||(backTo pos (starEach es X.env)).any (·.1)):=rfl;rw[this,l.pl pos];rfl,o,l.pl⟩
theorem pb_i{j pos}(l:PB X es t):PB X (.Constant (.int i) j pos::es) (Qw (tC (.int i)) t):=JY JD l rfl
theorem pb_v(i:Nat){x:Str}{pos:Pos}(o:PB X es t)(v:X.N[i]?=some x:=by rfl)(u:Vis X.env.scope x:=by walk_at "V")(hd:(x == ("__debug__":Str))=false:=by rfl)
  (l:(x == ("__classdict__":Str))=false:=by rfl):PB X (.Name x pos::es) (Qw (tVar i) t):=JY (Qe v u hd l) o rfl
theorem zph(h:PE X (.Name x pos) te)(l:PB X es t):PB X (.Name x pos::es) (Qw te t):=JY h l rfl
theorem zof{a b c d}(h:PE X (.BinOp a b c d) te)(l:PB X es t):PB X (.BinOp a b c d::es) (Qw te t):=JY h l rfl
theorem zrt{a b c d}(h:PE X (.Compare a b c d) te)(l:PB X es t):PB X (.Compare a b c d::es) (Qw te t):=JY h l rfl
variable{e:aQ}{x:Str}{p pos:Pos}
theorem zpd{x1}(h:PB X es t):PE X (.Tuple es x1 pos) (tTup t):=zrl h.pa
theorem zkQ(h:PB X es t):PE X (.List es pos) (tLst t):=zro h.pa
theorem UG{id:String}{r:List V->Hp->VK->Prop}(hc:JQ X (.builtin id) r)(I:X.mg x=none)(y:bootBuiltins x=some (.builtin id))(h:PB X (e::es) t)(v:Gl X x:=by rfl)(G:x ≠ "__name__":=by decide) (o:(x == ("__debug__":Str))=false:=by rfl) :
  PE X (.Call (.Name x p) (e::es) [] pos) (tCB r t):=znj hc v I y h.pa G o h.hd.1 (h.hd.2 pos)
theorem ZH(hc:JQ X (.type T) r)(I:X.mg x=none)(v:bootBuiltins x=some (.type T))(h:PB X (e::es) t)(u:Gl X x:=by rfl)(G:x ≠ "__name__":=by decide) (o:(x == ("__debug__":Str))=false:=by rfl) :
  PE X (.Call (.Name x p) (e::es) [] pos) (tCB r t):=zgp hc u I v h.pa G o h.hd.1 (h.hd.2 pos)
end
end L2
namespace Bd
open PySem L2
structure Def(K:qF)(mg:qM)(x:Str)(st:dE)(ps:List Str)(f:af)(fd:cH):Prop where
 F:Fun K x x st f fd
 b:Binds K fd ps []
 m:mg x=some (.ref f)
section
variable{X:Cx}{k:Nat}{f:af}{fd:cH}{ps:List Str}{sp:Sp}{x:Str}{p pos:Pos}{e:aQ}{es:List aQ}{t:TA}{st:dE}
theorem znh(D:Def X.K X.mg x st ps f fd)(G:FnOk X.prog X.w X.K X.mg X.base CX0 k f fd ps sp)(u:Room k X.A)(h:PB X (e::es) t)(v:Gl X x:=by rfl)
  (o:(x == ("__debug__":Str))=false:=by rfl):PE X (.Call (.Name x p) (e::es) [] pos) (zoI sp [] E0 t):=zpe G u v D.m D.F.kp D.b .nil zru h.pa o h.hd.1 (h.hd.2 pos)
theorem zuH(v:X.mg x=none)(o:bootBuiltins x=some (.type T))(l:Gl X x:=by rfl)(u:x ≠ "__name__":=by decide) (hd:(x == ("__debug__":Str))=false:=by rfl):PE X (.Name x p) (tC (.ty T)) :=
 zpg l v o rfl u hd
end
theorem iteP{c A B:Prop}[Decidable c](hc:c)(h:A):if decide c=true then A else B:=by rw[decide_eq_true hc];exact iteT h
theorem iteN{c A B:Prop}[Decidable c](hc:¬c)(h:B):if decide c=true then A else B:=by rw[decide_eq_false hc];exact iteF h
theorem zsg{c A B:Prop}[Decidable c](l:c->A)(o:¬c->B):if decide c=true then A else B:=by by_cases h:c;exact iteP h (l h);exact iteN h (o h)
theorem zfZ{α:Type}{xs:List α}{k:Int}{v:α}(h0:0<=k)(h:xs[k.toNat]?=some v):atI xs k=some v:=by obtain⟨n,rfl⟩:=iY h0;exact zqm h
theorem Uc(k:Nat):(0:Int)<2 ^ k:=by
 have:(0:Nat)<2 ^ k:=Nat.two_pow_pos k;have e:((2 ^ k:Nat):Int)=(2:Int) ^ k:=by simp
 omega
theorem zkK(h:k<=64):(2:Int) ^ k<2 ^ 128:=by
 have:(2:Nat) ^ k<2 ^ 128:=Nat.pow_lt_pow_right (by decide) (by omega);have e:((2 ^ k:Nat):Int)=(2:Int) ^ k:=by simp
 omega
theorem zfw(h:k<=64):(2:Int) ^ k<=2 ^ 64:=by
 have:(2:Nat) ^ k<=2 ^ 64:=fC (by decide) (by omega);have e:((2 ^ k:Nat):Int)=(2:Int) ^ k:=by simp
 omega
theorem zm0(h:H p=none):Same H (upd H p o):=fun b u e=>by rw[Jg (Qq e h)];exact e
end Bd
namespace L2
open PySem PySem.Spec PyProof.Rows
theorem zqn(k h:Nat):(k*2 ^ h) &&& (2 ^ h)=(k % 2)*2 ^ h:=by
 have l:k*2 ^ h=k <<< h:=(iZ k h).symm;have e2:(2:Nat) ^ h=1 <<< h:=by rw[iZ,uT]
 have o:(k &&& 1) <<< h=k <<< h &&& 1 <<< h:=Nat.shiftLeft_and_distrib;rw[l];conv=>lhs;rw[e2]
 rw[<- o,Nat.and_one_is_mod,iZ]
theorem zid(h:Nat)(u:0<=k):bV (k*2 ^ h) (2 ^ h)=if k % 2=0 then k*2 ^ h+2 ^ h else k*2 ^ h - 2 ^ h:=by
 obtain⟨n,rfl⟩:=iY u;have l:((2 ^ h:Nat):Int)=(2:Int) ^ h:=by simp
 have v:((n:Int)*2 ^ h)=((n*2 ^ h:Nat):Int):=by rw[Int.natCast_mul,l]
 rw[bitXor_and,v,<- l,bitAnd_pp (ic _) (ic _)];have e2:((n*2 ^ h:Nat):Int).toNat &&& ((2 ^ h:Nat):Int).toNat=(n % 2)*2 ^ h:=by rw[dm,dm];exact zqn n h
 rw[e2];rcases Nat.mod_two_eq_zero_or_one n with z|z;have:((n:Int)) % 2=0:=by lia
 rw[if_pos this,z];simp;have:¬((n:Int)) % 2=0:=by lia
 rw[if_neg this,z,uT];lia
def HAND:ab:=.dict [(.none,.none)]
def SCR(ns:List Int):ab:=.dict [(.none,.list (ns.map .int))]
def Yt(H:Hp)(hd:af)(n:Int):Prop:=∃d m t:Int,H hd=some (.lst [.int d,.int m,.int t])/\0<=m/\m<2 ^ 62/\0<=t/\t<=n
def StT(K:qF)(a:af)(xs:List V):Prop :=
 ∃(o:Obj) (its:Array ae) (n:Nat),K.lookup a=some o/\o.cls=.type "tuple" /\ o.data=.seq its n/\its.size<=sizeLine/\Vals xs its.toList/\o.dict=none
theorem StT.sq{K:qF}{H:Hp}{a:af}{xs:List V}(h:StT K a xs):SqT K H a xs:=by obtain⟨o,its,n,l,v,x,y,u,_⟩:=h;exact .inr ⟨o,its,n,l,v,x,y,u⟩
def hsT(k:Int×Int):Int:=reduceHash (rE [hashInt k.1,hashInt k.2])
def entZ(z:(Int×Int)×af×V)(e:d8):Prop:=e.hash=hsT z.1/\e.key=.ref z.2.1/\RelV z.2.2 e.val
abbrev ZT:=List ((Int×Int)×af×V)
def ZDO(a:af)(zs:ZT)(ep:Nat):HO:=.ext fun h=>(a == sysModules)=false/\zs.length<=sizeLine/\(zs.map (·.1)).Nodup/\∃o es,h.get? a=some o/\o.ExactDict/\o.data=.dict es ep/\bP entZ zs es.toList
abbrev KT2:=List ((Int×Int)×ab)
def entI(z:Int×V)(e:d8):Prop:=e.hash=hashInt z.1/\(∃t,e.key=.int z.1 t)/\RelV z.2 e.val
def KDO(a:af)(zs:List (Int×V))(ep:Nat):HO:=.ext fun h=>(a == sysModules)=false/\zs.length<=sizeLine/\(zs.map (·.1)).Nodup/\∃o es,h.get? a=some o/\o.ExactDict/\o.data=.dict es ep/\bP entI zs es.toList
def blkT(k:Int×Int):ab:=.tuple [.int k.1,.int k.2]
def Yq(ks:List (Int×ab)):List (ab×ab):=ks.map fun q=>(.int q.1,q.2)
def Jq(ks:KT2):List (ab×ab):=ks.map fun q=>(blkT q.1,q.2)
def EXC(C:af):ab:=.dict [(.none,.int (C:Int))]
def EXO(a C:af):HO:=.ext fun h=>∃o,h.get? a=some o/\o.cls=.ref C/\∃u,o.data=.fields u
mutual
inductive Rep (K:qF)(hd:Option af)(O:af->Prop)(H:Hp):V->ab->Prop
 | non:Rep K hd O H .non .none
 | bl (b:Bool):Rep K hd O H (.bl b) (.bool b)
 | int (i:Int):Rep K hd O H (.int i) (.int i)
 | str (x:Str):Rep K hd O H (.str x) (.str x)
 | tup {a vs ds} (h:H a=some (.tup vs)) (o:¬O a) (r:Reps K hd O H vs ds):Rep K hd O H (.ref a) (.tuple ds)
 | tupS {a vs ds} (h:StT K a vs) (r:Reps K hd O H vs ds):Rep K hd O H (.ref a) (.tuple ds)
 | lst {a vs ds} (h:H a=some (.lst vs)) (o:¬O a) (r:Reps K hd O H vs ds):Rep K hd O H (.ref a) (.list ds)
 | dct {a ep} (h:H a=some (KDO a [] ep)) (o:¬O a):Rep K hd O H (.ref a) (.dict [])
 | dcK {a kvs ep ks ps} (h:H a=some (KDO a kvs ep)) (o:¬O a) (r:U9 K hd O H kvs ks) (e:ps=Yq ks):Rep K hd O H (.ref a) (.dict ps)
 | dcT {a zs ep ks ps} (h:H a=some (ZDO a zs ep)) (o:¬O a) (r:Jj K hd O H zs ks) (e:ps=Jq ks):Rep K hd O H (.ref a) (.dict ps)
 | hand {a} (h:hd=some a):Rep K hd O H (.ref a) HAND
 | scr {a ns} (h:Rd H a (.lst (ns.map V.int))) (o:¬O a):Rep K hd O H (.ref a) (SCR ns)
 | scrS {a} {ns:List Int} (h:∀H':Hp,SqL K H' a (ns.map V.int)):Rep K hd O H (.ref a) (SCR ns)
 | exc {a C} (h:H a=some (EXO a C)) (o:¬O a):Rep K hd O H (.ref a) (EXC C)
inductive Reps (K:qF)(hd:Option af)(O:af->Prop)(H:Hp):List V->List ab->Prop
 | nil:Reps K hd O H [] []
 | cons {v d vs ds} (h:Rep K hd O H v d) (r:Reps K hd O H vs ds):Reps K hd O H (v::vs) (d::ds)
inductive U9 (K:qF)(hd:Option af)(O:af->Prop)(H:Hp):List (Int×V)->List (Int×ab)->Prop
 | nil:U9 K hd O H [] []
 | cons {k v d kvs ks} (h:Rep K hd O H v d) (r:U9 K hd O H kvs ks):U9 K hd O H ((k,v)::kvs) ((k,d)::ks)
inductive Jj (K:qF)(hd:Option af)(O:af->Prop)(H:Hp):ZT->KT2->Prop
 | nil:Jj K hd O H [] []
 | cons {k q v d zs ks} (h:Rep K hd O H (.ref q) (.tuple [.int k.1,.int k.2])) (h2:Rep K hd O H v d) (r:Jj K hd O H zs ks):Jj K hd O H ((k,q,v)::zs) ((k,d)::ks)
end
section
variable{K:qF}{hd:Option af}{O O':af->Prop}{H H':Hp}
theorem Rep.mono(y:∀a o,H a=some o->O' a->O a)(C:∀a o,¬O a->H a=some o->H' a=some o)(q:Rep K hd O H v d):Rep K hd O' H' v d :=
 Rep.rec (motive_1:=fun v d _=>Rep K hd O' H' v d) (motive_2:=fun v d _=>Reps K hd O' H' v d) (motive_3:=fun v d _=>U9 K hd O' H' v d) (motive_4:=fun v d _=>Jj K hd O' H' v d)
  .non .bl .int .str (fun h o _ r=>.tup (C _ _ o h) (fun z=>o (y _ _ h z)) r) (fun h _ r=>.tupS h r) (fun h o _ r=>.lst (C _ _ o h) (fun z=>o (y _ _ h z)) r) (fun h o=>.dct (C _ _ o h) (fun z=>o (y _ _ h z))) (fun h o _ e r=>.dcK (C _ _ o h) (fun z=>o (y _ _ h z)) r e) (fun h o _ e r=>.dcT (C _ _ o h) (fun z=>o (y _ _ h z)) r e) .hand
  (fun h o=>h.elim (fun h=>.scr (.inl (C _ _ o h)) fun z=>o (y _ _ h z)) fun h=>h.elim fun u h=>.scr (.inr ⟨u,C _ _ o h⟩) fun z=>o (y _ _ h z)) .scrS (fun h o=>.exc (C _ _ o h) (fun z=>o (y _ _ h z)))
  .nil (fun _ _ h r=>.cons h r) .nil (fun _ _ h r=>.cons h r) .nil (fun _ _ _ h k r=>.cons h k r) q
theorem Reps.ind{P:List V->List ab->Prop}(n:P [] [])(c:∀{v d vs ds},Rep K hd O H v d->Reps K hd O H vs ds->P vs ds->P (v::vs) (d::ds))(q:Reps K hd O H vs ds):P vs ds:=by refine Reps.rec (motive_1:=fun _ _ _=>True) (motive_2:=fun v d _=>P v d) (motive_3:=fun _ _ _=>True) (motive_4:=fun _ _ _=>True) ?_ ?_ ?_ ?_ ?_ ?_ ?_ ?_ ?_ ?_ ?_ ?_ ?_ ?_ n (fun h r _ i=>c h r i) ?_ ?_ ?_ ?_ q <;> intros <;> trivial
theorem Jj.ind{P:ZT->KT2->Prop}(n:P [] [])(c:∀{k q v d vs ds},Rep K hd O H (.ref q) (.tuple [.int k.1,.int k.2])->Rep K hd O H v d->Jj K hd O H vs ds->P vs ds->P ((k,q,v)::vs) ((k,d)::ds))(q:Jj K hd O H vs ds):P vs ds:=by refine Jj.rec (motive_1:=fun _ _ _=>True) (motive_4:=fun v d _=>P v d) (motive_2:=fun _ _ _=>True) (motive_3:=fun _ _ _=>True) ?_ ?_ ?_ ?_ ?_ ?_ ?_ ?_ ?_ ?_ ?_ ?_ ?_ ?_ ?_ ?_ ?_ ?_ n (fun h k r _ _ i=>c h k r i) q <;> intros <;> trivial
theorem Reps.mono(u:∀a o,H a=some o->O' a->O a)(v:∀a o,¬O a->H a=some o->H' a=some o)(q:Reps K hd O H vs ds):Reps K hd O' H' vs ds:=q.ind .nil fun h _ r=>.cons (h.mono u v) r
theorem Jj.mono(u:∀a o,H a=some o->O' a->O a)(v:∀a o,¬O a->H a=some o->H' a=some o)(q:Jj K hd O H vs ds):Jj K hd O' H' vs ds:=q.ind .nil fun h k _ r=>.cons (h.mono u v) (k.mono u v) r
theorem dict_noK(e:(l5,v)::r=Yq ks):False:=by
 cases ks with
 | nil=>cases e
 | cons q ks=>cases e
theorem dict_noT(e:(l5,v)::r=Jq ks):False:=by
 cases ks with
 | nil=>cases e
 | cons q ks=>cases e
theorem Reps.length(q:Reps K hd O H vs ds):vs.length=ds.length:=q.ind (P:=fun a b=>a.length=b.length) rfl fun _ _ e=>congrArg (·+1) e
theorem Reps.get{i:Nat}(q:Reps K hd O H l ds):ds[i]?=some d->∃v,l[i]?=some v/\Rep K hd O H v d :=
 q.ind (P:=fun l ds=>∀(i:Nat),ds[i]?=some d->∃v,l[i]?=some v/\Rep K hd O H v d) (fun _ e=>nomatch e) (fun {v _ _ _} h _ r i=>i.casesOn (fun e=>⟨v,rfl,au e▸h⟩) fun i e=>r i e) i
theorem Reps.append(q:Reps K hd O H vs ds)(s:Reps K hd O H ws es):Reps K hd O H (vs++ws) (ds++es):=q.ind (P:=fun a b=>Reps K hd O H (a++ws) (b++es)) s fun h _ r=>.cons h r
theorem Reps.take(n:Nat)(q:Reps K hd O H u ds):Reps K hd O H (u.take n) (ds.take n) :=
 q.ind (P:=fun u ds=>∀n:Nat,Reps K hd O H (u.take n) (ds.take n)) (fun n=>by rw[su,su];exact .nil) (fun h _ r n=>n.casesOn .nil fun n=>.cons h (r n)) n
theorem Reps.drop(n:Nat)(q:Reps K hd O H u ds):Reps K hd O H (u.drop n) (ds.drop n) :=
 q.ind (P:=fun u ds=>∀n:Nat,Reps K hd O H (u.drop n) (ds.drop n)) (fun n=>by rw[sv,sv];exact .nil) (fun h k r n=>n.casesOn (.cons h k) fun n=>r n) n
theorem Reps.set{v d}(h:Rep K hd O H v d)(n:Nat)(q:Reps K hd O H u ds):Reps K hd O H (u.set n v) (ds.set n d) :=
 q.ind (P:=fun u ds=>∀n:Nat,Reps K hd O H (u.set n v) (ds.set n d)) (fun n=>.nil) (fun k s r n=>n.casesOn (.cons h s) fun n=>.cons k (r n)) n
theorem Rep.tupI(h:Rep K hd O H v (.tuple ds)):∃a x,v=.ref a/\SqT K H a x/\Reps K hd O H x ds:=by
 cases h with
 | tup h o r=>exact⟨_,_,rfl,.inl (.inl h),r⟩
 | tupS h r=>exact⟨_,_,rfl,h.sq,r⟩
theorem Rep.lstI(h:Rep K hd O H v (.list ds)):∃a u,v=.ref a/\H a=some (.lst u)/\¬O a/\Reps K hd O H u ds:=by
 cases h with
 | lst h o r=>exact⟨_,_,rfl,h,o,r⟩
theorem Rep.intI(h:Rep K hd O H v (.int i)):v=.int i:=by cases h;rfl
theorem Rep.blI(h:Rep K hd O H v (.bool b)):v=.bl b:=by cases h;rfl
theorem Rep.strI(h:Rep K hd O H v (.str x)):v=.str x:=by cases h;rfl
theorem Rep.nonI(h:Rep K hd O H v .none):v=.non:=by cases h;rfl
theorem Rep.handI(h:Rep K hd O H v HAND):∃a,v=.ref a/\hd=some a:=by
 generalize e:HAND=d at h;cases h with
 | hand h=>exact⟨_,rfl,h⟩
 | dct _ _=>cases e
 | dcK _ _ _ o=>cases e;exact(dict_noK o).elim
 | dcT _ _ _ o=>cases e;exact(dict_noT o).elim
 | scr _ _=>simp[HAND,SCR]at e
 | scrS _=>simp[HAND,SCR]at e
 | exc _ _=>simp[HAND,EXC]at e
 | _=>cases e
theorem Rep.scrI(h:Rep K hd O H v (SCR ns)):∃a,v=.ref a/\SqL K H a (ns.map V.int):=by
 generalize e:SCR ns=d at h;cases h with
 | hand h=>simp[HAND,SCR]at e
 | dct _ _=>cases e
 | dcK _ _ _ u=>cases e;exact(dict_noK u).elim
 | dcT _ _ _ u=>cases e;exact(dict_noT u).elim
 | @scr a ms h o =>
  have:ns=ms:=by
   have u:(ns.map bo)=ms.map bo:=by simpa[SCR] using e
   have:=congrArg (List.map fun x=>match x with|bo i=>i|_=>0) u;simpa[bR,fw] using this
  subst this;exact⟨_,rfl,.inl h⟩
 | @scrS a ms h =>
  have:ns=ms:=by
   have u:(ns.map bo)=ms.map bo:=by simpa[SCR] using e
   have:=congrArg (List.map fun x=>match x with|bo i=>i|_=>0) u;simpa[bR,fw] using this
  subst this;exact⟨_,rfl,h H⟩
 | exc _ _=>simp[SCR,EXC]at e
 | _=>cases e
end
mutual
def JR:ab->Bool
 | .list _=>false
 | .tuple ts=>YR ts
 | .dict [(.none,.none)]=>true
 | .dict _=>false
 | _=>true
def YR:List ab->Bool
 | []=>true
 | t::ts=>JR t&&YR ts
end
section
variable{K:qF}{hd:Option af}{O O':af->Prop}{H:Hp}
theorem zps(e:JR (.dict (Yq ks))=true):False:=by unfold JR at e;split at e;rename_i h;cases h;rename_i h;cases h;rename_i h;exact dict_noK (cD h).symm;cases e;rename_i h;exact h _ rfl
theorem zpr(e:JR (.dict (Jq ks))=true):False:=by unfold JR at e;split at e;rename_i h;cases h;rename_i h;cases h;rename_i h;exact dict_noT (cD h).symm;cases e;rename_i h;exact h _ rfl
def MutO(o:Option HO):Prop:=(∃xs,o=some (.lst xs))\/(∃ks,o=some (.dK ks))\/∃u,o=some (.ext u)
theorem Rep.up(y:∀a,O a->MutO (H a))(q:Rep K hd O' H v d):JR d=true->Rep K hd O H v d:=by
 refine Rep.rec (motive_1:=fun v d _=>JR d=true->Rep K hd O H v d) (motive_2:=fun v d _=>YR d=true->Reps K hd O H v d) (motive_3:=fun _ _ _=>True) (motive_4:=fun _ _ _=>True)
  (fun _=>.non) (fun b _=>.bl b) (fun b _=>.int b) (fun b _=>.str b) (fun h _ _ r e=>.tup h (fun z=>by rcases y _ z with⟨xs,q⟩|⟨xs,q⟩|⟨b,q⟩ <;> (rw[h]at q;cases q)) (r (by simpa[JR] using e))) (fun h _ r e=>.tupS h (r (by simpa[JR] using e)))
  (fun _ _ _ _ e=>by simp[JR]at e) (fun _ _ e=>by simp[JR]at e) (fun _ _ _ x _ e=>by subst x;exact(zps e).elim) (fun _ _ _ x _ e=>by subst x;exact(zpr e).elim) (fun h _=>.hand h) (fun _ _ e=>by simp[SCR,JR]at e) (fun _ e=>by simp[SCR,JR]at e) (fun _ _ e=>by simp[EXC,JR]at e)
  (fun _=>.nil) (fun _ _ h r e=>by rw[YR,bL]at e;exact .cons (h e.1) (r e.2)) trivial ?_ trivial ?_ q <;> intros <;> trivial
end
section
variable{X:Cx}{pins:qO}{σ:St}{H:Hp}{s:ak}{hd:Option af}{O:af->Prop}
theorem Rep.reads(I:Inv X pins σ H s){u:ae}(q:Rep X.K hd O H v d):RelV v u->d.hasDict=false->∃C,Reads s.heap u d C:=by
 refine Rep.rec (motive_1:=fun v d _=>∀u,RelV v u->d.hasDict=false->∃C,Reads s.heap u d C) (motive_2:=fun v d _=>∀u,Vals v u->fx d=false->∃C,uU s.heap u d C) (motive_3:=fun _ _ _=>True) (motive_4:=fun _ _ _=>True)
  (fun _ r _=>by cases r;exact⟨_,.none⟩) (fun b _ r _=>by cases r;exact⟨_,.bool b⟩) (fun i _ r _=>by obtain⟨t,rfl⟩:=r;exact⟨_,.int i t⟩) (fun x _ r _=>by obtain⟨t,rfl⟩:=r;exact⟨_,.str x t⟩)
  (fun {_ vs _} h _ _ q _ r e=>?_) (fun {_ vs _} h _ q _ r e=>?_) (fun {_ vs _} h _ _ q _ r e=>?_) (fun _ _ _ _ e=>by simp[cy]at e) (fun _ _ _ _ _ _ _ e=>by simp[cy]at e) (fun _ _ _ _ _ _ _ e=>by simp[cy]at e)
  (fun _ _ _ e=>by simp[HAND,cy]at e) (fun _ _ _ _ e=>by simp[SCR,cy]at e) (fun _ _ _ e=>by simp[SCR,cy]at e) (fun _ _ _ _ e=>by simp[EXC,cy]at e)
  (fun _ r _=>by cases r;exact⟨_,.nil⟩) (fun _ _ h q _ r e=>?_) trivial (by intros;trivial) trivial (by intros;trivial) q u
 cases r;obtain⟨its,L,p,_⟩:=I.tuple (xs:=vs) (.inl (.inl h));obtain⟨o,J,hc,n,y⟩:=p;obtain⟨C,G⟩:=q _ L (by simpa[cy] using e);exact⟨_,.tuple J hc y (by simpa using G)⟩;cases r;obtain⟨its,L,p,_⟩:=I.tuple (xs:=vs) h.sq;obtain⟨o,J,hc,n,y⟩:=p;obtain⟨C,G⟩:=q _ L (by simpa[cy] using e);exact⟨_,.tuple J hc y (by simpa using G)⟩;cases r;obtain⟨its,L,p,_⟩:=I.list (xs:=vs) (.inl (.inl h));obtain⟨o,n,J,hc,_,y⟩:=p;obtain⟨C,G⟩:=q _ L (by simpa[cy] using e);exact⟨_,.list J hc y (by simpa using G)⟩;cases r with
 | cons S R =>rw[fx,l6]at e;obtain⟨C,G⟩:=h _ S e.1;obtain⟨bs,N⟩:=q _ R e.2;exact⟨_,.cons G N⟩
theorem Reps.reads(I:Inv X pins σ H s){u:List ae}(q:Reps X.K hd O H x ds):Vals x u->fx ds=false->∃v,uU s.heap u ds v :=
 q.ind (P:=fun x ds=>∀u,Vals x u->fx ds=false->∃v,uU s.heap u ds v) (fun _ r _=>by cases r;exact⟨_,.nil⟩) (fun h _ q _ r e=>by
  cases r with
  | cons y G =>rw[fx,l6]at e;obtain⟨v,J⟩:=h.reads I y e.1;obtain⟨bs,C⟩:=q _ G e.2;exact⟨_,.cons J C⟩) u
end
inductive Cell where
 | val (d:ab)
 | own (ds:qD)
 | dct (ks:List (Key×ab))
 | rdo (ks:List (Key×ab))
 | dtt (ks:KT2)
def Cell.mine:Cell->Bool
 | .val _=>false
 | .own _=>true
 | .dct _=>true
 | .rdo _=>false
 | .dtt _=>true
def Ud(K:qF)(hd:Option af)(O:af->Prop)(H:Hp)(l:List (Key×V))(ks:List (Key×ab)):Prop:=bP (fun(p:Key×V) (q:Key×ab)=>p.1=q.1/\Rep K hd O H p.2 q.2) l ks
theorem Ud.mono{K:qF}{hd:Option af}{O u:af->Prop}{H H':Hp}(v:∀a o,H a=some o->u a->O a)(x:∀a o,¬O a->H a=some o->H' a=some o){l:List (Key×V)}{ks:List (Key×ab)}(r:Ud K hd O H l ks):Ud K hd u H' l ks :=
 Paired.mapP r fun _ _ z=>⟨z.1,z.2.mono v x⟩
abbrev En:=List (Option Cell)
structure Ctx where
 hd:Option af
 ext:af->Prop
def OwnS(l:En)(σ:St)(a:af):Prop:=∃(i:Nat) (c:Cell),c.mine=true/\l[i]?=some (some c)/\σ[i]?=some (some (V.ref a))
def Own(C:Ctx)(l:En)(σ:St)(a:af):Prop:=C.ext a\/OwnS l σ a
mutual
def papD:ab->Bool
 | .tuple ts=>decide (ts.length<=1000000)&&zrv ts
 | .str x=>decide (x.length<=1000000)
 | .int _=>true
 | .none=>true
 | .bool _=>true
 | _=>false
def zrv:List ab->Bool
 | []=>true
 | t::ts=>papD t&&zrv ts
end
def pap(t:ab):Bool:=papD t&&t.canLay0&&decide (t.depth<=40)
def QG(K:qF)(H:Hp)(a:af)(m:Nat):Prop:=∃(o:List V) (ts:qD),H a=some (.lst o)/\o.length<=m/\Reps K none (fun b=>MutO (H b)) H o ts/\∀t∈ts,pap t=true
def Hn(K:qF)(hd:Option af)(H:Hp)(n:Nat):Prop:=∀a,hd=some a->(Yt H a n/\n<10000000000000)\/(10000000000000<=n/\QG K H a (n - 10000000000000))
theorem Hn.lst{K:qF}{hd:Option af}{H:Hp}{n:Nat}{a:af}(h:Hn K hd H n)(e:hd=some a):∃o,H a=some (.lst o):=by rcases h a e with⟨⟨_,_,_,q,_⟩,_⟩|⟨_,_,_,q,_⟩;exact⟨_,q⟩;exact⟨_,q⟩
theorem QG.to{K:qF}{H H':Hp}{a:af}{w:Nat}(h:QG K H a w)(v:H' a=H a)(k:∀b o,¬MutO (H b)->H b=some o->H' b=some o)(m:∀b o,H b=some o->MutO (H' b)->MutO (H b)):QG K H' a w:=by obtain⟨u,ts,q,l,r,p⟩:=h;exact⟨u,ts,v.trans q,l,r.mono m k,p⟩
theorem QG.upd{K:qF}{H:Hp}{a p:af}{o:HO}{m:Nat}(h:QG K H a m)(ne:a≠p)(l:MutO (H p)):QG K (upd H p o) a m:=by refine h.to (Jg ne) (fun b u nb e=>?_) fun b u e z=>?_;rw[Jg (show b≠p from fun z=>nb (by rw[z];exact l))];exact e;by_cases y:b=p;rw[y];exact l;rw[Jg y]at z;exact z
theorem QG.same{K:qF}{H H':Hp}{a:af}{m:Nat}(h:QG K H a m)(s:∀b o,H b=some o->H' b=some o):QG K H' a m:=by obtain⟨u,ts,q,l,r,p⟩:=id h;exact h.to (by rw[q];exact s _ _ q) (fun b o _ e=>s b o e) fun b o e z=>by rw[s b o e]at z;rw[e];exact z
structure Stt(K:qF)(C:Ctx)(ρ:En)(σ:St)(H:Hp)(n:Nat):Prop where
 len:ρ.length=σ.length
 val:∀(i:Nat) (d:ab),ρ[i]?=some (some (Cell.val d))->∃v,σ[i]?=some (some v)/\Rep K C.hd (Own C ρ σ) H v d
 own:∀(i:Nat) (ds:qD),ρ[i]?=some (some (Cell.own ds))->∃a vs,σ[i]?=some (some (V.ref a))/\H a=some (.lst vs)/\Reps K C.hd (Own C ρ σ) H vs ds/\¬C.ext a
 dct:∀(i:Nat) (ks:List (Key×ab)),ρ[i]?=some (some (Cell.dct ks))->∃a kvs,σ[i]?=some (some (V.ref a))/\H a=some (.dK kvs)/\Ud K C.hd (Own C ρ σ) H kvs ks/\¬C.ext a
 rdo:∀(i:Nat) (ks:List (Key×ab)),ρ[i]?=some (some (Cell.rdo ks))->∃a kvs,σ[i]?=some (some (V.ref a))/\H a=some (.dK kvs)/\Ud K C.hd (Own C ρ σ) H kvs ks/\C.ext a/\C.hd≠some a
 dtt:∀(i:Nat) (ks:KT2),ρ[i]?=some (some (Cell.dtt ks))->∃a zs ep,σ[i]?=some (some (V.ref a))/\H a=some (ZDO a zs ep)/\Jj K C.hd (Own C ρ σ) H zs ks/\¬C.ext a
 dif:∀(i j:Nat) (c e:Cell) (a:af),c.mine=true->e.mine=true->ρ[i]?=some (some c)->ρ[j]?=some (some e)->σ[i]?=some (some (V.ref a))->σ[j]?=some (some (V.ref a))->i=j
 hnd:Hn K C.hd H n
 ext:∀a,C.ext a->MutO (H a)
 hx:∀a,C.hd=some a->C.ext a
def ExtE(hd:Option af)(H H':Hp):Prop:=∀a o,H a=some o->hd≠some a->H' a=some o
theorem ExtE.refl:ExtE hd H H:=fun _ _ h _=>h
theorem ExtE.trans(a:ExtE hd H H1)(b:ExtE hd H1 H2):ExtE hd H H2:=fun c o h n=>b c o (a c o h n) n
theorem ExtE.new(h:H p=none):ExtE hd H (upd H p o):=fun b u e _=>by rw[Jg (Qq e h)];exact e
section
variable{K:qF}{C:Ctx}{ρ:En}{σ:St}{H H':Hp}{n n':Nat}
theorem MutO.ne(h:MutO o):o≠none:=by rcases h with⟨_,rfl⟩|⟨_,rfl⟩|⟨_,rfl⟩ <;> exact fun z=>by cases z
theorem Stt.at(S:Stt K C ρ σ H n){i:Nat}{c:Cell}(m:c.mine=true)(v:ρ[i]?=some (some c)):∃a:af,σ[i]?=some (some (V.ref a))/\MutO (H a)/\¬C.ext a:=by
 cases c with
 | val d=>cases m
 | own ds =>obtain⟨a,x,u,e2,_,o⟩:=S.own i ds v;exact⟨a,u,.inl ⟨_,e2⟩,o⟩
 | dct ks =>obtain⟨a,x,u,e2,_,o⟩:=S.dct i ks v;exact⟨a,u,.inr (.inl ⟨_,e2⟩),o⟩
 | rdo ks=>cases m
 | dtt ks =>obtain⟨a,x,ep,u,e2,_,o⟩:=S.dtt i ks v;exact⟨a,u,.inr (.inr ⟨_,e2⟩),o⟩
theorem Stt.lst(S:Stt K C ρ σ H n){a:af}(h:Own C ρ σ a):MutO (H a):=by rcases h with h|⟨i,c,m,o,u⟩;exact S.ext a h;obtain⟨b,l,e2,_⟩:=S.at m o;rw[u]at l;cases l;exact e2
theorem Stt.dom(S:Stt K C ρ σ H n)(h:Own C ρ σ a):H a≠none:=(S.lst h).ne
theorem Stt.free(S:Stt K C ρ σ H n)(h:H a=none):¬Own C ρ σ a:=fun z=>S.dom z h
theorem ExtE.rep(e:ExtE C.hd H H')(hx:∀a,C.hd=some a->C.ext a){v d}(r:Rep K C.hd (Own C ρ σ) H v d):Rep K C.hd (Own C ρ σ) H' v d :=
 r.mono (fun _ _ _ z=>z) fun a o no h=>e a o h fun z=>no (.inl (hx a z))
theorem ExtE.reps(e:ExtE C.hd H H')(hx:∀a,C.hd=some a->C.ext a){v d}(r:Reps K C.hd (Own C ρ σ) H v d):Reps K C.hd (Own C ρ σ) H' v d :=
 r.mono (fun _ _ _ z=>z) fun a o no h=>e a o h fun z=>no (.inl (hx a z))
theorem Stt.on(S:Stt K C ρ σ H n)(e:ExtE C.hd H H')(h:Hn K C.hd H' n'):Stt K C ρ σ H' n' where
 len:=S.len
 val:=fun i d hi=>by obtain⟨v,y,x⟩:=S.val i d hi;exact⟨v,y,e.rep S.hx x⟩
 own:=fun i ds hi=>by obtain⟨a,G,y,x,I,u⟩:=S.own i ds hi;exact⟨a,G,y,e a _ x fun z=>u (S.hx a z),e.reps S.hx I,u⟩
 dct:=fun i ks hi=>by obtain⟨a,G,y,x,I,u⟩:=S.dct i ks hi;exact⟨a,G,y,e a _ x fun z=>u (S.hx a z),Paired.mapP I fun _ _ z=>⟨z.1,e.rep S.hx z.2⟩,u⟩
 rdo:=fun i ks hi=>by obtain⟨a,G,y,x,I,u,J⟩:=S.rdo i ks hi;exact⟨a,G,y,e a _ x J,Paired.mapP I fun _ _ z=>⟨z.1,e.rep S.hx z.2⟩,u,J⟩
 dtt:=fun i ks hi=>by obtain⟨a,G,ep,y,x,I,u⟩:=S.dtt i ks hi;exact⟨a,G,ep,y,e a _ x fun z=>u (S.hx a z),I.mono (fun _ _ _ z=>z) (fun a o no h=>e a o h fun z=>no (.inl (S.hx a z))),u⟩
 dif:=S.dif
 hnd:=h
 ext:=fun a L=>by by_cases z:C.hd=some a;obtain⟨G,q⟩:=h.lst z;exact .inl ⟨_,q⟩;rcases S.ext a L with⟨xs,q⟩|⟨xs,q⟩|⟨b,q⟩;exact .inl ⟨xs,e a _ q z⟩;exact .inr (.inl ⟨xs,e a _ q z⟩);exact .inr (.inr ⟨b,e a _ q z⟩)
 hx:=S.hx
end
abbrev DTE:=En->Nat->(ab->Nat->Prop)->Prop
abbrev DTT:=En->Nat->(Bool->Nat->Prop)->Prop
abbrev DTA:=En->Nat->(List ab->Nat->Prop)->Prop
def DE(X:Cx)(e:aQ)(d:DTE):Prop:=∃o,PE X e o/\∀(C:Ctx) (l:En) (σ:St) (H:Hp) (n:Nat) (Q:VK) (R:qN),Stt X.K C l σ H n->d l n R ->
 (∀t u v H',R t u->ExtE C.hd H H'->Hn X.K C.hd H' u->Rep X.K C.hd (Own C l σ) H' v t->Q v H')->o σ H Q
def RepT(K:qF)(hd:Option af)(O:af->Prop)(H:Hp)(v:V)(t:ab):Prop :=
 Rep K hd O H v t\/(∃a o ds,v=.ref a/\t=.list ds/\H a=some (.lst o)/\Reps K hd O H o ds/\hd≠some a)\/∃a zs ep ks,v=.ref a/\t=.dict (Jq ks)/\H a=some (ZDO a zs ep)/\Jj K hd O H zs ks/\hd≠some a
def DL(X:Cx)(e:aQ)(d:DTE):Prop:=∃o,PE X e o/\∀(C:Ctx) (l:En) (σ:St) (H:Hp) (n:Nat) (Q:VK) (R:qN),Stt X.K C l σ H n->d l n R ->
 (∀t u v H',R t u->ExtE C.hd H H'->Hn X.K C.hd H' u->RepT X.K C.hd (Own C l σ) H' v t->Q v H')->o σ H Q
def DN(X:Cx)(e:aQ)(d:DTA):Prop:=∃u,PE X e u/\∀(C:Ctx) (o:En) (σ:St) (H:Hp) (n:Nat) (Q:VK) (R:List ab->Nat->Prop),Stt X.K C o σ H n->d o n R ->
 (∀ts v p x H',R ts v->ExtE C.hd H H'->Hn X.K C.hd H' v->H p=none->H' p=some (.lst x)->Reps X.K C.hd (fun a=>Own C o σ a\/a=p) H' x ts->Q (.ref p) H')->u σ H Q
def DT(X:Cx)(e:aQ)(d:DTT):Prop:=∃l,PT X e l/\∀(C:Ctx) (u:En) (σ:St) (H:Hp) (n:Nat) (Q:Bool->Hp->Prop) (R:Bool->Nat->Prop),Stt X.K C u σ H n->d u n R ->
 (∀b o H',R b o->ExtE C.hd H H'->Hn X.K C.hd H' o->Q b H')->l σ H Q
def DW(X:Cx)(e:aQ)(d:DTT):Prop:=∃l,PW X e l/\∀(C:Ctx) (u:En) (σ:St) (H:Hp) (n:Nat) (Q:Bool->Hp->Prop) (R:Bool->Nat->Prop),Stt X.K C u σ H n->d u n R ->
 (∀b o H',R b o->ExtE C.hd H H'->Hn X.K C.hd H' o->Q b H')->l σ H Q
def DB(X:Cx)(es:List aQ)(d:DTA):Prop:=∃u,PB X es u/\∀(C:Ctx) (l:En) (σ:St) (H:Hp) (n:Nat) (Q:List V->Hp->Prop) (R:List ab->Nat->Prop),Stt X.K C l σ H n->d l n R ->
 (∀ts v o H',R ts v->ExtE C.hd H H'->Hn X.K C.hd H' v->Reps X.K C.hd (Own C l σ) H' o ts->ts.length=es.length->Q o H')->u σ H Q
section
variable{X:Cx}{e a b c:aQ}{es:List aQ}{d da db dc:DTE}{pos:Pos}
theorem dl(h:DE X e d):DL X e d:=by obtain⟨u,p,h⟩:=h;exact⟨u,p,fun C I σ H n Q R S hd o=>h C I σ H n Q R S hd fun t G v H' r e y x=>o t G v H' r e y (.inl x)⟩
def dNew(d:DTA):DTE:=fun u n R=>d u n fun ts o=>R (.list ts) o
theorem JS{d:DTA}(h:DN X e d):DE X e (dNew d):=by obtain⟨x,p,h⟩:=h;refine⟨x,p,fun C J σ H n Q R S hd o=>h C J σ H n Q _ S hd fun ts I p L H' r e G y u v=>o _ I _ H' r e G (.lst u (S.free y) (v.mono (fun _ _ _ z=>.inl z) fun _ _ _ z=>z))⟩
def dVar(i:Nat):DTE:=fun l n R=>match l[i]? with|some (some (Cell.val d))=>R d n|_=>False
def dOwn(i:Nat):DTE:=fun o n R=>match o[i]? with|some (some (Cell.own d))=>R (.list d) n|_=>False
def dC(t:ab):DTE:=fun _ n R=>R t n
theorem Jo(i:Nat)(G:X.N[i]?=some x:=by rfl)(I:Vis X.env.scope x:=by walk_at "V")(hd:(x == ("__debug__":Str))=false:=by rfl)
  (l:(x == ("__classdict__":Str))=false:=by rfl):DE X (.Name x pos) (dVar i):=by
 refine⟨_,Qe G I hd l,fun C J σ H n Q R S h o=>?_⟩;unfold dVar at h;split at h;rename_i d e;obtain⟨v,y,u⟩:=S.val i d e;exact⟨v,y,o d n v H h ExtE.refl S.hnd u⟩;exact h.elim
theorem Q3(i:Nat)(J:X.N[i]?=some x:=by rfl)(L:Vis X.env.scope x:=by walk_at "V")(hd:(x == ("__debug__":Str))=false:=by rfl)
  (o:(x == ("__classdict__":Str))=false:=by rfl):DL X (.Name x pos) (dOwn i):=by
 refine⟨_,Qe J L hd o,fun C Y σ H n Q R S h u=>?_⟩;unfold dOwn at h;split at h;rename_i ds e;obtain⟨p,U,I,G,v,y⟩:=S.own i ds e;exact⟨.ref p,I,u _ n _ H h ExtE.refl S.hnd (.inr (.inl ⟨p,U,ds,rfl,rfl,G,v,fun z=>y (S.hx p z)⟩))⟩;exact h.elim
def ZI(i:Nat):DTE:=fun l n R=>match l[i]? with|some (some (Cell.dtt ks))=>R (.dict (Jq ks)) n|_=>False
theorem zhZ(i:Nat)(I:X.N[i]?=some x:=by rfl)(J:Vis X.env.scope x:=by walk_at "V")(hd:(x == ("__debug__":Str))=false:=by rfl)
  (l:(x == ("__classdict__":Str))=false:=by rfl):DL X (.Name x pos) (ZI i):=by
 refine⟨_,Qe I J hd l,fun C L σ H n Q R S h o=>?_⟩;unfold ZI at h;split at h;rename_i ks e;obtain⟨p,zs,ep,G,y,u,v⟩:=S.dtt i ks e;exact⟨.ref p,G,o _ n _ H h ExtE.refl S.hnd (.inr (.inr ⟨p,zs,ep,ks,rfl,rfl,y,u,fun z=>v (S.hx p z)⟩))⟩;exact h.elim
theorem Jf{i j pos}:DE X (.Constant (.int i) j pos) (dC (.int i)):=⟨_,JD,fun _ _ _ H n _ _ S h l=>l _ n _ H h ExtE.refl S.hnd (.int i)⟩
theorem QO{b j pos}:DE X (.Constant (.bool b) j pos) (dC (.bool b)):=⟨_,zuJ,fun _ _ _ H n _ _ S h u=>u _ n _ H h ExtE.refl S.hnd (.bl b)⟩
theorem YV{j pos}:DE X (.Constant .none j pos) (dC .none):=⟨_,zrn,fun _ _ _ H n _ _ S h l=>l _ n _ H h ExtE.refl S.hnd .non⟩
end
section
variable{K:qF}{hd:Option af}{O:af->Prop}{H H':Hp}{v:V}{t:ab}{n:Nat}
theorem Same.ext(h:Same H H'):ExtE hd H H':=fun a o e _=>h a o e
theorem Hn.same(h:Hn K hd H n)(s:Same H H'):Hn K hd H' n:=fun a e=>by rcases h a e with⟨⟨d,m,t,q,r⟩,l⟩|⟨l,p⟩;exact .inl ⟨⟨d,m,t,s _ _ q,r⟩,l⟩;exact .inr ⟨l,p.same s⟩
theorem Reps.same{vs ts}(s:Same H H')(r:Reps K hd O H vs ts):Reps K hd O H' vs ts:=r.mono (fun _ _ _ z=>z) fun a o _ h=>s a o h
theorem ExtE.repT(e:ExtE C.hd H H')(hx:∀a,C.hd=some a->C.ext a)(r:RepT K C.hd (Own C ρ σ) H v t):RepT K C.hd (Own C ρ σ) H' v t:=by rcases r with r|⟨a,J,ds,I,G,x,y,u⟩|⟨a,zs,ep,ks,I,G,x,y,u⟩;exact .inl (e.rep hx r);exact .inr (.inl ⟨a,J,ds,I,G,e _ _ x u,e.reps hx y,u⟩);exact .inr (.inr ⟨a,zs,ep,ks,I,G,e _ _ x u,y.mono (fun _ _ _ z=>z) (fun a o no h=>e a o h fun z=>no (.inl (hx a z))),u⟩)
theorem RepT.lstI{ds}(h:RepT K hd O H v (.list ds)):∃a o,v=.ref a/\H a=some (.lst o)/\Reps K hd O H o ds:=by rcases h with h|⟨a,o,es,x,u,y,C,_⟩|⟨a,o,ep,es,x,u,y,C,_⟩;obtain⟨a,o,x,u,_,y⟩:=h.lstI;exact⟨a,o,x,u,y⟩;cases u;exact⟨a,o,x,y,C⟩;cases u
theorem RepT.tupI{ds}(h:RepT K hd O H v (.tuple ds)):∃a o,v=.ref a/\SqT K H a o/\Reps K hd O H o ds:=by rcases h with h|⟨a,o,es,y,x,C,G,_⟩|⟨a,o,ep,es,y,x,C,G,_⟩;exact h.tupI;cases x;cases x
theorem RepT.rep(h:RepT K hd O H v t)(nl:∀ds,t≠.list ds)(nd:∀ks,t≠.dict (Jq ks):=by intro ks z;first|cases z|exact dict_noT (cD z)):Rep K hd O H v t:=by rcases h with h|⟨a,x,es,u,o,C,y,_⟩|⟨a,x,ep,es,u,o,C,y,_⟩;exact h;exact absurd o (nl es);exact absurd o (nd es)
theorem RepT.intI{i}(h:RepT K hd O H v (.int i)):v=.int i:=(h.rep (by intro _ z;cases z)).intI
theorem RepT.blI{i}(h:RepT K hd O H v (.bool i)):v=.bl i:=(h.rep (by intro _ z;cases z)).blI
theorem RepT.strI{i}(h:RepT K hd O H v (.str i)):v=.str i:=(h.rep (by intro _ z;cases z)).strI
theorem RepT.nonI(h:RepT K hd O H v .none):v=.non:=(h.rep (by intro _ z;cases z)).nonI
theorem Rep.newT{vs ts}(no:¬O p)(h:H p=none)(r:Reps K hd O H vs ts):Rep K hd O (upd H p (.tup vs)) (.ref p) (.tuple ts) :=
 .tup JB no (r.same (fun b u e=>by rw[Jg (Qq e h)];exact e))
end
theorem JL(h:H p=none):Same H (upd H p o):=fun b u e=>by rw[Jg (Qq e h)];exact e
abbrev G2:=ab->ab->(ab->Prop)->Prop
def dOp(g:G2)(o db:DTE):DTE:=fun l n R=>o l n fun x v=>db l v fun y u=>g x y fun z=>R z u
def Gp2(X:Cx)(r:R2)(g:G2):Prop:=∀(hd:Option af) (O:af->Prop) (H:Hp) (x y:V) (t u:ab) (Q:VK) (R:ab->Prop),(∀p,O p->H p≠none)->RepT X.K hd O H x t->RepT X.K hd O H y u->g t u R ->
 (∀z v H',R z->Same H H'->Rep X.K hd O H' v z->Q v H')->r x y H Q
section
variable{X:Cx}{a b c:aQ}{da db dc:DTE}{pos:Pos}{r r':R2}{g g':G2}
theorem two{C:Ctx}{l:En}{σ:St}{H:Hp}{n:Nat}{U Y:TE}(ha:∀(C:Ctx) (l:En) (σ:St) (H:Hp) (n:Nat) (Q:VK) (R:qN),Stt X.K C l σ H n->da l n R ->
  (∀t I v H',R t I->ExtE C.hd H H'->Hn X.K C.hd H' I->RepT X.K C.hd (Own C l σ) H' v t->Q v H')->U σ H Q)
  (hb:∀(C:Ctx) (l:En) (σ:St) (H:Hp) (n:Nat) (Q:VK) (R:qN),Stt X.K C l σ H n->db l n R ->
  (∀t I v H',R t I->ExtE C.hd H H'->Hn X.K C.hd H' I->RepT X.K C.hd (Own C l σ) H' v t->Q v H')->Y σ H Q)
  {N:V->V->Hp->Prop} {R2:ab->ab->Nat->Prop} (S:Stt X.K C l σ H n) (h:da l n fun x L=>db l L fun y G=>R2 x y G)
  (hq:∀x y G v w o,R2 x y G->ExtE C.hd H o->Stt X.K C l σ o G->RepT X.K C.hd (Own C l σ) o v x->RepT X.K C.hd (Own C l σ) o w y->N v w o) :
  U σ H fun v J=>Y σ J fun w o=>N v w o:=by
 refine ha C l σ H n _ _ S h fun t L v J r1 e1 h1 q1=>?_;have Z:=S.on e1 h1;refine hb C l σ J L _ _ Z r1 fun u G w o r2 e2 h2 q2=>?_;exact hq t u G v w o r2 (e1.trans e2) (Z.on e2 h2) (e2.repT S.hx q1) q2
theorem QH{op:o8}(N:OpR X (binaryOp op) r)(U:Gp2 X r g)(o:DL X a da)(l:DL X b db):DE X (.BinOp a op b pos) (dOp g da db):=by obtain⟨ta,pa,o⟩:=o;obtain⟨tb,L,l⟩:=l;refine⟨_,JF N pa L,fun C ρ σ H n Q R S h Y=>?_⟩;refine two o l S h fun x y Z v w J r2 e G q1 q2=>?_;exact U C.hd (Own C ρ σ) J v w x y Q _ (fun p=>G.dom) q1 q2 r2 fun z u H' rz I rp=>Y z Z u H' rz (e.trans I.ext) (G.hnd.same I) rp
theorem Qi{op:uK}(U:OpR X (compareOp op) r)(Y:Gp2 X r g)(G:DL X a da)(l:DL X b db)(hm:behindInMarks op b=false):DE X (.Compare a [op] [b] pos) (dOp g da db):=by obtain⟨ta,pa,G⟩:=G;obtain⟨tb,N,l⟩:=l;refine⟨_,zkS U pa N hm,fun C ρ σ H n Q R S h Z=>?_⟩;refine two G l S h fun x y n2 v w L r2 e I q1 q2=>?_;exact Y C.hd (Own C ρ σ) L v w x y Q _ (fun p=>I.dom) q1 q2 r2 fun z u H' rz J rp=>Z z n2 u H' rz (e.trans J.ext) (I.hnd.same J) rp
def Uk(d:DTE):DTT:=fun v n R=>d v n fun t u=>match t with|.bool k=>R k u|_=>False
theorem Jz{op:uK}(Y:OpR X (compareOp op) r)(Z:Gp2 X r g)(G:DL X a da)(l:DL X b db)(hm:behindInMarks op b=false):DT X (.Compare a [op] [b] pos) (Uk (dOp g da db)):=by
 obtain⟨ta,pa,G⟩:=G;obtain⟨tb,U,l⟩:=l;refine⟨_,zhD Y pa U hm,fun C ρ σ H n Q R S h hq=>?_⟩;refine two G l S h fun x y n2 v w N r2 e J q1 q2=>?_;refine Z C.hd (Own C ρ σ) N v w x y _ _ (fun p=>J.dom) q1 q2 r2 fun z u H' I L rp=>?_;cases z with
 | bool k =>cases rp;exact⟨k,rfl,hq k n2 H' I (e.trans L.ext) (J.hnd.same L)⟩
 | _=>exact I.elim
def YT(g g':G2)(da db dc:DTE):DTE:=fun u n R=>da u n fun x G=>db u G fun y v=>g x y fun z=>match z with
 | .bool true=>dc u v fun w C=>g' y w fun z=>R z C
 | .bool false=>R (.bool false) v
 | _=>False
def gI(C:Int->Int->Prop)(f:Int->Int->Int):G2
 | .int i,.int j,R=>C i j/\R (.int (f i j))
 | _,_,_=>False
def gB(f:Int->Int->Bool):G2
 | .int i,.int j,R=>R (.bool (f i j))
 | _,_,_=>False
theorem gp_I:Gp2 X (rI C fun i j=>.int (f i j)) (gI C f):=by intro hd O H x y t u Q R dom l o h v;unfold gI at h;split at h;rename_i i j;exact⟨i,j,l.intI,o.intI,h.1,v _ _ H h.2 (Same.refl H) (.int _)⟩;exact h.elim
def gI0(f:Int->Int->Int):G2
 | .int i,.int j,R=>R (.int (f i j))
 | _,_,_=>False
theorem zpX:Gp2 X (rI0 fun i j=>.int (f i j)) (gI0 f):=by intro hd O H x y t u Q R dom l o h v;unfold gI0 at h;split at h;rename_i i j;exact⟨i,j,l.intI,o.intI,v _ _ H h (Same.refl H) (.int _)⟩;exact h.elim
theorem gp_B:Gp2 X (rI0 fun i j=>.bl (f i j)) (gB f):=by intro hd O H x y t u Q R dom o v h C;unfold gB at h;split at h;rename_i i j;exact⟨i,j,o.intI,v.intI,C _ _ H h (Same.refl H) (.bl _)⟩;exact h.elim
end
section
variable{X:Cx}{a b c:aQ}{da db dc:DTE}{pos:Pos}
def oSub:=gI0 fun i j=>i - j
def oMod:=gI (fun _ j=>0<j) fun i j=>i % j
def Uj:=gI U7 fun i j=>i / j
def oPow:=gI CPow fun i j=>i ^ j.toNat
def oShl:=gI CPow fun i j=>i*2 ^ j.toNat
def oShr:=gI (fun _ j=>0<=j) fun i j=>i / 2 ^ j.toNat
def oXor:=gI0 bV
def oAnd:=gI0 fA
theorem Qt(o:DL X a da)(l:DL X b db):DE X (.BinOp a .Sub b pos) (dOp oSub da db):=QH zry zpX o l
theorem Vb(u:DL X a da)(l:DL X b db):DE X (.BinOp a .Mod b pos) (dOp oMod da db):=QH Uv gp_I u l
theorem zh0(x:DL X a da)(u:DL X b db):DE X (.BinOp a .FloorDiv b pos) (dOp Uj da db):=QH Vq gp_I x u
theorem zoz(u:DL X a da)(l:DL X b db):DE X (.BinOp a .Pow b pos) (dOp oPow da db):=QH zog gp_I u l
theorem JT(o:DL X a da)(l:DL X b db):DE X (.BinOp a .LShift b pos) (dOp oShl da db):=QH zrA gp_I o l
theorem zmb(o:DL X a da)(l:DL X b db):DE X (.BinOp a .RShift b pos) (dOp oShr da db):=QH zrz gp_I o l
theorem zoy(u:DL X a da)(l:DL X b db):DE X (.BinOp a .BitXor b pos) (dOp oXor da db):=QH zrx zpX u l
theorem zs7(o:DL X a da)(l:DL X b db):DE X (.BinOp a .BitAnd b pos) (dOp oAnd da db):=QH zrJ zpX o l
end
section
variable{X:Cx}{pins:qO}{σ:St}{H:Hp}{s:ak}{hd:Option af}{O:af->Prop}
theorem RepT.reads(I:Inv X pins σ H s)(h:RepT X.K hd O H v d)(r:RelV v u)(e:d.hasDict=false):∃G,Reads s.heap u d G:=by
 rcases h with h|⟨a,R,ds,rfl,rfl,y,C,_⟩|⟨a,zs,ep,ks,rfl,rfl,y,C,_⟩
 rotate_left 2
 simp[cy]at e;exact h.reads I r e;cases r;obtain⟨its,L,p,_⟩:=I.list (xs:=R) (.inl (.inl y));obtain⟨o,n,J,hc,_,x⟩:=p;obtain⟨G,N⟩:=Reps.reads I C L (by simpa[cy] using e);exact⟨_,.list J hc x (by simpa using N)⟩
end
def Okd(t:ab):Prop:=t.canLay0=true/\t.depth<=60
section
variable{X:Cx}{a b c:aQ}{da db dc:DTE}{pos:Pos}{k:Nat}
def rEqD(K:qF)(neg:Bool):R2:=fun x y H Q=>∃hd O t u,RepT K hd O H x t/\RepT K hd O H y u/\Okd t/\Okd u/\Q (.bl (if neg then !t.eqv u else t.eqv u)) H
theorem zrI(G:Room k X.A):OpR X (compareOp .Eq) (rEqD X.K false):=by intro pins s σ H x y v u Q I J S h;obtain⟨hd,O,t,w,R,N,o,C,q⟩:=h;obtain⟨Y,U⟩:=R.reads I J (cj _ o.1);obtain⟨bs,L⟩:=N.reads I S (cj _ C.1);refine SeqAt.compareEq_reads U L o.1 C.1 ?_ ⟨.bl _,H,I,rfl,q⟩;have:=G.un;have:=o.2;omega
theorem zrC(J:Room k X.A):OpR X (compareOp .NotEq) (rEqD X.K true):=by intro pins s σ H x y v u Q I L Y h;obtain⟨hd,O,t,w,U,S,C,G,q⟩:=h;obtain⟨as,Z⟩:=U.reads I L (cj _ C.1);obtain⟨bs,R⟩:=S.reads I Y (cj _ G.1);refine SeqAt.compareNe_reads Z R C.1 G.1 ?_ ⟨.bl _,H,I,rfl,q⟩;have:=J.un;have:=C.2;omega
theorem Ux(i:Int):Okd (.int i):=⟨by simp[cz],by simp[d4]⟩
def oEq:G2
 | .int i,.int j,R=>R (.bool (decide (i=j)))
 | .str i,.str j,R=>R (.bool (decide (i=j)))
 | .bool i,.bool j,R=>R (.bool (decide (i=j)))
 | t,u,R=>Okd t/\Okd u/\R (.bool (t.eqv u))
def oNe:G2
 | .int i,.int j,R=>R (.bool (!decide (i=j)))
 | .str i,.str j,R=>R (.bool (!decide (i=j)))
 | .bool i,.bool j,R=>R (.bool (!decide (i=j)))
 | t,u,R=>Okd t/\Okd u/\R (.bool (!t.eqv u))
def rEqA(K:qF):R2:=fun x y H Q=>rEq x y H Q\/rEqD K false x y H Q
def rNeA(K:qF):R2:=fun x y H Q=>rNe x y H Q\/rEqD K true x y H Q
theorem Qj(l:Room k X.A):OpR X (compareOp .Eq) (rEqA X.K):=OpR.or zuM (zrI l)
theorem UQ(l:Room k X.A):OpR X (compareOp .NotEq) (rNeA X.K):=OpR.or zuK (zrC l)
theorem Qg:Gp2 X (rEqA X.K) oEq:=by intro hd O H x y t u Q R dom o v h C;unfold oEq at h;split at h;rename_i i j;rw[o.intI,v.intI];refine .inl ⟨rfl,?_⟩;have e:decide (V.int i=V.int j)=decide (i=j):=decide_eq_decide.mpr ⟨fun z=>by cases z;rfl,fun z=>by rw[z]⟩;rw[e];exact C _ _ H h (Same.refl H) (.bl _);rename_i i j;rw[o.strI,v.strI];refine .inl ⟨rfl,?_⟩;have e:decide (V.str i=V.str j)=decide (i=j):=decide_eq_decide.mpr ⟨fun z=>by cases z;rfl,fun z=>by rw[z]⟩;rw[e];exact C _ _ H h (Same.refl H) (.bl _);rename_i i j;rw[o.blI,v.blI];refine .inl ⟨rfl,?_⟩;have e:decide (V.bl i=V.bl j)=decide (i=j):=decide_eq_decide.mpr ⟨fun z=>by cases z;rfl,fun z=>by rw[z]⟩;rw[e];exact C _ _ H h (Same.refl H) (.bl _);exact .inr ⟨hd,O,_,_,o,v,h.1,h.2.1,C _ _ H h.2.2 (Same.refl H) (.bl _)⟩
theorem UJ:Gp2 X (rNeA X.K) oNe:=by intro hd O H x y t u Q R dom o v h C;unfold oNe at h;split at h;rename_i i j;rw[o.intI,v.intI];refine .inl ⟨rfl,?_⟩;have e:decide (V.int i=V.int j)=decide (i=j):=decide_eq_decide.mpr ⟨fun z=>by cases z;rfl,fun z=>by rw[z]⟩;rw[e];exact C _ _ H h (Same.refl H) (.bl _);rename_i i j;rw[o.strI,v.strI];refine .inl ⟨rfl,?_⟩;have e:decide (V.str i=V.str j)=decide (i=j):=decide_eq_decide.mpr ⟨fun z=>by cases z;rfl,fun z=>by rw[z]⟩;rw[e];exact C _ _ H h (Same.refl H) (.bl _);rename_i i j;rw[o.blI,v.blI];refine .inl ⟨rfl,?_⟩;have e:decide (V.bl i=V.bl j)=decide (i=j):=decide_eq_decide.mpr ⟨fun z=>by cases z;rfl,fun z=>by rw[z]⟩;rw[e];exact C _ _ H h (Same.refl H) (.bl _);exact .inr ⟨hd,O,_,_,o,v,h.1,h.2.1,C _ _ H h.2.2 (Same.refl H) (.bl _)⟩
def isNone:ab->Bool
 | .none=>true
 | _=>false
def oIsN:G2
 | .bool a,.bool b,R=>R (.bool (a != b))
 | t,.none,R=>R (.bool (!isNone t))
 | _,_,_=>False
def rIsN:R2:=fun x y H Q=>(y=.non/\Q (.bl (!decide (x=.non))) H)\/∃a b,x=.bl a/\y=.bl b/\Q (.bl (a != b)) H
theorem zk0:OpR X (compareOp .IsNot) rIsN:=OpR.or zpj zk1
theorem RepT.isN{K:qF}{hd:Option af}{O:af->Prop}{H:Hp}{v:V}{t:ab}(h:RepT K hd O H v t):decide (v=.non)=(isNone t):=by rcases h with h|⟨a,x,ds,rfl,rfl,l,u,_⟩|⟨a,zs,ep,ks,rfl,rfl,l,u,_⟩;cases h <;> simp[HAND,SCR,EXC,isNone];simp[isNone];simp[isNone]
theorem zlP:Gp2 X rIsN oIsN:=by intro hd O H x y t u Q R dom o v h C;unfold oIsN at h;split at h;rename_i i j;exact .inr ⟨i,j,o.blI,v.blI,C _ _ H h (Same.refl H) (.bl _)⟩;refine .inl ⟨v.nonI,?_⟩;rw[o.isN];exact C _ _ H h (Same.refl H) (.bl _);exact h.elim
def rInD(K:qF)(neg:Bool):R2:=fun x y H Q=>∃hd O t ts,RepT K hd O H x t/\(RepT K hd O H y (.tuple ts)\/RepT K hd O H y (.list ts))/\Okd t/\(∀u∈ts,Okd u)/\Q (.bl (if neg then !ts.any (fun u=>u.eqv t) else ts.any (fun u=>u.eqv t))) H
theorem zk2:∀{ts:qD},(∀u∈ts,Okd u)->bB ts=true
 | [],_=>by simp[bB]
 | t::ts,h=>by simp only[bB,bL];exact⟨(h t (by simp)).1,zk2 fun u l=>h u (by simp[l])⟩
theorem zkW(U:Room k X.A):OpR X (compareOp .NotIn) (rInD X.K true):=by
 intro pins s σ H x y v u Q I Y R h;obtain⟨hd,O,t,ts,h1,C,G,Z,q⟩:=h;obtain⟨as,S⟩:=h1.reads I Y (cj _ G.1);have cl:=zk2 Z;have L:X.A.units+1+min (cf ts) t.depth<cLine:=by have:=U.un;have:=G.2;omega
 rcases C with C|C;obtain⟨bs,J⟩:=C.reads I R (cj _ (by simpa[cz] using cl));exact SeqAt.notIn_tuple_reads J S cl G.1 L ⟨.bl _,H,I,rfl,q⟩;obtain⟨bs,J⟩:=C.reads I R (cj _ (by simpa[cz] using cl));exact SeqAt.notIn_list_reads J S cl G.1 L ⟨.bl _,H,I,rfl,q⟩
def Yy:G2
 | t,.tuple ts,R=>Okd t/\(∀u∈ts,Okd u)/\R (.bool (!ts.any fun u=>u.eqv t))
 | t,.list ts,R=>Okd t/\(∀u∈ts,Okd u)/\R (.bool (!ts.any fun u=>u.eqv t))
 | _,_,_=>False
theorem znH:Gp2 X (rInD X.K true) Yy:=by intro hd O H x y t u Q R dom o v h C;unfold Yy at h;split at h;exact⟨hd,O,_,_,o,.inl v,h.1,h.2.1,C _ _ H h.2.2 (Same.refl H) (.bl _)⟩;exact⟨hd,O,_,_,o,.inr v,h.1,h.2.1,C _ _ H h.2.2 (Same.refl H) (.bl _)⟩;exact h.elim
def oLtA:G2
 | .int i,.int j,R=>R (.bool (decide (i<j)))
 | .str i,.str j,R=>R (.bool (decide (i.cps.toList<j.cps.toList)))
 | .tuple xs,.tuple ys,R=>∃ns v,xs=ns.map bo/\ys=v.map bo/\R (.bool (HT.lexLt ns v))
 | _,_,_=>False
def rLtA(K:qF):R2:=fun x y H Q=>(rI0 fun i j=>.bl (decide (i<j))) x y H Q\/(∃i j,x=.str i/\y=.str j/\Q (.bl (decide (i.cps.toList<j.cps.toList))) H)\/rLtT K x y H Q
theorem Uu(l:Room k X.A):OpR X (compareOp .Lt) (rLtA X.K):=OpR.or zrE (OpR.or zkY (zrD l.units0))
theorem VB{K:qF}{hd:Option af}{O:af->Prop}{H:Hp}:∀{ns:List Int}{l:List V},Reps K hd O H l (ns.map bo)->l=ns.map V.int
 | [],_,h=>by cases h;rfl
 | n::ns,_,h=>by
  cases h with
  | cons h r=>rw[h.intI,VB r];rfl
theorem Uq:Gp2 X (rLtA X.K) oLtA:=by intro hd O H x y t u Q R dom o C h v;unfold oLtA at h;split at h;exact .inl ⟨_,_,o.intI,C.intI,v _ _ H h (Same.refl H) (.bl _)⟩;exact .inr (.inl ⟨_,_,o.strI,C.strI,v _ _ H h (Same.refl H) (.bl _)⟩);obtain⟨ns,G,rfl,rfl,h⟩:=h;obtain⟨p,S,L,s1,J⟩:=o.tupI;obtain⟨q,N,e2,s2,I⟩:=C.tupI;rw[VB J]at s1;rw[VB I]at s2;exact .inr (.inr ⟨p,q,ns,G,L,e2,s1,s2,v _ _ H h (Same.refl H) (.bl _)⟩);exact h.elim
def oLeA:G2
 | .int i,.int j,R=>R (.bool (decide (i<=j)))
 | .str i,.str j,R=>R (.bool (!decide (j.cps.toList<i.cps.toList)))
 | _,_,_=>False
def rLeA:R2:=fun x y H Q=>(rI0 fun i j=>.bl (decide (i<=j))) x y H Q\/(∃i j,x=.str i/\y=.str j/\Q (.bl (!decide (j.cps.toList<i.cps.toList))) H)
theorem zkZ:OpR X (compareOp .LtE) (fun x y H Q=>∃i j,x=.str i/\y=.str j/\Q (.bl (!decide (j.cps.toList<i.cps.toList))) H):=by intro pins s σ H x y v u Q I o C h;obtain⟨i,j,rfl,rfl,q⟩:=h;obtain⟨t,rfl⟩:=o;obtain⟨t',rfl⟩:=C;exact PySem.P.le_str ⟨.bl _,H,I,rfl,q⟩
theorem QC:OpR X (compareOp .LtE) rLeA:=OpR.or zuL zkZ
theorem QA:Gp2 X rLeA oLeA:=by intro hd O H x y t u Q R dom o v h C;unfold oLeA at h;split at h;exact .inl ⟨_,_,o.intI,v.intI,C _ _ H h (Same.refl H) (.bl _)⟩;exact .inr ⟨_,_,o.strI,v.strI,C _ _ H h (Same.refl H) (.bl _)⟩;exact h.elim
variable{r r':R2}{g g':G2}
end
section
variable{X:Cx}{a b c e:aQ}{es rest:List aQ}{d da db dc:DTE}{t u:DTT}{pos p:Pos}{k:Nat}
def truD:ab->(Bool->Prop)->Prop
 | .none,R=>R false
 | .bool b,R=>R b
 | .int i,R=>R (decide (i≠0))
 | .str x,R=>x.length<=16777216/\R (decide (x.length≠0))
 | .list ts,R=>R (!ts.isEmpty)
 | .tuple ts,R=>R (!ts.isEmpty)
 | _,_=>False
def dTru(d:DTE):DTT:=fun o n R=>d o n fun t l=>truD t fun b=>R b l
theorem zqG{K:qF}{hd:Option af}{O:af->Prop}{H:Hp}{v:V}{t:ab}{Q:Bool->Hp->Prop}{R:Bool->Prop}(r:RepT K hd O H v t)(h:truD t R)(y:∀b,R b->Q b H):∃k,TruV K v H k/\Q k H:=by
 cases t with
 | none=>exact⟨false,by rw[r.nonI];rfl,y _ h⟩
 | bool b=>exact⟨b,by rw[r.blI];rfl,y _ h⟩
 | int i=>exact⟨decide (i≠0),by rw[r.intI];show _=(i != 0);by_cases z:i=0 <;> simp[z],y _ h⟩
 | str x =>refine⟨decide (x.length≠0),by rw[r.strI];exact⟨h.1,by by_cases z:x.length=0 <;> simp[z]⟩,y _ h.2⟩
 | list ts =>obtain⟨p,I,e,G,C⟩:=r.lstI;subst e;refine⟨!ts.isEmpty,.inl ⟨I,.of G,?_⟩,y _ h⟩;cases C <;> rfl
 | tuple ts =>obtain⟨p,I,e,G,C⟩:=r.tupI;subst e;refine⟨!ts.isEmpty,.inr (.inl ⟨I,G,?_⟩),y _ h⟩;cases C <;> rfl
 | dict _=>exact h.elim
theorem J9(l:DL X a da)(he:∀whole,isTrue a X.env whole=(do let v <- whole;standAt a.pos;holding [v] (truthy v)):=by intro _;rfl):DT X a (dTru da):=by obtain⟨L,pa,l⟩:=l;refine⟨_,zm9 pa he,fun C J σ H n Q R S h o=>?_⟩;refine l C J σ H n _ _ S h fun t G v H' r I y q=>?_;exact zqG q r fun b x=>o b G H' x I y
def dAnd(t u:DTT):DTT:=fun o n R=>t o n fun b l=>if b=true then u o l R else R false l
def dOr(t u:DTT):DTT:=fun o n R=>t o n fun b l=>if b=true then R true l else u o l R
def dNot(t:DTT):DTT:=fun o n R=>t o n fun b l=>R (!b) l
theorem Qu(h:DW X a t):DT X a t:=by obtain⟨l,pa,h⟩:=h;exact⟨_,pa.pt,h⟩
theorem UX(h:DT X a t):DW X (.BoolOp .And [a] pos) t:=by obtain⟨v,pa,h⟩:=h;exact⟨_,zo0 pa,h⟩
theorem YE(h:DT X a t):DW X (.BoolOp .Or [a] pos) t:=by obtain⟨v,pa,h⟩:=h;exact⟨_,zra pa,h⟩
theorem UU(h:DT X a t)(h':DW X (.BoolOp .And (b::rest) pos) u):DW X (.BoolOp .And (a::b::rest) pos) (dAnd t u):=by
 obtain⟨Z,pa,h⟩:=h;obtain⟨tb,N,h'⟩:=h';refine⟨_,zrb pa N,fun C I σ H n Q R S hd x=>?_⟩;refine h C I σ H n _ _ S hd fun b J y r v G=>?_;cases b with
 | true=>exact iteT (h' C I σ y J Q R (S.on v G) (by simpa using r) fun b Y L r e2 U=>x b Y L r (v.trans e2) U)
 | false=>exact iteF (x _ J y (by simpa using r) v G)
theorem Q1(h:DT X a t)(h':DW X (.BoolOp .Or (b::rest) pos) u):DW X (.BoolOp .Or (a::b::rest) pos) (dOr t u):=by
 obtain⟨Z,pa,h⟩:=h;obtain⟨tb,N,h'⟩:=h';refine⟨_,zuF pa N,fun C I σ H n Q R S hd x=>?_⟩;refine h C I σ H n _ _ S hd fun b J y r v G=>?_;cases b with
 | false=>exact iteF (h' C I σ y J Q R (S.on v G) (by simpa using r) fun b Y L r e2 U=>x b Y L r (v.trans e2) U)
 | true=>exact iteT (x _ J y (by simpa using r) v G)
theorem QR(h:DT X a t):DT X (.UnaryOp .Not a pos) (dNot t):=by obtain⟨L,pa,h⟩:=h;refine⟨_,zrc pa,fun C I σ H n Q R S hd l=>?_⟩;exact h C I σ H n _ _ S hd fun b J v r G x=>l _ J v r G x
def bolD:ab->(Bool->Prop)->Prop
 | .bool b,R=>R b
 | _,_=>False
def zqf(da db:DTE):DTE:=fun x n R=>da x n fun t v=>bolD t fun b=>if b=true then db x v R else R (.bool false) v
def dOrV(da db:DTE):DTE:=fun x n R=>da x n fun t v=>bolD t fun b=>if b=true then R (.bool true) v else db x v R
theorem YW{op}(h:DE X a d):DE X (.BoolOp op [a] pos) d:=by obtain⟨v,pa,h⟩:=h;exact⟨_,zrm pa,h⟩
theorem zh2(h:DE X a da)(h':DE X (.BoolOp .And (b::rest) pos) db):DE X (.BoolOp .And (a::b::rest) pos) (zqf da db):=by
 obtain⟨ta,pa,h⟩:=h;obtain⟨tb,U,h'⟩:=h';refine⟨_,zrs pa U,fun C J σ H n Q R S hd y=>?_⟩;refine h C J σ H n _ _ S hd fun t L v G r x I q1=>?_;cases t with
 | bool b =>
  cases q1;refine⟨b,rfl,?_⟩;cases b with
  | true=>exact iteT (h' C J σ G L Q R (S.on x I) (by simpa[bolD] using r) fun t Z v N r e2 Y q2=>y t Z v N r (x.trans e2) Y q2)
  | false=>exact iteF (y _ L _ G (by simpa[bolD] using r) x I (.bl _))
 | _=>exact r.elim
theorem zoA(h:DE X a da)(h':DE X (.BoolOp .Or (b::rest) pos) db):DE X (.BoolOp .Or (a::b::rest) pos) (dOrV da db):=by
 obtain⟨ta,pa,h⟩:=h;obtain⟨tb,U,h'⟩:=h';refine⟨_,zuI pa U,fun C J σ H n Q R S hd y=>?_⟩;refine h C J σ H n _ _ S hd fun t L v G r x I q1=>?_;cases t with
 | bool b =>
  cases q1;refine⟨b,rfl,?_⟩;cases b with
  | false=>exact iteF (h' C J σ G L Q R (S.on x I) (by simpa[bolD] using r) fun t Z v N r e2 Y q2=>y t Z v N r (x.trans e2) Y q2)
  | true=>exact iteT (y _ L _ G (by simpa[bolD] using r) x I (.bl _))
 | _=>exact r.elim
def dIfE(t:DTT)(da db:DTE):DTE:=fun l n R=>t l n fun b o=>if b=true then da l o R else db l o R
theorem zfS(hc:DT X c t)(h:DE X a da)(h':DE X b db):DE X (.IfExp c a b pos) (dIfE t da db):=by
 obtain⟨tc,pc,hc⟩:=hc;obtain⟨ta,pa,h⟩:=h;obtain⟨tb,pb,h'⟩:=h';refine⟨_,zng pc pa pb,fun C L σ H n Q R S hd N=>?_⟩;refine hc C L σ H n _ _ S hd fun b Z U r l Y=>?_;cases b with
 | true=>exact iteT (h C L σ U Z Q R (S.on l Y) (by simpa using r) fun t G v o r e2 y J=>N t G v o r (l.trans e2) y J)
 | false=>exact iteF (h' C L σ U Z Q R (S.on l Y) (by simpa using r) fun t G v o r e2 y J=>N t G v o r (l.trans e2) y J)
def dNil:DTA:=fun _ n R=>R [] n
def Qf(d:DTE)(ds:DTA):DTA:=fun l n R=>d l n fun t o=>ds l o fun ts v=>R (t::ts) v
theorem Ja:DB X [] dNil:=⟨_,Qk,fun C v σ H n Q R S h o=>o [] n [] H h ExtE.refl S.hnd .nil rfl⟩
theorem zme(h:DE X e d)(l:DB X es ds)(L:starEach (e::es) X.env=(false,eval e X.env)::starEach es X.env):DB X (e::es) (Qf d ds):=by obtain⟨ta,pa,h⟩:=h;obtain⟨tb,I,l⟩:=l;refine⟨_,JY pa I L,fun C y σ H n Q R S hd J=>?_⟩;refine h C y σ H n _ _ S hd fun t n1 v Y r x h1 q1=>?_;refine l C y σ Y n1 _ _ (S.on x h1) r fun ts U vs G Z e2 N q2 l2=>?_;exact J _ U _ G Z (x.trans e2) N (.cons (e2.rep S.hx q1) q2) (by simp[l2])
def U8(K:qF)(hd:Option af)(O:af->Prop)(H:Hp):List V->List ab->Prop:=bP (RepT K hd O H)
def DBL(X:Cx)(es:List aQ)(d:DTA):Prop:=∃v,PB X es v/\∀(C:Ctx) (l:En) (σ:St) (H:Hp) (n:Nat) (Q:List V->Hp->Prop) (R:List ab->Nat->Prop),Stt X.K C l σ H n->d l n R ->
 (∀ts x o H',R ts x->ExtE C.hd H H'->Hn X.K C.hd H' x->U8 X.K C.hd (Own C l σ) H' o ts->ts.length=es.length->Q o H')->v σ H Q
theorem Jt:DBL X [] dNil:=⟨_,Qk,fun C v σ H n Q R S h o=>o [] n [] H h ExtE.refl S.hnd .nil rfl⟩
theorem Ji(h:DL X e d)(l:DBL X es ds)(L:starEach (e::es) X.env=(false,eval e X.env)::starEach es X.env):DBL X (e::es) (Qf d ds):=by obtain⟨ta,pa,h⟩:=h;obtain⟨tb,I,l⟩:=l;refine⟨_,JY pa I L,fun C y σ H n Q R S hd J=>?_⟩;refine h C y σ H n _ _ S hd fun t n1 v Y r x h1 q1=>?_;refine l C y σ Y n1 _ _ (S.on x h1) r fun ts U vs G Z e2 N q2 l2=>?_;exact J _ U _ G Z (x.trans e2) N (.cons (e2.repT S.hx q1) q2) (by simp[l2])
def dTup(ds:DTA):DTE:=fun o n R=>ds o n fun ts v=>R (.tuple ts) v
theorem Jx(h:DB X es ds)(J:es.length<=sizeLine:=by decide):DE X (.Tuple es x1 pos) (dTup ds):=by obtain⟨Y,pa,h⟩:=h;refine⟨_,zpd pa,fun C N σ H n Q R S hd G=>?_⟩;refine h C N σ H n _ _ S hd fun ts U vs Z r x v y I=>⟨by rw[y.length,I];exact J,fun p o=>?_⟩;have L:=S.on x v;exact G _ U _ _ r (x.trans (ExtE.new o)) (v.same (JL o)) (.newT (L.free o) o y)
theorem J8(h:DB X es ds)(Z:es.length<=sizeLine:=by decide):DN X (.List es pos) ds:=by
 obtain⟨ta,pa,h⟩:=h;refine⟨_,zkQ pa,fun C ρ σ H n Q R S hd U=>?_⟩;refine h C ρ σ H n _ _ S hd fun ts n1 N H1 r I G J Y=>⟨by rw[J.length,Y];exact Z,fun p l=>?_⟩;have S1:=S.on I G;have x:H p=none:=by
  cases z:H p with
  | none=>rfl
  | some o =>by_cases y:C.hd=some p;obtain⟨N,q⟩:=G.lst y;rw[l]at q;cases q;rw[I p o z y]at l;cases l
 refine U ts n1 p N _ r (I.trans (ExtE.new l)) (G.same (JL l)) x JB ?_;refine J.mono (fun b o v z=>z.elim id fun z=>?_) fun b o _ v=>JL l b o v;subst z;rw[l]at v;cases v
end
section
variable{X:Cx}{a b c e:aQ}{es rest:List aQ}{d da db dc:DTE}{ds:DTA}{pos p:Pos}{k:Nat}{x:Str}
abbrev GC:=List ab->(ab->Prop)->Prop
def YS(g:GC)(ds:DTA):DTE:=fun l n R=>ds l n fun ts o=>g ts fun z=>R z o
def GpC(X:Cx)(r:List V->Hp->VK->Prop)(g:GC):Prop:=∀(hd:Option af) (O:af->Prop) (H:Hp) (xs:List V) (ts:qD) (Q:VK) (R:ab->Prop),(∀p,O p->H p≠none)->U8 X.K hd O H xs ts->g ts R ->
 (∀z v H',R z->Same H H'->Rep X.K hd O H' v z->Q v H')->r xs H Q
theorem JN{id:String}{r:List V->Hp->VK->Prop}{g:GC}(hc:JQ X (.builtin id) r)(o:GpC X r g)(Z:X.mg x=none)(hv:bootBuiltins x=some (.builtin id))(h:DBL X (e::es) ds)(L:Gl X x:=by rfl)(Y:x ≠ "__name__":=by decide) (v:(x == ("__debug__":Str))=false:=by rfl) :
  DE X (.Call (.Name x p) (e::es) [] pos) (YS g ds):=by
 obtain⟨ta,pa,h⟩:=h;refine⟨_,UG hc Z hv pa L Y v,fun C I σ H n Q R S hd U=>?_⟩;refine h C I σ H n _ _ S hd fun ts n1 vs H1 r1 G y q1 _=>?_;have S1:=S.on G y;exact o C.hd (Own C I σ) H1 vs ts Q _ (fun p=>S1.dom) q1 r1 fun z u H' rz J rp=>U z n1 u H' rz (G.trans J.ext) (y.same J) rp
theorem Ul(hc:JQ X (.type T) r)(o:GpC X r g)(hm:X.mg x=none)(hv:bootBuiltins x=some (.type T))(h:DBL X (e::es) ds)(U:Gl X x:=by rfl)(Z:x ≠ "__name__":=by decide) (v:(x == ("__debug__":Str))=false:=by rfl) :
  DE X (.Call (.Name x p) (e::es) [] pos) (YS g ds):=by
 obtain⟨ta,pa,h⟩:=h;refine⟨_,ZH hc hm hv pa U Z v,fun C J σ H n Q R S hd Y=>?_⟩;refine h C J σ H n _ _ S hd fun ts n1 vs H1 r1 I G q1 _=>?_;have S1:=S.on I G;exact o C.hd (Own C J σ) H1 vs ts Q _ (fun p=>S1.dom) q1 r1 fun z u H' rz L rp=>Y z n1 u H' rz (I.trans L.ext) (G.same L) rp
theorem QK{K:qF}{hd:Option af}{O:af->Prop}{H:Hp}{xs:List V}{t:ab}(h:U8 K hd O H xs [t]):∃v,xs=[v]/\RepT K hd O H v t:=by
 cases h with
 | cons h r=>cases r;exact⟨_,rfl,h⟩
theorem zoc{K:qF}{hd:Option af}{O:af->Prop}{H:Hp}{xs:List V}{t u:ab}(h:U8 K hd O H xs [t,u]):∃v w,xs=[v,w]/\RepT K hd O H v t/\RepT K hd O H w u:=by
 cases h with
 | cons h r=>cases r with|cons l r=>cases r;exact⟨_,_,rfl,h,l⟩
def bLen:GC:=fun l R=>(∃ts,l=[.list ts]/\R (.int ts.length))\/(∃ts,l=[.tuple ts]/\R (.int ts.length))\/(∃x:Str,l=[.str x]/\x.length<=16777216/\R (.int x.length))\/∃ts,l=[.dict [(.none,.list ts)]]/\R (.int ts.length)
def rLen(K:qF):List V->Hp->VK->Prop:=fun xs H Q=>∃x n,xs=[x]/\LenV K x H n/\Q (.int n) H
theorem QB:GpC X (rLen X.K) bLen:=by
 intro hd O H xs ts Q R dom rs h y;rcases h with⟨ts,rfl,h⟩|⟨ts,rfl,h⟩|⟨x,rfl,h⟩|⟨ts,rfl,h⟩;obtain⟨v,rfl,r⟩:=QK rs;obtain⟨p,I,rfl,u,C⟩:=r.lstI;exact⟨_,_,rfl,.inl ⟨I,.of u,rfl⟩,by rw[C.length];exact y _ _ H h (Same.refl H) (.int _)⟩;obtain⟨v,rfl,r⟩:=QK rs;obtain⟨p,I,rfl,u,C⟩:=r.tupI;exact⟨_,_,rfl,.inr ⟨I,u,rfl⟩,by rw[C.length];exact y _ _ H h (Same.refl H) (.int _)⟩;obtain⟨v,rfl,r⟩:=QK rs;rw[r.strI];exact⟨_,_,rfl,⟨h.1,rfl⟩,y _ _ H h.2 (Same.refl H) (.int _)⟩;obtain⟨v,rfl,r⟩:=QK rs;have r:=r.rep (by intro _ z;cases z);generalize e:(oA [(l5,uV ts)])=t at r;cases r with
 | scr u o =>simp only[SCR,nD,ly,mS,nE,true_and,and_true]at e;subst e;exact⟨_,_,rfl,.inl ⟨_,.inl u,rfl⟩,by simpa using y _ _ H h (Same.refl H) (.int _)⟩
 | scrS u =>simp only[SCR,nD,ly,mS,nE,true_and,and_true]at e;subst e;exact⟨_,_,rfl,.inl ⟨_,u H,rfl⟩,by simpa using y _ _ H h (Same.refl H) (.int _)⟩
 | hand _=>simp[HAND]at e
 | exc _ _=>simp[EXC]at e
 | dct _ _=>cases e
 | dcK _ _ _ G=>cases e;exact(dict_noK G).elim
 | dcT _ _ _ G=>cases e;exact(dict_noT G).elim
 | _=>cases e
def bMin:GC
 | [.int i,.int j],R=>R (.int (if j<i then j else i))
 | _,_=>False
def bMax:GC
 | [.int i,.int j],R=>R (.int (if j > i then j else i))
 | _,_=>False
theorem Ur:GpC X (fun xs H Q=>∃i j,xs=[.int i,.int j]/\Q (.int (if j<i then j else i)) H) bMin:=by intro hd O H xs ts Q R dom rs h o;unfold bMin at h;split at h;obtain⟨v,w,rfl,l,u⟩:=zoc rs;rw[l.intI,u.intI];exact⟨_,_,rfl,o _ _ H h (Same.refl H) (.int _)⟩;exact h.elim
theorem zlO:GpC X (fun xs H Q=>∃i j,xs=[.int i,.int j]/\Q (.int (if j > i then j else i)) H) bMax:=by intro hd O H xs ts Q R dom rs h o;unfold bMax at h;split at h;obtain⟨v,w,rfl,l,u⟩:=zoc rs;rw[l.intI,u.intI];exact⟨_,_,rfl,o _ _ H h (Same.refl H) (.int _)⟩;exact h.elim
def bInt:GC
 | [.int i],R=>R (.int i)
 | [.bool k],R=>R (.int (if k then 1 else 0))
 | _,_=>False
theorem zoq:GpC X (fun xs H Q=>(∃i,xs=[.int i]/\Q (.int i) H)\/∃k,xs=[.bl k]/\Q (.int (if k then 1 else 0)) H) bInt:=by intro hd O H xs ts Q R dom rs h u;unfold bInt at h;split at h;obtain⟨v,rfl,o⟩:=QK rs;rw[o.intI];exact .inl ⟨_,rfl,u _ _ H h (Same.refl H) (.int _)⟩;obtain⟨v,rfl,o⟩:=QK rs;rw[o.blI];exact .inr ⟨_,rfl,u _ _ H h (Same.refl H) (.int _)⟩;exact h.elim
def bAll:GC
 | [.list ts],R=>∃bs:List Bool,ts=bs.map d7/\R (.bool (bs.all id))
 | _,_=>False
theorem zeR{K:qF}{hd:Option af}{O:af->Prop}{H:Hp}:∀{ns:List Bool}{l:List V},Reps K hd O H l (ns.map d7)->l=ns.map V.bl
 | [],_,h=>by cases h;rfl
 | n::ns,_,h=>by
  cases h with
  | cons h r=>rw[h.blI,zeR r];rfl
theorem zsJ:GpC X (fun xs H Q=>∃(a:af) (bs:List Bool),xs=[.ref a]/\SqL X.K H a (bs.map V.bl)/\Q (.bl (bs.all id)) H) bAll:=by intro hd O H xs ts Q R dom rs h y;unfold bAll at h;split at h;obtain⟨bs,rfl,h⟩:=h;obtain⟨v,rfl,G⟩:=QK rs;obtain⟨p,I,rfl,u,C⟩:=G.lstI;rw[zeR C]at u;exact⟨p,bs,rfl,.of u,y _ _ H h (Same.refl H) (.bl _)⟩;exact h.elim
def Yw:GC
 | [.list ts],R=>R (.tuple ts)
 | [.tuple ts],R=>R (.tuple ts)
 | _,_=>False
theorem Zg:GpC X (fun xs H Q=>∃p ys,xs=[.ref p]/\((SqL X.K H p ys/\∀l,H l=none->Q (.ref l) (upd H l (.tup ys)))\/(SqT X.K H p ys/\Q (.ref p) H))) Yw:=by intro hd O H xs ts Q R dom rs h J;unfold Yw at h;split at h;obtain⟨v,rfl,y⟩:=QK rs;obtain⟨p,I,rfl,C,L⟩:=y.lstI;refine⟨p,I,rfl,.inl ⟨.of C,fun l G=>?_⟩⟩;exact J _ _ _ h (JL G) (.newT (fun z=>dom l z G) G L);obtain⟨v,rfl,y⟩:=QK rs;obtain⟨p,I,rfl,C,L⟩:=y.tupI;exact⟨p,I,rfl,.inr ⟨C,J _ _ H h (Same.refl H) (y.rep (by intro _ z;cases z))⟩⟩;exact h.elim
def JW:ab->(List ab->Prop)->Prop
 | .list ts,R=>R ts
 | .tuple ts,R=>R ts
 | _,_=>False
def zh4(d:DTE):DTA:=fun o n R=>d o n fun t l=>JW t fun ts=>R ts l
theorem zl3(hm:X.mg "list" = none) (h:DL X e d) (hs:starEach [e] X.env=[(false,eval e X.env)]) (hg:Gl X "list":=by rfl):DN X (.Call (.Name "list" p) [e] [] pos) (zh4 d):=by
 obtain⟨ta,pa,h⟩:=h;refine⟨_,ZH zhc hm (by decide +kernel) (JY pa Qk hs) hg,fun C ρ σ H n Q R S hd hq=>?_⟩;refine h C ρ σ H n _ _ S hd fun t n1 v Y r1 e1 Z q1=>?_;have S1:=S.on e1 Z;have fin:∀p u ts,Reps X.K C.hd (Own C ρ σ) Y u ts->R ts n1->Y p=none->Q (.ref p) (upd Y p (.lst u)):=fun p u ts rp rr G=>by
  have L:H p=none:=by
   cases z:H p with
   | none=>rfl
   | some o =>by_cases y:C.hd=some p;obtain⟨u,q⟩:=Z.lst y;rw[G]at q;cases q;rw[e1 p o z y]at G;cases G
  refine hq ts n1 p u _ rr (e1.trans (ExtE.new G)) (Z.same (JL G)) L JB ?_;refine rp.mono (fun b o J z=>z.elim id fun z=>?_) fun b o _ J=>JL G b o J;subst z;rw[G]at J;cases J
 cases t with
 | list ts =>obtain⟨p,u,rfl,I,U⟩:=q1.lstI;exact⟨p,u,rfl,.inl (.of I),fun l hl=>fin l u ts U r1 hl⟩
 | tuple ts =>obtain⟨p,u,rfl,I,U⟩:=q1.tupI;exact⟨p,u,rfl,.inr I,fun l hl=>fin l u ts U r1 hl⟩
 | _=>exact r1.elim
def tyN:ab->Option String
 | .none=>some "NoneType"
 | .bool _=>some "bool"
 | .int _=>some "int"
 | .str _=>some "str"
 | .list _=>some "list"
 | .tuple _=>some "tuple"
 | .dict []=>some "dict"
 | .dict _=>none
def rIsi(K:qF):List V->Hp->VK->Prop:=fun xs H Q=>∃x hd O t T y b,xs=[x,.ty T]/\RepT K hd O H x t/\tyN t=some y/\kitB y T=some b/\Q (.bl b) H
theorem zmy:JQ X (.builtin "isinstance") (rIsi X.K):=by
 intro pins s σ H xs us Q I r h;obtain⟨x,hd,O,t,T,y,b,rfl,J,ty,e,q⟩:=h;cases r with
 | cons C S =>
  cases S with
  | cons N Y =>
   cases Y;cases(show _=aZ T from N);have fin:∀L,tyN t=some L->L=y:=fun L h=>au (h.symm.trans ty);have go:Ty H x y->wpAny (model X.prog X.w) X.A (call (.builtin "isinstance") [_,aZ T]) (EP X pins σ Q) X.xe s:=fun ty=>zlG I C ty.of ((UV X.K y T).trans e) fun tk=>⟨.bl b,H,I.tok tk,rfl,q⟩;rcases J with J|⟨a,Z,ds,rfl,rfl,G,R,_⟩|⟨a,zs,ep,ks,rfl,rfl,G,R,_⟩;cases J with
   | non=>cases ty;exact go .non
   | bl b=>cases ty;exact go (.bl b)
   | int i=>cases ty;exact go (.int i)
   | str i=>cases ty;exact go (.str i)
   | tup h o r=>cases ty;exact go (.tup h)
   | lst h o r=>cases ty;exact go (.lst h)
   | @dct a ep h o =>cases ty;cases(show _=aX a from C);obtain⟨⟨_,_,_,v,es,g1,g2,_⟩,_⟩:=I.hok a _ h;exact bC eI I.kIn ⟨v,g1,g2.1⟩ ((UV X.K "dict" T).trans e) (fun z=>nomatch z) fun tk=>⟨.bl b,H,I.tok tk,rfl,q⟩
   | @dcK a kvs ep ks ps h o r e' =>
    cases ps with
    | nil =>cases ty;cases(show _=aX a from C);obtain⟨⟨_,_,_,v,es,g1,g2,_⟩,_⟩:=I.hok a _ h;exact bC eI I.kIn ⟨v,g1,g2.1⟩ ((UV X.K "dict" T).trans e) (fun z=>nomatch z) fun tk=>⟨.bl b,H,I.tok tk,rfl,q⟩
    | cons _ _=>simp[tyN]at ty
   | @dcT a zs ep ks ps h o r e' =>
    cases ps with
    | nil =>cases ty;cases(show _=aX a from C);obtain⟨⟨_,_,_,v,es,g1,g2,_⟩,_⟩:=I.hok a _ h;exact bC eI I.kIn ⟨v,g1,g2.1⟩ ((UV X.K "dict" T).trans e) (fun z=>nomatch z) fun tk=>⟨.bl b,H,I.tok tk,rfl,q⟩
    | cons _ _=>simp[tyN]at ty
   | hand h=>simp[HAND,tyN]at ty
   | scr h o=>simp[SCR,tyN]at ty
   | scrS h=>simp[SCR,tyN]at ty
   | exc h o=>simp[EXC,tyN]at ty
   | @tupS a Z ds h r =>cases ty;cases(show _=aX a from C);obtain⟨o,its,n,U,hc,_⟩:=h;exact bC mX I.kIn ⟨o,I.kIn a o U,hc⟩ ((UV X.K "tuple" T).trans e) (fun z=>nomatch z) fun tk=>⟨.bl b,H,I.tok tk,rfl,q⟩
   cases ty;exact go (.lst G);cases ks with
   | nil =>cases ty;cases(show _=aX a from C);obtain⟨⟨_,_,_,v,es,g1,g2,_⟩,_⟩:=I.hok a _ G;exact bC eI I.kIn ⟨v,g1,g2.1⟩ ((UV X.K "dict" T).trans e) (fun z=>nomatch z) fun tk=>⟨.bl b,H,I.tok tk,rfl,q⟩
   | cons _ _=>simp[tyN,Jq]at ty
end
section
variable{X:Cx}{a b c e:aQ}{es rest:List aQ}{d da db dc:DTE}{ds:DTA}{pos p:Pos}{k:Nat}{x:Str}
theorem Reps.atI{K:qF}{hd:Option af}{O:af->Prop}{H:Hp}{vs ts}{i:Int}{t}(r:Reps K hd O H vs ts)(h:L2.atI ts i=some t):∃v,L2.atI vs i=some v/\Rep K hd O H v t:=by
 unfold L2.atI at h ⊢;rw[r.length];cases e:ixN ts.length i with
 | none=>rw[e]at h;cases h
 | some j =>rw[e]at h;have h:ts[j]?=some t:=h;exact r.get h
def oIx:G2
 | .list ts,.int i,R=>match atI ts i with|some t=>R t|none=>False
 | .tuple ts,.int i,R=>match atI ts i with|some t=>R t|none=>False
 | .str x,.int i,R=>x.length<=16777216/\match atI x.cps.toList i with|some c=>R (.str ⟨#[c]⟩)|none=>False
 | _,_,_=>False
theorem zvs:Gp2 X (rIx X.K) oIx:=by intro hd O H x y t u Q R dom C S h G;unfold oIx at h;split at h;rename_i ts i;obtain⟨p,U,rfl,L,J⟩:=C.lstI;split at h;rename_i t I;obtain⟨v,ev,N⟩:=J.atI I;exact .inl ⟨p,U,i,v,rfl,S.intI,.of L,ev,G _ _ H h (Same.refl H) N⟩;exact h.elim;rename_i ts i;obtain⟨p,U,rfl,L,J⟩:=C.tupI;split at h;rename_i t I;obtain⟨v,ev,N⟩:=J.atI I;exact .inr (.inl ⟨p,U,i,v,rfl,S.intI,L,ev,G _ _ H h (Same.refl H) N⟩);exact h.elim;rename_i z i;obtain⟨h0,h⟩:=h;split at h;rename_i c Y;exact .inr (.inr ⟨z,i,c,C.strI,S.intI,h0,Y,G _ _ H h (Same.refl H) (.str _)⟩);exact h.elim;exact h.elim
theorem Jm(o:DL X a da)(l:DL X b db)(U:zmM b:=by intro _ _;rfl):DE X (.Subscript a b pos) (dOp oIx da db):=by obtain⟨ta,pa,o⟩:=o;obtain⟨tb,L,l⟩:=l;refine⟨_,QZ zsf pa L U,fun C ρ σ H n Q R S h N=>?_⟩;refine two o l S h fun x y Y v w J r2 e G q1 q2=>?_;exact zvs C.hd (Own C ρ σ) J v w x y Q _ (fun p=>G.dom) q1 q2 r2 fun z u H' Z I rp=>N z Y u H' Z (e.trans I.ext) (G.hnd.same I) rp
def dNeg(d:DTE):DTE:=fun o n R=>d o n fun t l=>match t with|.int i=>R (.int (-i)) l|_=>False
theorem Vc(h:DE X a da):DE X (.UnaryOp .USub a pos) (dNeg da):=by
 obtain⟨Y,pa,h⟩:=h;refine⟨_,zuG zqC pa,fun C J σ H n Q R S hd l=>?_⟩;refine h C J σ H n _ _ S hd fun t N v o r I G L=>?_;cases t with
 | int i=>rw[L.intI];exact⟨i,rfl,l _ N _ o r I G (.int _)⟩
 | _=>exact r.elim
def zq9(K:qF):R2:=fun x y H Q=>∃a b xs ys,x=.ref a/\y=.ref b/\SqT K H a xs/\SqT K H b ys/\xs.length+ys.length<=sizeLine /\
 (xs=[]->Q (.ref b) H)/\(ys=[]->Q (.ref a) H)/\∀p,H p=none->Q (.ref p) (upd H p (.tup (xs++ys)))
theorem zpl:OpR X (binaryOp .Add) (zq9 X.K):=by
 intro pins s σ H x y v u Q I N Y h;obtain⟨a,b,xs,ys,rfl,rfl,U,R,hz,q0,q1,q2⟩:=h;by_cases hx:xs=[];cases N;cases Y;obtain⟨its,r1,p1,_⟩:=I.tuple U;obtain⟨C,r2,p2,_⟩:=I.tuple R;have hv:its=[]:=r1.nil_iff.mpr hx;obtain⟨⟨cls,Z,data,sl⟩,L,hc,n,hd⟩:=id p1;obtain⟨⟨S,J,data2,G⟩,o,l,n2,hd2⟩:=id p2;simp only at hc hd l hd2;subst hc hd l hd2;exact nu ⟨_,L,rfl⟩ ⟨_,o,rfl⟩ iU mQ gz gn (fU _ _)
  (tuple_addW0 a b its.toArray C.toArray n n2 Z J sl G (by simp[hv])) ⟨L,o,⟨.ref b,H,I,rfl,q0 hx⟩⟩
 exact zpk pins s σ H _ _ v u Q I N Y ⟨a,b,xs,ys,rfl,rfl,U,R,hx,hz,q1,fun _=>q2⟩
def oAdd:G2
 | .int i,.int j,R=>R (.int (i+j))
 | .str i,.str j,R=>i.length+j.length<=16777216/\R (.str (i++j))
 | .tuple xs,.tuple ys,R=>xs.length+ys.length<=16777216/\R (.tuple (xs++ys))
 | _,_,_=>False
def zq_(K:qF):R2:=fun x y H Q=>(rI0 fun i j=>.int (i+j)) x y H Q\/(∃i j,x=.str i/\y=.str j/\i.length+j.length<=sizeLine/\Q (.str (i++j)) H)\/zq9 K x y H Q
theorem zpm:OpR X (binaryOp .Add) (zq_ X.K):=OpR.or QS (OpR.or zjx zpl)
theorem zsK:Gp2 X (zq_ X.K) oAdd:=by intro hd O H x y t u Q R dom v C h o;unfold oAdd at h;split at h;exact .inl ⟨_,_,v.intI,C.intI,o _ _ H h (Same.refl H) (.int _)⟩;exact .inr (.inl ⟨_,_,v.strI,C.strI,h.1,o _ _ H h.2 (Same.refl H) (.str _)⟩);rename_i xs ys;obtain⟨p,U,rfl,S,I⟩:=v.tupI;obtain⟨q,N,rfl,L,G⟩:=C.tupI;refine .inr (.inr ⟨p,q,U,N,rfl,rfl,S,L,by rw[I.length,G.length];exact h.1,fun e=>?_,fun e=>?_,fun l J=>?_⟩);subst e;cases I;exact o _ _ H h.2 (Same.refl H) (C.rep (by intro _ z;cases z));subst e;cases G;exact o _ _ H h.2 (Same.refl H) (by rw[bS];exact v.rep (by intro _ z;cases z));exact o _ _ _ h.2 (JL J) (.newT (fun z=>dom l z J) J (I.append G));exact h.elim
theorem JM(o:DL X a da)(l:DL X b db):DE X (.BinOp a .Add b pos) (dOp oAdd da db):=QH zpm zsK o l
theorem Uw{K:qF}{C:Ctx}{H u:Hp}{I:Nat}{p:af}(G:ExtE C.hd H u)(v:Hn K C.hd u I)(l:u p=none):H p=none:=by
 cases z:H p with
 | none=>rfl
 | some o =>by_cases y:C.hd=some p;obtain⟨J,q⟩:=v.lst y;rw[l]at q;cases q;rw[G p o z y]at l;cases l
theorem ziw{K:qF}{hd:Option af}{O:af->Prop}{H:Hp}{p:af}{o:HO}{vs ts}(u:H p=none)(r:Reps K hd O H vs ts):Reps K hd (fun a=>O a\/a=p) (upd H p o) vs ts:=by refine r.mono (fun b o l z=>z.elim id fun z=>?_) fun b o _ l=>JL u b o l;subst z;rw[u]at l;cases l
def oMul:=gI CMul fun i j=>i*j
theorem zmc(v:DL X a da)(o:DL X b db):DE X (.BinOp a .Mult b pos) (dOp oMul da db):=QH QT gp_I v o
abbrev GD:=List ab->Nat->(ab->Nat->Prop)->Prop
def spD(K:qF)(m:Nat)(g:GD):Sp:=fun o H Q _=>∃(hd:Option af) (O:af->Prop) (ts:qD) (n:Nat) (R:qN),Reps K hd O H o ts/\Hn K hd H n/\(∀a,O a->MutO (H a))/\(∀a,hd=some a->O a)/\ts.length=m/\g ts n R /\
 ∀t l v H',R t l->ExtE hd H H'->Hn K hd H' l->Rep K hd O H' v t->Q v H'
def dFn(g:GD)(ds:DTA):DTE:=fun l n R=>ds l n fun ts o=>g ts o R
theorem zvw{st:dE}{ps:List Str}{f:af}{fd:cH}{g:GD}{m:Nat}(D:Bd.Def X.K X.mg x st ps f fd)(G:FnOk X.prog X.w X.K X.mg X.base CX0 k f fd ps (spD X.K m g))(J:Room k X.A)(h:DB X (e::es) ds)(Y:(e::es).length=m:=by rfl)(L:Gl X x:=by rfl)
  (o:(x == ("__debug__":Str))=false:=by rfl):DE X (.Call (.Name x p) (e::es) [] pos) (dFn g ds):=by
 obtain⟨ta,pa,h⟩:=h;refine⟨_,Bd.znh D G J pa L o,fun C I σ H n Q R S hd U=>?_⟩;refine h C I σ H n _ _ S hd fun ts n1 vs H1 r1 y u q1 l1=>?_;have S1:=S.on y u;rw[bS];exact⟨C.hd,Own C I σ,ts,n1,R,q1,u,fun a=>S1.lst,fun a z=>.inl (S.hx a z),l1.trans Y,r1,fun t n' v H' rt e2 Z q2=>U t n' v H' rt (y.trans e2) Z q2⟩
def dFnL(g:GD)(ds:DTA):DTE:=fun o n R=>ds o n fun ts u=>g ts u fun t l=>JR t=true/\R t l
theorem zs6{st:dE}{ps:List Str}{f:af}{fd:cH}{g:GD}{m:Nat}(D:Bd.Def X.K X.mg x st ps f fd)(G:FnOk X.prog X.w X.K X.mg X.base CX0 k f fd ps (spD X.K m g))(hr:Room k X.A)(h:DBL X (e::es) ds)(hm:(e::es).length=m:=by rfl)(hg:Gl X x:=by rfl)
  (L:(x == ("__debug__":Str))=false:=by rfl):DE X (.Call (.Name x p) (e::es) [] pos) (dFnL g ds):=by
 obtain⟨ta,pa,h⟩:=h;refine⟨_,Bd.znh D G hr pa hg L,fun C ρ σ H n Q R S hd hq=>?_⟩;refine h C ρ σ H n _ _ S hd fun ts n1 u Z r1 e1 J q1 l1=>?_;have S1:=S.on e1 J;rw[bS];have lend:∀{u ts},U8 X.K C.hd (Own C ρ σ) Z u ts->Reps X.K C.hd (fun a=>C.hd=some a) Z u ts:=by
  intro u ts q;induction q with
  | nil=>exact .nil
  | cons r _ ih =>refine .cons ?_ ih;rcases r with r|⟨a,ws,us,rfl,rfl,y,I,U⟩|⟨a,zs,ep,ks,rfl,rfl,y,I,U⟩;exact r.mono (fun a o _ z=>.inl (S.hx a z)) fun _ _ _ z=>z;exact .lst y U (I.mono (fun a o _ z=>.inl (S.hx a z)) fun _ _ _ z=>z);exact .dcT y U (I.mono (fun a o _ z=>.inl (S.hx a z)) fun _ _ _ z=>z) rfl
 refine⟨C.hd,fun a=>C.hd=some a,ts,n1,_,lend q1,J,fun a z=>?_,fun a z=>z,l1.trans hm,r1,fun t n' v H' rt e2 Y q2=>?_⟩;obtain⟨u,q⟩:=J.lst z;exact .inl ⟨_,q⟩;exact hq t n' v H' rt.2 (e1.trans e2) Y (q2.up (fun a z=>(S1.on e2 Y).lst z) rt.1)
end
section
variable{X:Cx}{pins:qO}{σ:St}{H H':Hp}{s s':ak}{C e:af}
def Fly1(P:aO)(w:br)(l:List Env)(H H':Hp)(h:ba)(C e:af)(h':ba):Prop :=
 ∃B u,Heap.FlyingW B l e (.ref C) u h'/\H' e=none/\h.get? e=none/\∀o,B.StaysIn o->h'.UpToSlots o->Un (frs l) [] H H' h o/\HOk P w H' o
inductive FlyX (X:Cx)(C:af)(H':Hp)(e:af)(s':ak):Prop
 | made {E7:qO} {σ':St} {s h1} (I:Inv X E7 σ' H' s) (m:Heap.MadeExcOf s.heap h1 e (.ref C) []) (hs:s'={ s with heap:=h1 })
 | on {E7:qO} {σ':St} {H1:Hp} {s} (I:Inv X E7 σ' H1 s) (os:s'.os=s.os) (bare:hX s'.gens) (f:Fly1 X.prog X.w X.stack H1 H' s.heap C e s'.heap)
def XW(X:Cx)(C:af)(H':Hp):Prop:=∀e s',FlyX X C H' e s'->X.xe (.ref e) s'
end
def Keep(C:Ctx)(u:En)(σ:St)(H:Hp)(l:En)(σ':St)(H':Hp):Prop:=∀a o,H a=some o->C.hd≠some a->¬OwnS u σ a->H' a=some o/\¬OwnS l σ' a
structure JH where
 nx:En->Nat->Prop
 rt:ab->Nat->Prop
 bk:En->Nat->Prop:=fun _ _=>False
 ct:En->Nat->Prop:=fun _ _=>False
 xr:Str->Nat->Prop:=fun _ _=>False
abbrev DTS:=JH->En->Nat->Prop
def XN(X:Cx)(c:Str)(H':Hp):Prop:=∀C,X.mg c=some (.ref C)->XW X C H'
structure Good(X:Cx)(C:Ctx)(ρ:En)(σ:St)(H:Hp)(D:Ends)(D':JH):Prop where
 nx:∀ρ' σ' H' n',D'.nx ρ' n'->Stt X.K C ρ' σ' H' n'->Keep C ρ σ H ρ' σ' H'->D.nx σ' H'
 rt:∀t n' v H',D'.rt t n'->Hn X.K C.hd H' n'->(∀a o,H a=some o->C.hd≠some a->¬OwnS ρ σ a->H' a=some o)->Rep X.K C.hd C.ext H' v t->D.rt v H'
 bk:∀ρ' σ' H' n',D'.bk ρ' n'->Stt X.K C ρ' σ' H' n'->Keep C ρ σ H ρ' σ' H'->D.bk σ' H'
 ct:∀ρ' σ' H' n',D'.ct ρ' n'->Stt X.K C ρ' σ' H' n'->Keep C ρ σ H ρ' σ' H'->D.ct σ' H'
 xr:∀c n' H',D'.xr c n'->Hn X.K C.hd H' n'->(∀a o,H a=some o->C.hd≠some a->¬OwnS ρ σ a->H' a=some o)->XN X c H'
def DS(X:Cx)(st:dE)(d:DTS):Prop:=∃ts,PS X st ts/\∀(C:Ctx) (l:En) (σ:St) (H:Hp) (n:Nat) (D:Ends) (o:JH),Stt X.K C l σ H n->d o l n->Good X C l σ H D o->ts D σ H
def DSs(X:Cx)(st:List dE)(d:DTS):Prop:=∃ts,PSs X st ts/\∀(C:Ctx) (l:En) (σ:St) (H:Hp) (n:Nat) (D:Ends) (o:JH),Stt X.K C l σ H n->d o l n->Good X C l σ H D o->ts D σ H
section
variable{K:qF}{C:Ctx}{ρ ρ1 ρ2:En}{σ σ1 σ2:St}{H H1 H2:Hp}{n n1:Nat}{D:Ends}{D':JH}
theorem Keep.refl:Keep C ρ σ H ρ σ H:=fun _ _ h _ no=>⟨h,no⟩
theorem Keep.trans(y:Keep C ρ σ H ρ1 σ1 H1)(x:Keep C ρ1 σ1 H1 ρ2 σ2 H2):Keep C ρ σ H ρ2 σ2 H2:=fun a o h u no=>by obtain⟨v,l⟩:=y a o h u no;exact x a o v u l
theorem ExtE.keep(e:ExtE C.hd H H1):Keep C ρ σ H ρ σ H1:=fun a o h l no=>⟨e a o h l,no⟩
theorem Good.on{X:Cx}(g:Good X C ρ σ H D D')(k:Keep C ρ σ H ρ1 σ1 H1):Good X C ρ1 σ1 H1 D D' where
 nx:=fun l σ' H' u h S x=>g.nx l σ' H' u h S (k.trans x)
 rt:=fun t u v H' h I x r=>g.rt t u v H' h I (fun a o J G no=>by obtain⟨L,y⟩:=k a o J G no;exact x a o L G y) r
 bk:=fun l σ' H' u h S x=>g.bk l σ' H' u h S (k.trans x)
 ct:=fun l σ' H' u h S x=>g.ct l σ' H' u h S (k.trans x)
 xr:=fun c u H' h I x=>g.xr c u H' h I fun a o J G no=>by obtain⟨L,y⟩:=k a o J G no;exact x a o L G y
theorem Keep.rep(k:Keep C ρ σ H ρ1 σ1 H1)(hx:∀a,C.hd=some a->C.ext a){v t}(r:Rep K C.hd (Own C ρ σ) H v t):Rep K C.hd (Own C ρ1 σ1) H1 v t :=
 Rep.mono (O:=Own C ρ σ) (fun a o h z=>by by_cases q:Own C ρ σ a;exact q;rcases z with z|z;exact .inl z;exact absurd z (k a o h (fun y=>q (.inl (hx a y))) fun y=>q (.inr y)).2) (fun a o no h=>(k a o h (fun y=>no (.inl (hx a y))) fun y=>no (.inr y)).1) r
theorem Keep.reps(k:Keep C ρ σ H ρ1 σ1 H1)(hx:∀a,C.hd=some a->C.ext a){v t}(r:Reps K C.hd (Own C ρ σ) H v t):Reps K C.hd (Own C ρ1 σ1) H1 v t :=
 Reps.mono (O:=Own C ρ σ) (fun a o h z=>by by_cases q:Own C ρ σ a;exact q;rcases z with z|z;exact .inl z;exact absurd z (k a o h (fun y=>q (.inl (hx a y))) fun y=>q (.inr y)).2) (fun a o no h=>(k a o h (fun y=>no (.inl (hx a y))) fun y=>no (.inr y)).1) r
theorem Jy{α:Type}{l:List (Option α)}{i j:Nat}{v w:α}(h:(l.set i (some v))[j]?=some (some w)):(i=j/\v=w)\/(i≠j/\l[j]?=some (some w)):=by by_cases e:i=j;subst e;rw[gE]at h;simp only[↓reduceIte]at h;split at h;simp at h;exact .inl ⟨rfl,h⟩;cases h;rw[cR e]at h;exact .inr ⟨e,h⟩
theorem US{α:Type}{l:List (Option α)}{i j:Nat}{v w:α}(e:i≠j)(h:l[j]?=some (some w)):(l.set i (some v))[j]?=some (some w):=by rw[cR e];exact h
theorem zn9{α:Type}{l:List (Option α)}{i j:Nat}{v:α}{w:Option α}(h:(l.set i (some v))[j]?=some w)(e:i=j):i<l.length:=by subst e;rw[gE]at h;simp only[↓reduceIte]at h;split at h;assumption;cases h
theorem zkn{α:Type}{l:List (Option α)}{i:Nat}{v:α}(h:i<l.length):(l.set i (some v))[i]?=some (some v):=by rw[gE];simp[h]
theorem Zn{i:Nat}{t:ab}{v:V}{a:af}(h:OwnS (ρ.set i (some (.val t))) (σ.set i (some v)) a):OwnS ρ σ a:=by obtain⟨j,c,m,o,u⟩:=h;rcases Jy o with⟨_,z⟩|⟨e,o⟩;subst z;cases m;rcases Jy u with⟨z,_⟩|⟨_,u⟩;exact absurd z e;exact⟨j,c,m,o,u⟩
def Qx(K:qF)(hd:Option af)(O:af->Prop)(H:Hp)(a:af):Cell->Prop
 | .val _=>False
 | .rdo _=>False
 | .own ts=>∃x,H a=some (.lst x)/\Reps K hd O H x ts
 | .dct ks=>∃u,H a=some (.dK u)/\Ud K hd O H u ks
 | .dtt ks=>∃zs ep,H a=some (ZDO a zs ep)/\Jj K hd O H zs ks
theorem Qx.mono(x:Qx K hd O H a c)(y:∀a o,H a=some o->O' a->O a)(G:∀a o,¬O a->H a=some o->H' a=some o)(I:∀o,H a=some o->H' a=some o):Qx K hd O' H' a c:=by
 cases c with
 | val _=>exact x.elim
 | rdo _=>exact x.elim
 | own ts=>obtain⟨v,l,u⟩:=x;exact⟨v,I _ l,u.mono y G⟩
 | dct ks=>obtain⟨v,l,u⟩:=x;exact⟨v,I _ l,u.mono y G⟩
 | dtt ks=>obtain⟨v,ep,l,u⟩:=x;exact⟨v,ep,I _ l,u.mono y G⟩
theorem Qx.some(x:Qx K hd O H a c):∃o,H a=some o:=by
 cases c with
 | val _=>exact x.elim
 | rdo _=>exact x.elim
 | own ts=>obtain⟨v,l,u⟩:=x;exact⟨_,l⟩
 | dct ks=>obtain⟨v,l,u⟩:=x;exact⟨_,l⟩
 | dtt ks=>obtain⟨v,ep,l,u⟩:=x;exact⟨_,l⟩
theorem Qx.mine(x:Qx K hd O H a c):c.mine=true:=by
 cases c with
 | val _=>exact x.elim
 | rdo _=>exact x.elim
 | own ts=>rfl
 | dct ks=>rfl
 | dtt ks=>rfl
theorem Stt.cell(S:Stt K C ρ σ H n){i:Nat}{c:Cell}(m:c.mine=true)(h:ρ[i]?=some (some c)):∃a:af,σ[i]?=some (some (V.ref a))/\Qx K C.hd (Own C ρ σ) H a c/\¬C.ext a:=by
 cases c with
 | val _=>cases m
 | rdo _=>cases m
 | own ts=>obtain⟨a,x,l,u,v,o⟩:=S.own i ts h;exact⟨a,l,⟨x,u,v⟩,o⟩
 | dct ks=>obtain⟨a,x,l,u,v,o⟩:=S.dct i ks h;exact⟨a,l,⟨x,u,v⟩,o⟩
 | dtt ks=>obtain⟨a,x,ep,l,u,v,o⟩:=S.dtt i ks h;exact⟨a,l,⟨x,ep,u,v⟩,o⟩
def zqr(K:qF)(C:Ctx)(ρ:En)(σ:St)(H:Hp):Prop:=∀(i:Nat) (ks:List (Key×ab)),ρ[i]?=some (some (Cell.rdo ks))->∃a l,σ[i]?=some (some (V.ref a))/\H a=some (.dK l)/\Ud K C.hd (Own C ρ σ) H l ks/\C.ext a/\C.hd≠some a
theorem Stt.mk'(len:ρ.length=σ.length)(val:∀(i:Nat) (d:ab),ρ[i]?=some (some (Cell.val d))->∃v,σ[i]?=some (some v)/\Rep K C.hd (Own C ρ σ) H v d)
  (cell:∀(i:Nat) (c:Cell),c.mine=true->ρ[i]?=some (some c)->∃a:af,σ[i]?=some (some (V.ref a))/\Qx K C.hd (Own C ρ σ) H a c/\¬C.ext a)
  (rdo:zqr K C ρ σ H) (dif:∀(i j:Nat) (c e:Cell) (a:af),c.mine=true->e.mine=true->ρ[i]?=some (some c)->ρ[j]?=some (some e)->σ[i]?=some (some (V.ref a))->σ[j]?=some (some (V.ref a))->i=j)
  (hnd:Hn K C.hd H n) (ext:∀a,C.ext a->MutO (H a)) (hx:∀a,C.hd=some a->C.ext a):Stt K C ρ σ H n where
 len:=len
 val:=val
 own:=fun i ts h=>by obtain⟨a,x,⟨y,u,l⟩,o⟩:=cell i _ rfl h;exact⟨a,y,x,u,l,o⟩
 dct:=fun i ts h=>by obtain⟨a,x,⟨y,u,l⟩,o⟩:=cell i _ rfl h;exact⟨a,y,x,u,l,o⟩
 rdo:=rdo
 dtt:=fun i ts h=>by obtain⟨a,x,⟨y,ep,u,l⟩,o⟩:=cell i _ rfl h;exact⟨a,y,ep,x,u,l,o⟩
 dif:=dif
 hnd:=hnd
 ext:=ext
 hx:=hx
theorem Stt.put(S:Stt K C ρ σ H n){i:Nat}{t:ab}{v:V}(r:Rep K C.hd (Own C ρ σ) H v t):Stt K C (ρ.set i (some (.val t))) (σ.set i (some v)) H n:=by
 have sub:∀a o,H a=some o->Own C (ρ.set i (some (.val t))) (σ.set i (some v)) a->Own C ρ σ a:=fun a o _ z=>z.elim .inl fun z=>.inr (Zn z);have mono:∀{w u},Rep K C.hd (Own C ρ σ) H w u->Rep K C.hd (Own C (ρ.set i (some (.val t))) (σ.set i (some v))) H w u:=fun q=>q.mono sub fun _ _ _ z=>z;refine .mk' (by simp[S.len]) (fun j d h=>?_) (fun j c m h=>?_) (fun j ks h=>?_) (fun j k c e a Y U y x J Z=>?_) S.hnd S.ext S.hx
 rotate_left 2
 rcases Jy h with⟨_,z⟩|⟨e,h'⟩;cases z;obtain⟨a,I,q1,q2,q3,q4⟩:=S.rdo j ks h';exact⟨a,I,US e q1,q2,q3.mono sub fun _ _ _ z=>z,q4⟩
 rotate_left 1
 rcases Jy h with⟨e,z⟩|⟨e,h'⟩;cases z;have:=zn9 h e;subst e;exact⟨v,zkn (by rw[<- S.len];exact this),mono r⟩;obtain⟨w,y,x⟩:=S.val j d h';exact⟨w,US e y,mono x⟩;rcases Jy h with⟨e,z⟩|⟨e,h'⟩;subst z;cases m;obtain⟨a,y,x,J⟩:=S.cell m h';exact⟨a,US e y,x.mono sub (fun _ _ _ z=>z) fun _ z=>z,J⟩;rcases Jy y with⟨e,z⟩|⟨e,L⟩;subst z;cases Y;rcases Jy x with⟨e2,z⟩|⟨e2,N⟩;subst z;cases U;rcases Jy J with⟨z,_⟩|⟨_,R⟩;exact absurd z e;rcases Jy Z with⟨z,_⟩|⟨_,G⟩;exact absurd z e2;exact S.dif j k c _ a Y U L N R G
theorem UD:Keep C ρ σ H (ρ.set i (some (.val t))) (σ.set i (some v)) H:=fun a o h _ no=>⟨h,fun z=>no (Zn z)⟩
theorem ziC{i:Nat}{c:Cell}{p a:af}(h:OwnS (ρ.set i (some c)) (σ.set i (some (.ref p))) a):OwnS ρ σ a\/a=p:=by obtain⟨j,ds,m,o,u⟩:=h;rcases Jy u with⟨e,z⟩|⟨e,u⟩;cases z;exact .inr rfl;rcases Jy o with⟨z,_⟩|⟨_,o⟩;exact absurd z e;exact .inl ⟨j,ds,m,o,u⟩
theorem Stt.putNew(S:Stt K C ρ σ H n){i:Nat}{c:Cell}{p:af}{H':Hp}(e:ExtE C.hd H H')(h:Hn K C.hd H' n1)(Z:H p=none)(r:Qx K C.hd (fun a=>Own C ρ σ a\/a=p) H' p c) :
  Stt K C (ρ.set i (some c)) (σ.set i (some (.ref p))) H' n1:=by
 have S':=S.on e h;have mc:=r.mine;have sub:∀a,Own C (ρ.set i (some c)) (σ.set i (some (.ref p))) a->Own C ρ σ a\/a=p:=fun a z=>z.elim (fun z=>.inl (.inl z)) fun z=>(ziC z).elim (fun z=>.inl (.inr z)) .inr;have npx:¬C.ext p:=fun z=>S.dom (.inl z) Z;have sb:∀a o,H a=some o->Own C (ρ.set i (some c)) (σ.set i (some (.ref p))) a->Own C ρ σ a:=fun a o I z=>(sub a z).elim id fun z=>by subst z;rw[Z]at I;cases I
 have kp:∀a o,¬Own C ρ σ a->H a=some o->H' a=some o:=fun a o no I=>e a o I fun z=>no (.inl (S.hx a z));have Iv:∀(j:Nat) (d:Cell),d.mine=true->ρ[j]?=some (some d)->σ[j]?≠some (some (V.ref p)):=fun j d m G u=>by obtain⟨a,e1,e2,_⟩:=S.cell m G;rw[u]at e1;cases e1;obtain⟨o,e2⟩:=e2.some;rw[Z]at e2;cases e2
 refine .mk' (by simp[S.len]) (fun j d L=>?_) (fun j d m L=>?_) (fun j ks L=>?_) (fun j k c1 c2 a m1 m2 G u h3 N=>?_) h S'.ext S.hx
 rotate_left 2
 rcases Jy L with⟨_,z⟩|⟨v,h'⟩;subst z;cases mc;obtain⟨a,Y,q1,q2,q3,q4,q5⟩:=S.rdo j ks h';exact⟨a,Y,US v q1,e a _ q2 q5,q3.mono sb kp,q4,q5⟩
 rotate_left 1
 rcases Jy L with⟨_,z⟩|⟨v,h'⟩;subst z;cases mc;obtain⟨w,G,u⟩:=S.val j d h';exact⟨w,US v G,u.mono sb kp⟩;rcases Jy L with⟨v,z⟩|⟨v,h'⟩;subst z;have:=zn9 L v;subst v;exact⟨p,zkn (by rw[<- S.len];exact this),r.mono (fun a o _ z=>sub a z) (fun _ _ _ z=>z) fun _ z=>z,npx⟩;obtain⟨a,G,u,N⟩:=S.cell m h';exact⟨a,US v G,u.mono sb kp (fun o I=>e a o I fun z=>N (S.hx a z)),N⟩;rcases Jy h3 with⟨e3,z3⟩|⟨e3,U⟩;cases z3;rcases Jy N with⟨J,_⟩|⟨J,x⟩;rw[<- e3,<- J];rcases Jy u with⟨z,_⟩|⟨_,y⟩;exact absurd z J;exact absurd x (Iv k _ m2 y);rcases Jy G with⟨z,_⟩|⟨_,R⟩;exact absurd z e3;rcases Jy N with⟨J,z4⟩|⟨J,x⟩;cases z4;exact absurd U (Iv j _ m1 R);rcases Jy u with⟨z,_⟩|⟨_,y⟩;exact absurd z J;exact S.dif j k _ _ a m1 m2 R y U x
theorem Stt.putOwn(S:Stt K C ρ σ H n)(e:ExtE C.hd H H')(h:Hn K C.hd H' n1)(v:H p=none)(u:H' p=some (.lst vs))(r:Reps K C.hd (fun a=>Own C ρ σ a\/a=p) H' vs ts) :
  Stt K C (ρ.set i (some (.own ts))) (σ.set i (some (.ref p))) H' n1:=S.putNew e h v ⟨vs,u,r⟩
theorem zct(e:ExtE C.hd H H')(u:H p=none):Keep C ρ σ H (ρ.set i (some c)) (σ.set i (some (.ref p))) H':=fun a o h v no =>
 ⟨e a o h v,fun z=>(ziC z).elim no fun z=>by subst z;rw[u]at h;cases h⟩
theorem zhU(e:ExtE C.hd H H')(l:H p=none):Keep C ρ σ H (ρ.set i (some (.own ts))) (σ.set i (some (.ref p))) H':=zct e l
theorem Stt.chgC(S:Stt K C ρ σ H n){i:Nat}{c c':Cell}{p:af}{N:HO}(m:c.mine=true)(m':c'.mine=true)(U:ρ[i]?=some (some c))(I:σ[i]?=some (some (.ref p)))
  (r:∀(O':af->Prop) (H':Hp),(∀a o,H a=some o->O' a->Own C ρ σ a)->(∀a o,¬Own C ρ σ a->H a=some o->H' a=some o)->H' p=some N->Qx K C.hd O' H' p c') :
  Stt K C (ρ.set i (some c')) σ (upd H p N) n/\Keep C ρ σ H (ρ.set i (some c')) σ (upd H p N):=by
 have op:OwnS ρ σ p:=⟨i,c,m,U,I⟩;obtain⟨p',e1,hp,x⟩:=S.cell m U;rw[I]at e1;cases e1;have Ic:∀a,OwnS (ρ.set i (some c')) σ a->OwnS ρ σ a:=fun a ⟨j,d,G,u,v⟩=>by rcases Jy u with⟨e,_⟩|⟨e,u⟩;subst e;rw[I]at v;cases v;exact op;exact⟨j,d,G,u,v⟩
 have sub:∀a o,H a=some o->Own C (ρ.set i (some c')) σ a->Own C ρ σ a:=fun a o _ z=>z.elim .inl fun z=>.inr (Ic a z);have kp:∀a o,¬Own C ρ σ a->H a=some o->upd H p N a=some o:=fun a o no Y=>by rw[Jg (show a≠p from fun z=>no (by rw[z];exact .inr op))];exact Y
 have rd:zqr K C (ρ.set i (some c')) σ (upd H p N):=fun j ks J=>by rcases Jy J with⟨_,z⟩|⟨R,h'⟩;subst z;cases m';obtain⟨a,Z,u,v,q3,y,q5⟩:=S.rdo j ks h';exact⟨a,Z,u,by rw[Jg (show a≠p from fun z=>x (by rw[<- z];exact y))];exact v,q3.mono sub kp,y,q5⟩
 refine⟨.mk' (by simp[S.len]) (fun j d J=>?_) (fun j d G J=>?_) rd (fun j k c1 c2 a m1 m2 u v q3 y=>?_) (fun a L=>?_) (fun a L=>?_) S.hx,fun a o h nh no=>⟨by rw[Jg (show a≠p from fun z=>no (by rw[z];exact op))];exact h,fun z=>no (Ic a z)⟩⟩;rcases Jy J with⟨_,z⟩|⟨R,h'⟩;subst z;cases m';obtain⟨w,u,v⟩:=S.val j d h';exact⟨w,u,v.mono sub kp⟩;rcases Jy J with⟨R,z⟩|⟨R,h'⟩;subst z;subst R;exact⟨p,I,r _ _ sub kp JB,x⟩;obtain⟨a,u,v,y⟩:=S.cell G h';have:a≠p:=fun z=>by subst z;exact R (S.dif i j c d a m G U h' I u)
 exact⟨a,u,v.mono sub kp (fun o Y=>by rw[Jg this];exact Y),y⟩;have get:∀(j:Nat) (d:Cell),d.mine=true->(ρ.set i (some c'))[j]?=some (some d)->∃d':Cell,d'.mine=true/\ρ[j]?=some (some d'):=fun j d G q=>by rcases Jy q with⟨e,_⟩|⟨_,q⟩;subst e;exact⟨_,m,U⟩;exact⟨_,G,q⟩
 obtain⟨d1,md1,g1⟩:=get j c1 m1 u;obtain⟨d2,md2,g2⟩:=get k c2 m2 v;exact S.dif j k d1 d2 a md1 md2 g1 g2 q3 y;have ne:a≠p:=fun z=>x (by rw[<- z];exact S.hx a L);rcases S.hnd a L with⟨⟨d,m,t,q,rest⟩,l⟩|⟨l,q⟩;exact .inl ⟨⟨d,m,t,by rw[Jg ne];exact q,rest⟩,l⟩;exact .inr ⟨l,q.upd ne (S.lst (.inr op))⟩;by_cases z:a=p;subst z;exact absurd L x;rw[Jg z];exact S.ext a L
theorem Stt.chg(S:Stt K C ρ σ H n)(u:ρ[i]?=some (some (.own ts)))(v:σ[i]?=some (some (.ref p)))(r:Reps K C.hd (Own C ρ σ) H ws us) :
  Stt K C (ρ.set i (some (.own us))) σ (upd H p (.lst ws)) n/\Keep C ρ σ H (ρ.set i (some (.own us))) σ (upd H p (.lst ws)):=S.chgC rfl rfl u v fun _ _ a b x=>⟨ws,x,r.mono a b⟩
theorem Stt.freeze(S:Stt K C ρ σ H n){i:Nat}{ts:qD}(Z:ρ[i]?=some (some (.own ts))):Stt K C (ρ.set i (some (.val (.list ts)))) σ H n/\Keep C ρ σ H (ρ.set i (some (.val (.list ts)))) σ H:=by
 obtain⟨p,vs,U,hp,hr,R⟩:=S.own i ts Z;have L:∀a,OwnS (ρ.set i (some (.val (.list ts)))) σ a->OwnS ρ σ a/\a≠p:=fun a ⟨j,ds,m,u,x⟩=>by rcases Jy u with⟨_,z⟩|⟨e,u⟩;subst z;cases m;exact⟨⟨j,ds,m,u,x⟩,fun z=>by subst z;exact e (S.dif i j (.own ts) ds a rfl m Z u U x)⟩
 have sub:∀a o,H a=some o->Own C (ρ.set i (some (.val (.list ts)))) σ a->Own C ρ σ a:=fun a o _ z=>z.elim .inl fun z=>.inr (L a z).1;have rd:zqr K C (ρ.set i (some (.val (.list ts)))) σ H:=fun j ks G=>by rcases Jy G with⟨_,z⟩|⟨J,h'⟩;cases z;obtain⟨a,N,u,x,I,y⟩:=S.rdo j ks h';exact⟨a,N,u,x,I.mono sub fun _ _ _ z=>z,y⟩
 refine⟨.mk' (by simp[S.len]) (fun j d G=>?_) (fun j d m G=>?_) rd (fun j k c1 c2 a m1 Y u x I y=>?_) S.hnd S.ext S.hx,fun a o h _ no=>⟨h,fun z=>no (L a z).1⟩⟩;rcases Jy G with⟨J,z⟩|⟨J,h'⟩;cases z;subst J;exact⟨.ref p,U,.lst hp (fun z=>z.elim R fun z=>(L p z).2 rfl) (hr.mono sub fun _ _ _ z=>z)⟩;obtain⟨w,u,x⟩:=S.val j d h';exact⟨w,u,x.mono sub fun _ _ _ z=>z⟩;rcases Jy G with⟨_,z⟩|⟨J,h'⟩;subst z;cases m;obtain⟨a,u,I,y⟩:=S.cell m h';exact⟨a,u,I.mono sub (fun _ _ _ z=>z) fun _ z=>z,y⟩;rcases Jy u with⟨_,z⟩|⟨_,g1⟩;subst z;cases m1;rcases Jy x with⟨_,z⟩|⟨_,g2⟩;subst z;cases Y;exact S.dif j k _ _ a m1 Y g1 g2 I y
end
section
variable{X:Cx}{a b c e:aQ}{es rest:List aQ}{d da db dc:DTE}{ds:DTA}{dt:DTT}{t u:DTS}{st:dE}{sts sa sb:List dE}{pos p:Pos}{k:Nat}{x:Str}
def zoO:DTS:=fun D l n=>D.nx l n
def sSeq(t u:DTS):DTS:=fun D l n=>t { D with nx:=u D } l n
theorem JK:DSs X [] zoO:=⟨_,zhE,fun C l σ H n D o S h g=>g.nx l σ H n h S Keep.refl⟩
theorem Jb(v:DS X st t)(l:DSs X sts u):DSs X (st::sts) (sSeq t u):=by obtain⟨R,pa,v⟩:=v;obtain⟨U,y,l⟩:=l;refine⟨_,Qo pa y,fun C N σ H n D L S h g=>?_⟩;exact v C N σ H n _ _ S h ⟨fun o σ' H' J G I k=>l C o σ' H' J D L I G (g.on k),g.rt,g.bk,g.ct,g.xr⟩
theorem Jc(l:DS X st t):DSs X [st] t:=by obtain⟨o,pa,l⟩:=l;exact⟨_,Zc pa,l⟩
def Y7(i:Nat)(t:DTS):DTS:=fun D y n=>match y[i]? with|some (some (.own ts))=>t D (y.set i (some (.val (.list ts)))) n|_=>False
theorem QE(i:Nat)(l:DSs X sts t):DSs X sts (Y7 i t):=by obtain⟨G,pa,l⟩:=l;refine⟨_,pa,fun C I σ H n D y S h g=>?_⟩;unfold Y7 at h;split at h;rename_i ts v;obtain⟨o,kp⟩:=S.freeze v;exact l C _ σ H n D y o h (g.on kp);exact h.elim
def sRet(d:DTE):DTS:=fun D o n=>d o n fun t l=>D.rt t l
theorem Jh(h:DE X e d):DS X (.Return (some e) pos) (sRet d):=by obtain⟨U,pa,h⟩:=h;refine⟨_,YB pa,fun C N σ H n D Y S hd g=>?_⟩;refine h C N σ H n _ _ S hd fun t I v H' r L G q=>?_;exact g.rt t I v H' r G (fun a o y J _=>L a o y J) (q.mono (fun _ _ _ z=>.inl z) fun _ _ _ z=>z)
def sIf(c:DTT)(t u:DTS):DTS:=fun D l n=>c l n fun b o=>if b=true then t D l o else u D l o
theorem JJ(hc:DT X c dt)(v:DSs X sa t)(o:DSs X sb u):DS X (.If c sa sb pos) (sIf dt t u):=by
 obtain⟨U,pc,hc⟩:=hc;obtain⟨Y,pa,v⟩:=v;obtain⟨Z,R,o⟩:=o;refine⟨_,zo7 pc pa R,fun C y σ H n D L S hd g=>?_⟩;refine hc C y σ H n _ _ S hd fun b N J r l G=>?_;cases b with
 | true=>exact iteT (v C y σ J N D L (S.on l G) (by simpa using r) (g.on l.keep))
 | false=>exact iteF (o C y σ J N D L (S.on l G) (by simpa using r) (g.on l.keep))
def sSet(i:Nat)(d:DTE):DTS:=fun D o n=>d o n fun t y=>D.nx (o.set i (some (.val t))) y
theorem zsZ(L:X.N.Nodup)(hi:X.N[i]?=some x)(hx:Loc X.env.scope x)(h:DE X e d)(G:swapsWith e (some (.Name x pos')) pos.line X.env=pure false:=by rfl)(hf:X.fn x=true\/X.env.scope.names.lookup x=some .local:=by walk_at "F") :
  DS X (.Assign [.Name x pos'] e pos) (sSet i d):=by
 obtain⟨U,pa,h⟩:=h;refine⟨_,Qm L hi hx pa G hf,fun C R σ H n D Y S hd g=>?_⟩;refine h C R σ H n _ _ S hd fun t J v H' r y I q=>?_;exact g.nx _ _ H' J r ((S.on y I).put q) (y.keep.trans UD)
def sOwn(i:Nat)(d:DTA):DTS:=fun D l n=>d l n fun ts v=>D.nx (l.set i (some (.own ts))) v
theorem Qz(R:X.N.Nodup)(hi:X.N[i]?=some x)(hx:Loc X.env.scope x)(h:DN X e ds)(I:swapsWith e (some (.Name x pos')) pos.line X.env=pure false:=by rfl)(hf:X.fn x=true\/X.env.scope.names.lookup x=some .local:=by walk_at "F") :
  DS X (.Assign [.Name x pos'] e pos) (sOwn i ds):=by
 obtain⟨Y,pa,h⟩:=h;refine⟨_,Qm R hi hx pa I hf,fun C U σ H n D Z S hd g=>?_⟩;refine h C U σ H n _ _ S hd fun ts L p vs H' r G J y v q=>?_;exact g.nx _ _ H' L r (S.putOwn G J y v q) (zhU G y)
def sAug(i:Nat)(f:Int->Int->Int)(d:DTE):DTS:=fun D o n=>match o[i]? with
 | some (some (.val (.int j)))=>d o n fun t y=>match t with|.int k=>D.nx (o.set i (some (.val (.int (f j k))))) y|_=>False
 | _=>False
theorem zs1(Y:X.N.Nodup)(hi:X.N[i]?=some x)(hx:Loc X.env.scope x)(h:DE X e d)(G:PIp X op (ipI f))(hf:X.fn x=true\/X.env.scope.names.lookup x=some .local:=by walk_at "F") :
  DS X (.AugAssign (.Name x pos') op e pos) (sAug i f d):=by
 obtain⟨ta,pa,h⟩:=h;refine⟨_,zrf Y hi hx pa G hf,fun C Z σ H n D D' S hd g=>?_⟩;unfold sAug at hd;split at hd;rename_i j I;obtain⟨v,R,L⟩:=S.val i _ I;refine⟨v,R,h C Z σ H n _ _ S hd fun t U w H' r y J q=>?_⟩;cases t with
 | int k=>exact⟨j,k,L.intI,q.intI,g.nx _ _ H' U r ((S.on y J).put (.int _)) (y.keep.trans UD)⟩
 | _=>exact r.elim
 exact hd.elim
abbrev DTG:=ab->En->(En->Prop)->Prop
abbrev DTGs:=List ab->En->(En->Prop)->Prop
def DG(X:Cx)(y:aQ)(is:List Nat)(d:DTG):Prop:=(∀t o R,d t o R->∃l,R l)/\∃g,PG X y g/\∀(C:Ctx) (o:En) (σ:St) (H:Hp) (n:Nat) (v:V) (t:ab) (Q:St->Hp->Prop) (R:En->Prop),Stt X.K C o σ H n->Rep X.K C.hd (Own C o σ) H v t->d t o R ->
 (∀l σ',R l->Stt X.K C l σ' H n->Keep C o σ H l σ' H->(∀j,j∉is->σ'[j]?=σ[j]?)->σ'.length=σ.length->Q σ' H)->g v σ H Q
def DGs(X:Cx)(v:List aQ)(is:List Nat)(d:DTGs):Prop:=(∀ts o R,d ts o R->ts.length=v.length)/\(∀t o R,d t o R->∃l,R l)/\∃g,PGs X v g/\∀(C:Ctx) (o:En) (σ:St) (H:Hp) (n:Nat) (y:List V) (ts:qD) (Q:St->Hp->Prop) (R:En->Prop),Stt X.K C o σ H n->Reps X.K C.hd (Own C o σ) H y ts->d ts o R ->
 (∀l σ',R l->Stt X.K C l σ' H n->Keep C o σ H l σ' H->(∀j,j∉is->σ'[j]?=σ[j]?)->σ'.length=σ.length->Q σ' H)->g y σ H Q
def Qb(i:Nat):DTG:=fun t o R=>R (o.set i (some (.val t)))
def Uf:DTGs:=fun ts l R=>match ts with|[]=>R l|_=>False
def QM(d:DTG)(ds:DTGs):DTGs:=fun ts o R=>match ts with|t::ts=>d t o fun l=>ds ts l R|[]=>False
def Ug(ds:DTGs):DTG:=fun t o R=>match t with|.tuple ts=>ds ts o R|_=>False
theorem zqa(I:X.N.Nodup)(hi:X.N[i]?=some x)(hx:Loc X.env.scope x)(hf:X.fn x=true\/X.env.scope.names.lookup x=some .local:=by walk_at "F"):DG X (.Name x pos) [i] (Qb i):=by refine⟨fun t J R h=>⟨_,h⟩,_,zpb I hi hx hf,fun C J σ H n v t Q R S r hd y=>?_⟩;exact y _ _ hd (S.put r) UD (fun j G=>by rw[cR (fun z=>G (by simp[z]))]) (by simp)
theorem J5:DGs X [] [] Uf:=by
 refine⟨fun ts l R h=>?_,fun ts l R h=>?_,_,zo_,fun C l σ H n v ts Q R S r hd o=>?_⟩;cases ts with
 | nil=>rfl
 | cons _ _=>exact h.elim
 cases ts with
 | nil=>exact⟨_,h⟩
 | cons _ _=>exact h.elim
 cases r with
 | nil=>exact⟨rfl,o _ _ hd S Keep.refl (fun _ _=>rfl) rfl⟩
 | cons _ _=>exact hd.elim
theorem Ju(L:DG X e is g)(G:DGs X es js gs)(hs:(assignEach (e::es) X.env).map (·.2)=assign e X.env::(assignEach es X.env).map (·.2):=by rfl):DGs X (e::es) (is++js) (QM g gs):=by
 obtain⟨Z,ga,pa,L⟩:=L;obtain⟨l2,w2,gb,pb,G⟩:=G;refine⟨fun ts v R h=>?_,fun ts v R h=>?_,_,znc pa pb hs,fun C v σ H n vs ts Q R S r hd hq=>?_⟩;cases ts with
 | nil=>exact h.elim
 | cons t ts =>obtain⟨l,h'⟩:=Z t v _ h;simp[l2 ts l R h']
 cases ts with
 | nil=>exact h.elim
 | cons t ts =>obtain⟨l,h'⟩:=Z t v _ h;exact w2 ts l R h'
 cases r with
 | nil=>exact hd.elim
 | cons r rs =>refine⟨_,_,rfl,L C v σ H n _ _ _ _ S r hd fun l σ' hr S' kp hj hl=>?_⟩;refine G C l σ' H n _ _ _ _ S' (kp.reps S.hx rs) hr fun y J N S2 I U Y=>?_;exact hq y J N S2 (kp.trans I) (fun j o=>by rw[U j (fun z=>o (by simp[z])),hj j (fun z=>o (by simp[z]))]) (Y.trans hl)
theorem J7(hc:X.calm=true)(h:DGs X es is gs)(N:(assignEach es X.env).length=es.length:=by rfl)(y:(assignEach es X.env).findIdx? (·.1)=none:=by rfl):DG X (.Tuple es k pos) is (Ug gs):=by
 obtain⟨l,w,g,pg,h⟩:=h;refine⟨fun t o R h=>?_,_,zrk hc pg N y,fun C o σ H n v t Q R S r hd L=>?_⟩;cases t with
 | tuple ts=>exact w ts o R h
 | _=>exact h.elim
 cases t with
 | tuple ts =>obtain⟨p,J,rfl,U,G⟩:=r.tupI;exact⟨p,J,rfl,U,by rw[G.length];exact l ts o R hd,h C o σ H n J ts Q R S G hd L⟩
 | _=>exact hd.elim
def sAsg(d:DTE)(g:DTG):DTS:=fun D o n=>d o n fun t v=>g t o fun l=>D.nx l v
theorem Um(h:DE X e d)(l:DG X tg is g)(R:swapsWithSole [tg] e pos.line X.env=pure false:=by rfl)(hw:swappedStores [tg] e X.env=pure none:=by rfl)
  (Y:(assignEach [tg] X.env).map (·.2)=[assign tg X.env]:=by rfl):DS X (.Assign [tg] e pos) (sAsg d g):=by
 obtain⟨Z,pa,h⟩:=h;obtain⟨w,gb,L,l⟩:=l;refine⟨_,YA pa L R hw Y,fun C I σ H n D D' S hd gd=>?_⟩;refine h C I σ H n _ _ S hd fun t y v H' r G N q=>?_;exact l C I σ H' y v t _ _ (S.on G N) q r fun o σ' J U kp _ _=>gd.nx o σ' H' y J U (G.keep.trans kp)
def sPar(i j:Nat)(ds:DTA):DTS:=fun D o n=>ds o n fun ts y=>match ts with|[t,u]=>D.nx ((o.set i (some (.val t))).set j (some (.val u))) y|_=>False
theorem zs0{kt k2 pt2}(hc:X.calm=true)(hN:X.N.Nodup)(hi:X.N[i]?=some x)(L:X.N[j]?=some y)(G:i≠j)
  (hx:X.env.scope.names.lookup x=some .local) (hy:X.env.scope.names.lookup y=some .local) (h:DB X [a,b] ds)
  (hw:swappedStores [.Tuple [.Name x px,.Name y py] kt pt] (.Tuple [a,b] k2 pt2) X.env=pure (some [x,y]):=by rfl)
  (J:swapsWithSole [.Tuple [.Name x px,.Name y py] kt pt] (.Tuple [a,b] k2 pt2) pos.line X.env=pure false:=by rfl) :
  DS X (.Assign [.Tuple [.Name x px,.Name y py] kt pt] (.Tuple [a,b] k2 pt2) pos) (sPar i j ds):=by
 obtain⟨ta,pa,h⟩:=h;refine⟨_,zrd hc hN hi L G hx hy pa.pa hw J,fun C ρ σ H n D D' S hd g=>?_⟩;refine h C ρ σ H n _ _ S hd fun ts n1 vs R r I Y v _=>?_;cases v with
 | nil=>exact r.elim
 | cons Z v =>
  cases v with
  | nil=>exact r.elim
  | cons U v =>
   cases v with
   | cons _ _=>exact r.elim
   | nil =>have S1:=(S.on I Y).put (i:=i) Z;exact⟨_,_,rfl,g.nx _ _ R n1 r (S1.put (Keep.rep UD S.hx U)) ((I.keep.trans UD).trans UD)⟩
def Y6(i:Nat)(d:DTE):DTS:=fun D l n=>match l[i]? with
 | some (some (.own ts))=>d l n fun t v=>ts.length<16777216/\D.nx (l.set i (some (.own (ts++[t])))) v
 | _=>False
theorem QD(i:Nat){p1 p2 p3:Pos}(h:DE X e d)(hN:X.N[i]?=some x:=by rfl)(hv:Vis X.env.scope x:=by walk_at "V")(hd:(x == ("__debug__":Str))=false:=by rfl)
  (Z:(x == ("__classdict__":Str))=false:=by rfl) (hs:swapsWith (.Call (.Attribute (.Name x p1) "append" p2) [e] [] p3) none pos.line X.env=pure false:=by rfl)
  (Hh:attributeBase (.Name x p1) "append" X.env (eval (.Name x p1) X.env)=eval (.Name x p1) X.env:=by rfl)
  (HM:((backTo p3 (starEach [e] X.env)).all (fun x=>!x.1)&&(backToKw p3 (keywordEach [] X.env)).all (fun x=>x.1.isSome)
   && decide ([e].length+([]:List gC).length+(if ([]:List gC).isEmpty then 0 else 1)<30))=true:=by rfl)
  (Hi:(p2.endLine == p3.line)=true:=by rfl) (J:starEach [e] X.env=[(false,eval e X.env)]:=by rfl):DS X (.Expr (.Call (.Attribute (.Name x p1) "append" p2) [e] [] p3) pos) (Y6 i d):=by
 obtain⟨ta,pa,h⟩:=h;refine⟨_,zhF (zpf gq PySem.F.slot_list_append PySem.F.type_list_append VA (Qe hN hv hd Z) (Qh pa QI J) Hh HM Hi J rfl) hs,fun C ρ σ H n D D' S hd g=>?_⟩;unfold Y6 at hd;split at hd;rename_i ts L;obtain⟨p,vs,U,h2,h3,h4⟩:=S.own i ts L;refine⟨.ref p,U,.inl ⟨rfl,_,SqL.of h2⟩,?_⟩;refine h C ρ σ H n _ _ S hd fun t n' v H' r e1 hn q=>?_;have S1:=S.on e1 hn;obtain⟨p',Y,G,R,I,h4'⟩:=S1.own i ts L;rw[U]at G;cases G;refine⟨p,Y,v,rfl,rfl,R,by rw[I.length];exact r.1,?_⟩;obtain⟨S2,k2⟩:=S1.chg L U (I.append (.cons q .nil));exact g.nx _ _ _ n' r.2 S2 (e1.keep.trans k2);exact hd.elim
def sPut(i:Nat)(C d:DTE):DTS:=fun D l n=>d l n fun t v=>match l[i]? with
 | some (some (.own ts))=>C l v fun j y=>match j with|.int j=>(match ixN ts.length j with|some k=>D.nx (l.set i (some (.own (ts.set k t)))) y|none=>False)|_=>False
 | _=>False
theorem zov(i:Nat){dj:DTE}{p1 p2:Pos}(L:DE X b dj)(h:DE X e d)(hN:X.N[i]?=some x:=by rfl)(hv:Vis X.env.scope x:=by walk_at "V")(hd:(x == ("__debug__":Str))=false:=by rfl)
  (hcd:(x == ("__classdict__":Str))=false:=by rfl) (hs:swapsWithSole [.Subscript (.Name x p1) b p2] e pos.line X.env=pure false:=by rfl) (hw:swappedStores [.Subscript (.Name x p1) b p2] e X.env=pure none:=by rfl)
  (y:(assignEach [.Subscript (.Name x p1) b p2] X.env).map (·.2)=[assign (.Subscript (.Name x p1) b p2) X.env]:=by rfl)
  (Il:PG X (.Subscript (.Name x p1) b p2)=PG X (.Subscript (.Name x p1) b p2):=rfl) (pg:∀{to ti:TE} {t:TSet},PE X (.Name x p1) to->PE X b ti->PSet X t->PG X (.Subscript (.Name x p1) b p2) (L2.gSub to ti t):=by intro _ _ _ y h2 h3;exact pg_sub y h2 h3) :
  DS X (.Assign [.Subscript (.Name x p1) b p2] e pos) (sPut i dj d):=by
 obtain⟨ta,pa,h⟩:=h;obtain⟨tj,pj,L⟩:=L;refine⟨_,YA pa (pg (Qe hN hv hd hcd) pj set_list) hs hw y,fun C ρ σ H n D D' S hd g=>?_⟩;refine h C ρ σ H n _ _ S hd fun t n1 v H1 r e1 hn q=>?_;have Z:=S.on e1 hn;split at r;rename_i ts J;obtain⟨p,vs,y,h2,h3,h4⟩:=Z.own i ts J;refine⟨.ref p,y,L C ρ σ H1 n1 _ _ Z r fun j n2 w H2 l e2 U q2=>?_⟩;have S2:=Z.on e2 U;cases j with
 | int j =>
  have l:(match ixN ts.length j with|some k=>D'.nx (ρ.set i (some (.own (ts.set k t)))) n2|none=>False):=l;cases ek:ixN ts.length j with
  | none=>rw[ek]at l;exact l.elim
  | some m =>rw[ek]at l;obtain⟨p',Y,G,R,I,h4'⟩:=S2.own i ts J;rw[y]at G;cases G;refine⟨p,Y,j,m,rfl,q2.intI,R,by rw[I.length];exact ek,?_⟩;obtain⟨S3,k3⟩:=S2.chg J y (I.set (e2.rep S.hx q) m);exact g.nx _ _ _ n2 l S3 ((e1.trans e2).keep.trans k3)
 | _=>exact l.elim
 exact r.elim
def zks(c:DTT)(G:DTS):DTS:=fun D o n=>∃W:Nat->En->Nat->Prop,(∃m,W m o n)/\∀m o n,W m o n ->
 c o n fun b C=>if b=true then G { D with nx:=fun l y=>∃v,v<m/\W v l y,ct:=fun l y=>∃v,v<m/\W v l y,bk:=D.nx } o C else D.nx o C
theorem zfQ(hp:nY (model X.prog X.w) X.A X.env X.xe)(hc:DT X c dt)(hb:DSs X sa t):DS X (.While c sa [] pos) (zks dt t):=by
 obtain⟨tc,pc,hc⟩:=hc;obtain⟨tb,pb,hb⟩:=hb;refine⟨_,zna hp pc pb,fun C ρ σ H n D D' S hd g=>?_⟩;obtain⟨W,⟨m0,w0⟩,turn⟩:=hd;refine⟨fun m L H1=>∃G n1,W m G n1/\Stt X.K C G L H1 n1/\Keep C ρ σ H G L H1,⟨m0,ρ,n,w0,S,Keep.refl⟩,?_⟩;rintro m L H1 ⟨G,n1,w1,S1,k1⟩;refine hc C G L H1 n1 _ _ S1 (turn m G n1 w1) fun b n2 H2 r e2 hn2=>?_;have S2:=S1.on e2 hn2;have R:=k1.trans e2.keep;cases b with
 | true =>refine iteT ⟨fun σ' H'=>∃J,J<m/\∃y I,W J y I/\Stt X.K C y σ' H' I/\Keep C ρ σ H y σ' H',fun σ' H' ⟨J,Y,z⟩=>⟨J,Y,z⟩,?_⟩;refine hb C G L H2 n2 _ { D' with nx:=fun y I=>∃J,J<m/\W J y I,ct:=fun y I=>∃J,J<m/\W J y I,bk:=D'.nx } S2 (by simpa using r) ⟨?_,fun t I v H' h hn N r=>g.rt t I v H' h hn (fun a o ha U no=>?_) r,?_,?_,fun c I H' h hn N=>g.xr c I H' h hn fun a o ha U no=>N a o (R a o ha U no).1 U (R a o ha U no).2⟩;rintro y σ' H' I ⟨J,Y,w'⟩ Z N;exact⟨J,Y,y,I,w',Z,R.trans N⟩;obtain⟨q1,q2⟩:=R a o ha U no;exact N a o q1 U q2;intro y σ' H' I h' Z N;exact g.nx y σ' H' I h' Z (R.trans N);rintro y σ' H' I ⟨J,Y,w'⟩ Z N;exact⟨J,Y,y,I,w',Z,R.trans N⟩
 | false=>exact iteF (g.nx G L H2 n2 (by simpa using r) S2 R)
end
def ItOk(K:qF)(hd:Option af)(P O:af->Prop)(H:Hp)(J:It)(ts:qD):Prop:=∀(v:af->Prop) (l:Hp),(∀a o,H a=some o->P a->l a=some o)->(∀a o,H a=some o->¬O a->¬v a)->(∀a,v a->l a≠none) ->
 (∀i t,ts[i]?=some t->J.go i l/\∀x u,J.yld i l x u->Same l u/\Rep K hd v u x t)/\J.stop ts.length l
def DI(X:Cx)(u iter:aQ)(d:DTA):Prop:=∃wi,PI X u iter wi/\∀(C:Ctx) (l:En) (σ:St) (H:Hp) (n:Nat) (Q:It->Hp->Prop) (R:List ab->Nat->Prop),Stt X.K C l σ H n->d l n R ->
 (∀ts o J H',R ts o->ExtE C.hd H H'->Hn X.K C.hd H' o->ItOk X.K C.hd (fun a=>¬Own C l σ a) (Own C l σ) H' J ts->Q J H')->wi σ H Q
def DIL(X:Cx)(u iter:aQ)(d:DTA):Prop:=∃wi,PI X u iter wi/\∀(C:Ctx) (l:En) (σ:St) (H:Hp) (n:Nat) (Q:It->Hp->Prop) (R:List ab->Nat->Prop),Stt X.K C l σ H n->d l n R ->
 (∀ts o J H',R ts o->ExtE C.hd H H'->Hn X.K C.hd H' o->ItOk X.K C.hd (fun a=>C.hd≠some a) (Own C l σ) H' J ts->Q J H')->wi σ H Q
section
variable{X:Cx}{a b c e tg iter:aQ}{es rest:List aQ}{d da db dc:DTE}{ds di:DTA}{dt:DTT}{t u:DTS}{st:dE}{sts sa sb:List dE}{pos p:Pos}{k:Nat}{x:Str}
theorem dil(h:DI X tg iter di):DIL X tg iter di:=by obtain⟨wi,pi,h⟩:=h;refine⟨wi,pi,fun C ρ σ H n Q R S hd y=>h C ρ σ H n Q R S hd fun ts Y J H' r e1 I it=>y ts Y J H' r e1 I ?_⟩;exact fun Z v U L G=>it Z v (fun a o N no=>U a o N fun z=>no (.inl (S.hx a z))) L G
theorem Reps.getP{K:qF}{hd:Option af}{O:af->Prop}{H:Hp}{vs ts}{i:Nat}{t}{x:V}(r:Reps K hd O H vs ts)(h:ts[i]?=some t)(hx:vs[i]?=some x):Rep K hd O H x t:=by obtain⟨v,l,o⟩:=r.get h;rw[hx]at l;cases l;exact o
theorem Vm{K:qF}{hd:Option af}{P O:af->Prop}{H:Hp}{q:af}{vs ts}(R:H q=some (.lst vs))(Y:P q)(U:∀a,¬O a->P a)(r:Reps K hd O H vs ts):ItOk K hd P O H (Itl K q) ts:=by intro Z N L S _;have y:=L q _ R Y;have J:Reps K hd Z N vs ts:=r.mono (fun a o C z=>bF fun no=>S a o C no z) fun a o no C=>L a o C (U a no);refine⟨fun i t I=>?_,⟨vs,.of y,by rw[r.length];exact av _⟩⟩;obtain⟨v,ev,rv⟩:=J.get I;refine⟨⟨vs,v,.of y,ev⟩,fun x H3 G=>?_⟩;obtain⟨rfl,G⟩:=G;exact⟨Same.refl _,J.getP I (G vs (.of y))⟩
theorem zol{K:qF}{hd:Option af}{P O:af->Prop}{H:Hp}{v:V}{ts}(U:∀a,¬O a->P a)(r:Rep K hd O H v (.tuple ts)):∃q y,v=.ref q/\SqT K H q y/\ItOk K hd P O H (Itt K q) ts:=by
 have key:∀q y,Reps K hd O H y ts->(∀(I:af->Prop) (C:Hp),(∀a o,H a=some o->P a->C a=some o)->(∀a o,H a=some o->¬O a->¬I a)->SqT K C q y)->ItOk K hd P O H (Itt K q) ts:=by intro q y r Z I C J S _;have G:=Z I C J S;have Y:Reps K hd I C y ts:=r.mono (fun a o L z=>bF fun no=>S a o L no z) fun a o no L=>J a o L (U a no);refine⟨fun i t R=>?_,⟨y,G,by rw[r.length];exact av _⟩⟩;obtain⟨v,ev,rv⟩:=Y.get R;refine⟨⟨y,v,G,ev⟩,fun x H3 N=>?_⟩;obtain⟨rfl,N⟩:=N;exact⟨Same.refl _,Y.getP R (N y G)⟩
 cases r with
 | @tup q y ds h o r=>exact⟨q,y,rfl,.inl (.inl h),key q y r fun I C J _=>.inl (.inl (J q _ h (U q o)))⟩
 | @tupS q y ds h r=>exact⟨q,y,rfl,h.sq,key q y r fun I C _ _=>h.sq⟩
def dItL(d:DTE):DTA:=fun v n R=>d v n fun t o=>match t with|.list ts=>R ts o|_=>False
def dItT(d:DTE):DTA:=fun v n R=>d v n fun t o=>match t with|.tuple ts=>R ts o|_=>False
theorem Y2(h:DE X iter d):DI X tg iter (dItL d):=by
 obtain⟨Y,pa,h⟩:=h;refine⟨_,zkP pa,fun C U σ H n Q R S hd y=>?_⟩;refine h C U σ H n _ _ S hd fun t L v H' r N G q=>?_;cases t with
 | list ts =>obtain⟨p,J,rfl,l,no,I⟩:=q.lstI;exact⟨p,rfl,⟨J,.of l⟩,y ts L _ H' r N G (Vm l no (fun _ z=>z) I)⟩
 | _=>exact r.elim
theorem znS(h:DL X iter d):DIL X tg iter (dItL d):=by
 obtain⟨ta,pa,h⟩:=h;refine⟨_,zkP pa,fun C ρ σ H n Q R S hd L=>?_⟩;refine h C ρ σ H n _ _ S hd fun t U v H' r Z N q=>?_;cases t with
 | list ts =>
  rcases q with q|⟨p,J,ds,rfl,I,y,G,Y⟩|⟨p,zs,ep,ks,rfl,I,y,G,Y⟩
  rotate_left 2
  cases I;obtain⟨p,J,rfl,y,no,G⟩:=q.lstI;exact⟨p,rfl,⟨J,.of y⟩,L ts U _ H' r Z N (Vm y (fun z=>no (.inl (S.hx p z))) (fun a no z=>no (.inl (S.hx a z))) G)⟩;cases I;exact⟨p,rfl,⟨J,.of y⟩,L ts U _ H' r Z N (Vm y Y (fun a no z=>no (.inl (S.hx a z))) G)⟩
 | _=>exact r.elim
theorem UO(h:DE X iter d):DI X tg iter (dItT d):=by
 obtain⟨N,pa,h⟩:=h;refine⟨_,zrh pa,fun C l σ H n Q R S hd o=>?_⟩;refine h C l σ H n _ _ S hd fun t J v H' r L y q=>?_;cases t with
 | tuple ts =>obtain⟨p,I,rfl,G,it⟩:=zol (P:=fun a=>¬Own C l σ a) (fun _ z=>z) q;exact⟨p,rfl,⟨I,G⟩,o ts J _ H' r L y it⟩
 | _=>exact r.elim
def JX(lo:Int)(n:Nat):List ab:=(bY n).map fun(i:Nat)=>bo (lo+(i:Int))
theorem ziS{K:qF}{hd:Option af}{P O:af->Prop}{H:Hp}{lo:Int}{m:Nat}:ItOk K hd P O H (Itr lo m) (JX lo m):=by intro C y _ _ _;refine⟨fun i t o=>?_,by show m<=(JX lo m).length;simp[JX]⟩;unfold JX at o;rw[aD]at o;by_cases hi:i<m;rw[dY hi]at o;cases o;refine⟨hi,fun x G v=>?_⟩;obtain⟨rfl,rfl⟩:=v;exact⟨Same.refl _,.int _⟩;rw[bp (by simp;omega)]at o;cases o
def U5(d:DTE):DTA:=fun o n R=>d o n fun t l=>match t with|.int j=>(-(2 ^ 62)<=j/\j<2 ^ 62)/\R (JX 0 j.toNat) l|_=>False
def U6(G y:DTE):DTA:=fun l n R=>G l n fun t v=>y l v fun u C=>match t,u with|.int i,.int j=>(-(2 ^ 62)<=i/\i<2 ^ 62/\-(2 ^ 62)<=j/\j<2 ^ 62)/\R (JX i (j - i).toNat) C|_,_=>False
theorem QW(J:X.mg "range" = none) (h:DE X a d) (y:Gl X "range":=by rfl) (o:starEach [a] X.env=[(false,eval a X.env)]:=by rfl):DI X tg (.Call (.Name "range" p) [a] [] pos) (U5 d):=by
 obtain⟨Z,pa,h⟩:=h;refine⟨_,zkO y J (Qh pa QI o) o,fun C Y σ H n Q R S hd G=>?_⟩;refine h C Y σ H n _ _ S hd fun t L v H' r U I q=>?_;cases t with
 | int j =>rw[q.intI];exact⟨j,rfl,r.1.1,r.1.2,G _ L _ H' r.2 U I ziS⟩
 | _=>exact r.elim
theorem zl7(hm:X.mg "range" = none) (h:DE X a da) (h':DE X b db) (Z:Gl X "range":=by rfl) (I:starEach [a,b] X.env=[(false,eval a X.env),(false,eval b X.env)]:=by rfl) (o:starEach [b] X.env=[(false,eval b X.env)]:=by rfl):DI X tg (.Call (.Name "range" p) [a,b] [] pos) (U6 da db):=by
 obtain⟨ta,pa,h⟩:=h;obtain⟨tb,Y,h'⟩:=h';refine⟨_,zkN Z hm (Qh pa (Qh Y QI o) (by rw[I,o])) I o,fun C L σ H n Q R S hd hq=>?_⟩;refine h C L σ H n _ _ S hd fun t n' v H' r J hn q=>?_;refine h' C L σ H' n' _ _ (S.on J hn) r fun u n2 w U y e2 G q2=>?_;cases t with
 | int i =>
  cases u with
  | int j =>rw[q.intI,q2.intI];exact⟨i,j,rfl,y.1,hq _ n2 _ U y.2 (J.trans e2) G ziS⟩
  | _=>exact y.elim
 | _=>exact y.elim
def forP(g:DTG)(l:DTS)(D:JH):List ab->En->Nat->Prop
 | [],ρ,n=>D.nx ρ n
 | t::ts,ρ,n=>g t ρ fun o=>l { D with nx:=forP g l D ts,ct:=forP g l D ts,bk:=D.nx } o n
def sFor(di:DTA)(g:DTG)(o:DTS):DTS:=fun D l n=>di l n fun ts v=>forP g o D ts l v
theorem JZ(hp:nY (model X.prog X.w) X.A X.env X.xe)(hc:X.calm=true)(hi:DI X tg iter di)(hg:DG X tg is g)(hb:DSs X sa t)
  (hs:∀x,foldedSetIterable iter X.env x=pure x:=by intro _;rfl):DS X (.For tg iter sa [] pos) (sFor di g t):=by
 obtain⟨wi,pi,hi⟩:=hi;obtain⟨_,gg,pg,hg⟩:=hg;obtain⟨tb,pb,hb⟩:=hb;refine⟨_,zre hp hc pi pg pb hs,fun C ρ σ H n D D' S hd gd=>?_⟩;refine hi C ρ σ H n _ _ S hd fun ts n1 J H1 r e1 hn it=>?_;have S1:=S.on e1 hn;refine⟨fun i m L Z=>m=ts.length - i/\i<=ts.length/\∃I n2,forP g t D' (ts.drop i) I n2/\Stt X.K C I L Z n2/\Keep C ρ σ H1 I L Z,⟨ts.length,by simp,bX _,ρ,n1,by simpa using r,S1,Keep.refl⟩,?_⟩;rintro i m L Z ⟨rfl,hi',I,n2,f2,S2,k2⟩;have itq:=it (Own C I L) Z (fun a o U no=>(k2 a o U (fun z=>no (.inl (S.hx a z))) fun z=>no (.inr z)).1) (fun a o U no z=>z.elim (fun z=>no (.inl z)) fun z=>(k2 a o U (fun y=>no (.inl (S.hx a y))) fun y=>no (.inr y)).2 z) (fun a=>S2.dom);by_cases hlt:i<ts.length;have et:ts[i]?=some ts[i]:=ah hlt;obtain⟨go,yl⟩:=itq.1 i _ et;rw[bf hlt]at f2;refine .inr ⟨go,fun σ' H'=>∃G N,forP g t D' (ts.drop (i+1)) G N/\Stt X.K C G σ' H' N/\Keep C ρ σ H1 G σ' H',fun σ' H' z=>⟨ts.length - (i+1),by omega,rfl,hlt,z⟩,fun x H3 hy=>?_⟩;obtain⟨sm,rx⟩:=yl x H3 hy;have S3:=S2.on sm.ext (S2.hnd.same sm);have k3:Keep C ρ σ H1 I L H3:=k2.trans (Same.ext sm:ExtE C.hd Z H3).keep;refine hg C I L H3 n2 x _ _ _ S3 rx f2 fun ρ4 σ4 r4 S4 k4 _ _=>?_;have k5:=k3.trans k4;refine hb C ρ4 σ4 H3 n2 _ { D' with nx:=forP g t D' (ts.drop (i+1)),ct:=forP g t D' (ts.drop (i+1)),bk:=D'.nx } S4 r4 ⟨fun G σ' H' N h' S' R=>⟨G,N,h',S',k5.trans R⟩,fun t N v H' h Y R rp=>gd.rt t N v H' h Y (fun a o U nh no=>?_) rp,fun G σ' H' N h' S' R=>gd.nx G σ' H' N h' S' (e1.keep.trans (k5.trans R)),fun G σ' H' N h' S' R=>⟨G,N,h',S',k5.trans R⟩,fun c N H' h Y R=>gd.xr c N H' h Y fun a o U nh no=>R a o ((e1.keep.trans k5) a o U nh no).1 nh ((e1.keep.trans k5) a o U nh no).2⟩;obtain⟨q1,q2⟩:=(e1.keep.trans k5) a o U nh no;exact R a o q1 nh q2;have e:i=ts.length:=by omega
 subst e;rw[fH]at f2;exact .inl ⟨itq.2,gd.nx I L Z n2 f2 S2 (e1.keep.trans k2)⟩
def JV(N:List Str)(ts:qD):En:=ts.map (fun t=>some (.val t))++aU (N.length - ts.length) none
theorem zdS{K:qF}{hd:Option af}{O:af->Prop}{H:Hp}{n:Nat}{N:List Str}{y:List V}{ts:qD}(r:Reps K hd O H y ts)(G:Hn K hd H n)(dom:∀a,O a->MutO (H a))(hx:∀a,hd=some a->O a) :
  Stt K ⟨hd,O⟩ (JV N ts) (start N y) H n/\∀a,¬OwnS (JV N ts) (start N y) a:=by
 have get:∀(i:Nat) c,(JV N ts)[i]?=some (some c)->∃t,c=.val t/\ts[i]?=some t:=fun i c h=>by
  unfold JV at h;by_cases hi:i<ts.length;rw[bu (by simpa using hi),aD]at h;cases e:ts[i]? with
  | none=>rw[e]at h;cases h
  | some t=>rw[e]at h;cases h;exact⟨t,rfl,rfl⟩
  rw[bH (by simpa using hi),cS]at h;split at h <;> cases h
 have no:∀a,¬OwnS (JV N ts) (start N y) a:=fun a ⟨i,ds,m,I,_⟩=>by obtain⟨t,e,_⟩:=get i _ I;subst e;cases m
 refine⟨.mk' (by unfold JV start;simp[r.length]) (fun i d h=>?_) (fun i ds m h=>?_) (fun i ks h=>by obtain⟨t,e,_⟩:=get i _ h;cases e) (fun i j ds es a m _ h=>?_) G dom hx,no⟩;obtain⟨t,e,C⟩:=get i _ h;cases e;obtain⟨v,ev,J⟩:=r.get C;refine⟨v,?_,J.mono (fun a o _ z=>z.elim id fun z=>absurd z (no a)) fun _ _ _ z=>z⟩;unfold start;have hi:i<y.length:=by rcases bw i y.length with z|z;exact z;rw[bp z]at ev;cases ev
 rw[bu (by simpa using hi),aD,ev];rfl;obtain⟨t,e,_⟩:=get i _ h;subst e;cases m;obtain⟨t,e,_⟩:=get i _ h;subst e;cases m
end
end L2
namespace Bd
open PySem L2 PyProof.Rows
theorem Def.okD{P:aO}{w:br}{K:qF}{mg:qM}{base:ba}{x:Str}{st:dE}{ps N:List Str}{f:af}{fd:cH}{k m:Nat}{g:GD}(D:Def K mg x st ps f fd)(S:Qs N ps (JE st))(hm:m=ps.length)
  (Z:∀(l:ae) (A:bc) (outer:List Env) (s:ak) (H:Hp) (E:XK),Room k (A.deeper (envOfC x (JE st) s.heap.objs.size f l))->∃d,DSs (cxOf CX0 P w K mg base N x (JE st) f l A outer s H E).nox (J1 st) d /\
   ∀ts n R,ts.length=m->g ts n R->d { nx:=fun _ u=>R .none u,rt:=R } (JV N ts) n):FnOk P w K mg base CX0 (k+1) f fd ps (spD K m g):=by
 refine D.F.ok S (fun vs H Q E h=>?_) (fun l A outer s H vs Q E Y h=>?_);obtain⟨hd,O,ts,n,R,r,_,_,_,J,_⟩:=h;rw[r.length,J,hm];obtain⟨hd,O,ts,n,R,r,hn,dom,hx,J,hg,U⟩:=h;obtain⟨d,⟨t,pt,ht⟩,y⟩:=Z l A outer s H E Y;obtain⟨S0,no⟩:=zdS (N:=N) r hn dom hx;refine⟨t,pt,ht ⟨hd,O⟩ _ _ H n _ _ S0 (y ts n R J hg) ⟨fun ρ' σ' H' u h S' I=>?_,fun t u v H' h C I rp=>?_,fun _ _ _ _ h=>h.elim,fun _ _ _ _ h=>h.elim,fun _ _ _ h=>h.elim⟩⟩;exact U .none u .non H' h (fun a o G L=>(I a o G L (no a)).1) S'.hnd .non;exact U t u v H' h (fun a o G L=>I a o G L (no a)) C rp
end Bd
namespace L2
open PySem PySem.Spec PyProof.Rows
def DTs(Y:Cx)(ifs:List aQ)(d:DTT):Prop:=∃l,PTs Y ifs l/\∀(C:Ctx) (u:En) (σ:St) (H:Hp) (n:Nat) (Q:Bool->Hp->Prop) (R:Bool->Nat->Prop),Stt Y.K C u σ H n->d u n R ->
 (∀b o H',R b o->ExtE C.hd H H'->Hn Y.K C.hd H' o->Q b H')->l σ H Q
def dYes:DTT:=fun _ n R=>R true n
section
variable{Y:Cx}{c:aQ}{d:DTT}
theorem UW:DTs Y [] dYes:=⟨_,zo4,fun C o σ H n Q R S h l=>l true n H h ExtE.refl S.hnd⟩
theorem zp6(h:DT Y c d):DTs Y [c] d:=by obtain⟨l,p,h⟩:=h;exact⟨_,zo3 p,h⟩
end
theorem DE.uni{G:Type}{Xf:G->Cx}{K:qF}(u:∀i,(Xf i).K=K){e:aQ}{d:DTE}(h:∀i,DE (Xf i) e d):∃x:TE,(∀i,PE (Xf i) e x)/\∀(C:Ctx) (l:En) (σ:St) (H:Hp) (n:Nat) (Q:VK) (R:qN),Stt K C l σ H n->d l n R ->
  (∀t o v H',R t o->ExtE C.hd H H'->Hn K C.hd H' o->Rep K C.hd (Own C l σ) H' v t->Q v H')->x σ H Q:=by
 refine⟨fun σ H Q=>∀i,(gV (h i)) σ H Q,fun i pins s σ H Q I hw=>(cn (h i)).1 pins s σ H Q I (hw i),fun C l σ H n Q R S hd y i=>?_⟩;have:=(cn (h i)).2 C l σ H n Q R;exact this (by rw[u i];exact S) hd fun t o v H' r e h q=>y t o v H' r e (by rw[<- u i];exact h) (by rw[<- u i];exact q)
theorem DTs.uni{y:Type}{Xf:y->Cx}{K:qF}(v:∀i,(Xf i).K=K){e:List aQ}{d:DTT}(h:∀i,DTs (Xf i) e d):∃u:TT,(∀i,PTs (Xf i) e u)/\∀(C:Ctx) (o:En) (σ:St) (H:Hp) (n:Nat) (Q:Bool->Hp->Prop) (R:Bool->Nat->Prop),Stt K C o σ H n->d o n R ->
  (∀b l H',R b l->ExtE C.hd H H'->Hn K C.hd H' l->Q b H')->u σ H Q:=by
 refine⟨fun σ H Q=>∀i,(gV (h i)) σ H Q,fun i pins s σ H Q I hw=>(cn (h i)).1 pins s σ H Q I (hw i),fun C o σ H n Q R S hd x i=>?_⟩;have:=(cn (h i)).2 C o σ H n Q R;exact this (by rw[v i];exact S) hd fun b l H' r e h=>x b l H' r e (by rw[<- v i];exact h)
theorem DG.uni{G:Type}[Nonempty G]{Xf:G->Cx}{K:qF}(x:∀i,(Xf i).K=K){e:aQ}{is:List Nat}{d:DTG}(h:∀i,DG (Xf i) e is d):∃y:TG,(∀i,PG (Xf i) e y)/\∀(C:Ctx) (o:En) (σ:St) (H:Hp) (n:Nat) (v:V) (t:ab) (Q:St->Hp->Prop) (R:En->Prop),Stt K C o σ H n->Rep K C.hd (Own C o σ) H v t->d t o R ->
  (∀l σ',R l->Stt K C l σ' H n->Keep C o σ H l σ' H->(∀j,j∉is->σ'[j]?=σ[j]?)->σ'.length=σ.length->Q σ' H)->y v σ H Q:=by
 refine⟨fun v σ H Q=>∀i,(gV (h i).2) v σ H Q,fun i pins s σ H v u Q I r hw=>(cn (h i).2).1 pins s σ H v u Q I r (hw i),fun C o σ H n v t Q R S r hd L i=>?_⟩;have:=(cn (h i).2).2 C o σ H n v t Q R;exact this (by rw[x i];exact S) (by rw[x i];exact r) hd fun l σ' J N=>L l σ' J (by rw[<- x i];exact N)
theorem Wk.of:∀{σ σ':St},σ.length=σ'.length->(∀(i:Nat) v,σ[i]?=some (some v)->σ'[i]?=some (some v))->Wk σ σ'
 | [],[],_,_=>trivial
 | [],_::_,h,_=>by simp at h
 | _::_,[],h,_=>by simp at h
 | none::r,o::r',h,k=>Wk.of (σ:=r) (σ':=r') (by simpa using h) fun i v e=>by simpa using k (i+1) v (by simpa using e)
 | some w::r,o::r',h,k=>⟨by simpa using k 0 w rfl,Wk.of (by simpa using h) fun i v e=>by simpa using k (i+1) v (by simpa using e)⟩
def capV:Option Cell->Option Cell
 | some (.val d)=>some (.val d)
 | some (.dct ks)=>some (.rdo ks)
 | some (.rdo ks)=>some (.rdo ks)
 | _=>none
def Jw(m:Nat)(capt:List Nat)(l:En):En:=aU m none++capt.map fun i=>capV (l.getD i none)
def JP(g:DTG)(tt:DTT)(u:DTE)(l:En):List ab->List ab->Nat->(List ab->Nat->Prop)->Prop
 | [],acc,n,R=>R acc n
 | x::xs,acc,n,R=>g x l fun o=>tt o n fun b v=>if b=true then u o v fun t y=>acc.length<16777216/\JP g tt u l xs (acc++[t]) y R else JP g tt u l xs acc v R
def dComp(m:Nat)(capt:List Nat)(o:DTA)(g:DTG)(tt:DTT)(u:DTE):DTA:=fun l n R=>o l n fun ts v=>JP g tt u (Jw m capt l) ts [] v R
theorem zka{own:List Str}{capt is:List Nat}{σ o:St}(u:∀i∈is,i<own.length)(x:∀j,j∉is->o[j]?=(Jl own++capS capt σ)[j]?){j:Nat}{v:V}(l:(Jl own++capS capt σ)[j]?=some (some v)):o[j]?=some (some v):=by
 by_cases hjo:j<own.length;rw[bu (by simpa using hjo),aD]at l;cases z:own[j]? with
 | none=>rw[z]at l;cases l
 | some q=>rw[z]at l;cases l
 rw[x j (fun z=>hjo (u j z))];exact l
theorem ExtE.updR{hd:Option af}{l v:Hp}{D:af}{o:HO}(y:l D=none)(e:ExtE hd l v):ExtE hd l (upd v D o):=fun a u x C=>by rw[Jg (Qq x y)];exact e a u x C
theorem Hn.updR{K:qF}{hd:Option af}{v:Hp}{D:af}{o:HO}{n:Nat}(u:hd≠some D)(y:MutO (v D))(h:Hn K hd v n):Hn K hd (upd v D o) n:=fun a x=>by have ne:a≠D:=fun z=>u (by rw[<- z];exact x);rcases h a x with⟨⟨d,m,t,q,rest⟩,l⟩|⟨l,p⟩;exact .inl ⟨⟨d,m,t,by rw[Jg ne];exact q,rest⟩,l⟩;exact .inr ⟨l,p.upd ne y⟩
section
variable{X:Cx}{scope:dD}{own:List Str}{capt:List Nat}{elt tg iter:aQ}{ifs:List aQ}{pos:Pos}{di:DTA}{is:List Nat}{g:DTG}{tt:DTT}{te:DTE}
theorem zfO{u:En}{i:Nat}{c:Cell}(h:capV (u.getD i none)=some c):(∃d,c=.val d/\u[i]?=some (some (.val d)))\/∃ks,c=.rdo ks/\(u[i]?=some (some (.dct ks))\/u[i]?=some (some (.rdo ks))):=by
 rw[aM]at h;cases e:u[i]? with
 | none=>rw[e]at h;cases h
 | some o =>
  rw[e]at h;cases o with
  | none=>cases h
  | some c' =>
   cases c' with
   | val d'=>simp[capV]at h;exact .inl ⟨d',h.symm,rfl⟩
   | own _=>simp[capV]at h
   | dct ks=>simp[capV]at h;exact .inr ⟨ks,h.symm,.inl rfl⟩
   | dtt ks=>simp[capV]at h
   | rdo ks=>simp[capV]at h;exact .inr ⟨ks,h.symm,.inr rfl⟩
theorem zml{K:qF}{C:Ctx}{u:En}{σ:St}{H J:Hp}{n n2:Nat}{D:af}(S:Stt K C u σ H n)(e:ExtE C.hd H J)(Z:Hn K C.hd J n2)(hD:H D=none)(hy:MutO (J D)) :
  Stt K ⟨C.hd,fun a=>Own C u σ a\/a=D⟩ (Jw own.length capt u) (Jl own++capS capt σ) J n2/\∀a,¬OwnS (Jw own.length capt u) (Jl own++capS capt σ) a:=by
 have get:∀(i:Nat) c,(Jw own.length capt u)[i]?=some (some c)->∃j,capV (u.getD j none)=some c/\own.length<=i/\capt[i - own.length]?=some j:=fun i c h=>by
  unfold Jw at h;by_cases hi:i<own.length;rw[bu (by simpa using hi),cS]at h;split at h <;> cases h;rw[bH (by simpa using hi),gQ,aD]at h;cases ej:capt[i - own.length]? with
  | none=>rw[ej]at h;cases h
  | some j =>rw[ej]at h;exact⟨j,by simpa using h,by omega,rfl⟩
 have slot:∀(i j:Nat) (v:V),own.length<=i->capt[i - own.length]?=some j->σ[j]?=some (some v)->(Jl own++capS capt σ)[i]?=some (some v):=fun i j v hi I y=>by rw[bH (by simpa using hi)];simp only[aP,aD,I,eF];rw[aM,y];rfl
 have nm:∀(i:Nat) (c:Cell),c.mine=true->(Jw own.length capt u)[i]?=some (some c)->False:=fun i c m h=>by obtain⟨j,N,_⟩:=get i c h;rcases zfO N with⟨d,rfl,_⟩|⟨ks,rfl,_⟩ <;> cases m
 have no:∀a,¬OwnS (Jw own.length capt u) (Jl own++capS capt σ) a:=fun a ⟨i,c,m,y,_⟩=>nm i c m y;have S2:=S.on e Z;have sub:∀a o,H a=some o->Own ⟨C.hd,fun a=>Own C u σ a\/a=D⟩ (Jw own.length capt u) (Jl own++capS capt σ) a->Own C u σ a:=fun a o x z=>by rcases z with z|z;rcases z with z|z;exact z;subst z;rw[hD]at x;cases x;exact absurd z (no a)
 have kp:∀a o,¬Own C u σ a->H a=some o->J a=some o:=fun a o nO x=>e a o x fun z=>nO (.inl (S.hx a z));refine⟨.mk' (by unfold Jw;simp) (fun i d h=>?_) (fun i ds m h=>(nm i _ m h).elim) (fun i ks h=>?_) (fun i j ds es a m _ h=>(nm i _ m h).elim) Z (fun a x=>?_) (fun a x=>.inl (.inl (S.hx a x))),no⟩;obtain⟨j,N,hi,I⟩:=get i _ h;rcases zfO N with⟨d',z,e2⟩|⟨ks,z,_⟩;cases z;obtain⟨v,y,L⟩:=S.val j d e2;exact⟨v,slot i j v hi I y,L.mono sub kp⟩;cases z;obtain⟨j,N,hi,I⟩:=get i _ h;rcases zfO N with⟨d',z,e2⟩|⟨ks',z,e2⟩;cases z;cases z;rcases e2 with e2|e2;obtain⟨a,G,y,L,U,Y⟩:=S.dct j ks e2;have R:C.hd≠some a:=fun z=>Y (S.hx a z);exact⟨a,G,slot i j _ hi I y,e a _ L R,U.mono sub kp,.inl (.inr ⟨j,.dct ks,rfl,e2,y⟩),R⟩;obtain⟨a,G,y,L,U,Y,R⟩:=S.rdo j ks e2;exact⟨a,G,slot i j _ hi I y,e a _ L R,U.mono sub kp,.inl (.inl Y),R⟩;rcases x with x|rfl;exact S2.lst x;exact hy
theorem zfU{K:qF}{C:Ctx}{u:En}{σ:St}{H o:Hp}{n v:Nat}{D:af}{ys:List V}(S:Stt K C u σ H n)(e:ExtE C.hd H o)(G:Hn K C.hd o v)(x:H D=none)(y:o D=some (.lst ys)) :
  Stt K ⟨C.hd,fun a=>Own C u σ a\/a=D⟩ (Jw own.length capt u) (Jl own++capS capt σ) o v/\∀a,¬OwnS (Jw own.length capt u) (Jl own++capS capt σ) a:=zml S e G x (.inl ⟨_,y⟩)
def zqs(K:qF)(te:TE)(d:DTA):Prop:=∀(C:Ctx) (o:En) (σ:St) (H:Hp) (n:Nat) (Q:VK) (R:List ab->Nat->Prop),Stt K C o σ H n->d o n R ->
 (∀ts u p v H',R ts u->ExtE C.hd H H'->Hn K C.hd H' u->H p=none->H' p=some (.lst v)->Reps K C.hd (fun a=>Own C o σ a\/a=p) H' v ts->Q (.ref p) H')->te σ H Q
theorem zg6(hi:DIL X tg iter di)
  (hg:∀C s₀ H₀ u,DG (Jd X scope own capt C s₀ H₀ u) tg is g) (hin:∀i∈is,i<own.length) (ht:∀C s₀ H₀ u,DTs (Jd X scope own capt C s₀ H₀ u) ifs tt) (he:∀C s₀ H₀ u,DE (Jd X scope own capt C s₀ H₀ u) elt te) :
  ∃(wi:TI) (gg:TG) (gt:TT) (ge:TE),PI X tg iter wi/\(∀C s₀ H₀ u,PG (Jd X scope own capt C s₀ H₀ u) tg gg)/\(∀C s₀ H₀ u,PTs (Jd X scope own capt C s₀ H₀ u) ifs gt)/\(∀C s₀ H₀ u,PE (Jd X scope own capt C s₀ H₀ u) elt ge)/\zqs X.K (tComp own capt wi gg gt ge) (dComp own.length capt di g tt te):=by
 obtain⟨wi,pi,hi⟩:=hi;let Xf:(af×ak×Hp×List af)->Cx:=fun q=>Jd X scope own capt q.1 q.2.1 q.2.2.1 q.2.2.2;have hK:∀q,(Xf q).K=X.K:=fun _=>rfl;have hne:Nonempty (af×ak×Hp×List af):=⟨(0,X.s₀,X.H₀,[])⟩;obtain⟨gg,pg,hgg⟩:=DG.uni (Xf:=Xf) hK fun q=>hg q.1 q.2.1 q.2.2.1 q.2.2.2;obtain⟨gt,pt,hgt⟩:=DTs.uni (Xf:=Xf) hK fun q=>ht q.1 q.2.1 q.2.2.1 q.2.2.2;obtain⟨ge,pe,hge⟩:=DE.uni (Xf:=Xf) hK fun q=>he q.1 q.2.1 q.2.2.1 q.2.2.2;refine⟨wi,gg,gt,ge,pi,(fun C s₀ H₀ u=>pg (C,s₀,H₀,u)),(fun C s₀ H₀ u=>pt (C,s₀,H₀,u)),(fun C s₀ H₀ u=>pe (C,s₀,H₀,u)),fun C N σ H n Q R St hd hq=>?_⟩;refine hi C N σ H n _ _ St hd fun ts n1 J H1 r e1 hn it=>fun D I=>?_;have St1:=St.on e1 hn;have hD:H D=none:=Uw e1 hn I;have nhd:C.hd≠some D:=fun z=>St.dom (.inl (St.hx D z)) hD;refine zg7 (n:=ts.length) (fun i ys S=>∃y n2,JP g tt te (Jw own.length capt N) (ts.drop i) y n2 R/\Reps X.K C.hd (fun a=>Own C N σ a\/a=D) S ys y/\ExtE C.hd H1 S/\Hn X.K C.hd S n2)
  ⟨[],n1,by simpa using r,.nil,ExtE.new I,hn.same (JL I)⟩ ?_ ?_
 rintro i ys S hlt hy ⟨y,n2,c2,r2,e2,L⟩;have et:ts[i]?=some ts[i]:=ah hlt;rw[bf hlt]at c2;have Y:=it (fun a=>Own C N σ a\/a=D) S (fun a o G nh=>e2 a o G nh) (fun a o G no z=>z.elim no fun z=>by subst z;rw[I]at G;cases G) (fun a z=>z.elim (fun z=>(St1.on e2 L).dom z) fun z=>by subst z;rw[hy];exact fun z=>by cases z);obtain⟨go,yl⟩:=Y.1 i _ et;refine⟨go,fun x H3 hyd=>?_⟩;obtain⟨Z,rx⟩:=yl x H3 hyd;have hn3:=L.same Z;have e3:ExtE C.hd H1 H3:=e2.trans Z.ext;obtain⟨I3,no3⟩:=zfU (own:=own) (capt:=capt) (D:=D) (ys:=ys) St (e1.trans e3) hn3 hD (Z _ _ hy);have rx':Rep X.K C.hd (Own ⟨C.hd,fun a=>Own C N σ a\/a=D⟩ (Jw own.length capt N) (Jl own++capS capt σ)) H3 x ts[i]:=rx.mono (fun a o _ z=>z.elim id fun z=>absurd z (no3 a)) fun _ _ _ z=>z;refine hgg ⟨C.hd,fun a=>Own C N σ a\/a=D⟩ (Jw own.length capt N) (Jl own++capS capt σ) H3 n2 x ts[i] _ _ I3 rx' c2 fun ρ4 σ4 r4 S4 k4 hj hl=>⟨Wk.of hl.symm fun j v ej=>zka hin hj ej,?_⟩;refine hgt _ ρ4 σ4 H3 n2 _ _ S4 r4 fun b n5 H5 r5 e5 hn5=>?_;have S5:=S4.on e5 hn5;have hy5:H5 D=some (.lst ys):=e5 D _ (Z _ _ hy) nhd;have U:∀{H6},ExtE C.hd S H6->Reps X.K C.hd (fun a=>Own C N σ a\/a=D) H6 ys y:=fun e=>r2.mono (fun _ _ _ z=>z) fun a o no G=>e a o G fun z=>no (.inl (.inl (St.hx a z)));cases b with
 | false =>refine iteF ⟨ys,hy5,y,n5,by simpa using r5,U ((Same.ext Z).trans e5),e3.trans e5,hn5⟩
 | true =>
  refine iteT (hge _ ρ4 σ4 H5 n5 _ _ S5 (by simpa using r5) fun t n6 v H6 r6 e6 hn6 q6=>?_);have hy6:H6 D=some (.lst ys):=e6 D _ hy5 nhd;have rl:=(U ((Same.ext Z).trans (e5.trans e6))).length;refine⟨ys,hy6,by rw[rl];exact r6.1,y++[t],n6,r6.2,?_,?_,?_⟩;have q6':Rep X.K C.hd (fun a=>Own C N σ a\/a=D) H6 v t:=q6.mono (fun _ _ _ z=>.inl z) fun _ _ _ z=>z;have all:=(U ((Same.ext Z).trans (e5.trans e6))).append (Reps.cons q6' .nil);exact all.mono (fun _ _ _ z=>z) fun a o no G=>by rw[Jg (show a≠D from fun z=>no (.inr z))];exact G
  exact ExtE.updR I (e3.trans (e5.trans e6));exact Hn.updR nhd (.inl ⟨_,hy6⟩) hn6
 rintro ys S hy ⟨y,n2,c2,r2,e2,L⟩;rw[fH]at c2;have Y:=it (fun a=>Own C N σ a\/a=D) S (fun a o G nh=>e2 a o G nh) (fun a o G no z=>z.elim no fun z=>by subst z;rw[I]at G;cases G) (fun a z=>z.elim (fun z=>(St1.on e2 L).dom z) fun z=>by subst z;rw[hy];exact fun z=>by cases z);exact⟨Y.2,hq y n2 D ys S c2 (e1.trans e2) L hD hy r2⟩
theorem zl4(hc:X.calm=true)(S:JO scope own capt X)(hi:DIL X tg iter di)
  (v:∀C s₀ H₀ l,DG (Jd X scope own capt C s₀ H₀ l) tg is g) (u:∀i∈is,i<own.length) (I:∀C s₀ H₀ l,DTs (Jd X scope own capt C s₀ H₀ l) ifs tt) (he:∀C s₀ H₀ l,DE (Jd X scope own capt C s₀ H₀ l) elt te)
  (y:∀x,foldedSetIterable iter X.env x=pure x:=by intro _;rfl):DN X (.ListComp elt [⟨tg,iter,ifs,0⟩] scope pos) (dComp own.length capt di g tt te):=by
 obtain⟨wi,J,gt,ge,a,b,c,d,G⟩:=zg6 hi v u I he;exact⟨_,znf hc S a b c d y,G⟩
def DNA(X:Cx)(x:Str)(l:Pos)(e:aQ)(pos:Pos)(i:Nat)(d:DTA):Prop:=∃te,PS X (.Assign [.Name x l] e pos) (tAsg te (Yo i))/\zqs X.K te d
theorem zi5{x:Str}{u J:Pos}{i:Nat}(Z:X.N.Nodup)(I:X.N[i]?=some x)(hx:Loc X.env.scope x)(hc:X.calm=true)(S:JO scope own capt X)(hi:DIL X tg iter di)
  (R:∀C s₀ H₀ v,DG (Jd X scope own capt C s₀ H₀ v) tg is g) (y:∀i∈is,i<own.length) (ht:∀C s₀ H₀ v,DTs (Jd X scope own capt C s₀ H₀ v) ifs tt) (he:∀C s₀ H₀ v,DE (Jd X scope own capt C s₀ H₀ v) elt te)
  (U:∀x,foldedSetIterable iter X.env x=pure x:=by intro _;rfl) (G:swapsWith (.ListComp elt [⟨tg,iter,ifs,0⟩] scope pos) (some (.Name x u)) J.line X.env=pure true:=by rfl)
  (hf:X.fn x=true\/X.env.scope.names.lookup x=some .local:=by walk_at "F") :
  DNA X x u (.ListComp elt [⟨tg,iter,ifs,0⟩] scope pos) J i (dComp own.length capt di g tt te):=by
 obtain⟨wi,gg,gt,ge,a,b,c,d,Y⟩:=zg6 hi R y ht he;exact⟨_,zkI hc S a b c d Z I hx U G hf,Y⟩
theorem zhY{x:Str}{o y:Pos}{e:aQ}{i:Nat}{d:DTA}(h:DNA X x o e y i d):DS X (.Assign [.Name x o] e y) (sSet i (dNew d)):=by obtain⟨Y,pa,h⟩:=h;refine⟨_,pa,fun C U σ H n D Z S hd g=>?_⟩;refine h C U σ H n _ _ S hd fun ts R p vs H' r v L J G I=>?_;exact g.nx _ _ H' R r ((S.on v L).put (.lst G (S.free J|> fun z=>z) (I.mono (fun _ _ _ z=>.inl z) fun _ _ _ z=>z))) (v.keep.trans UD)
end
def YC(K:qF):Sp:=fun l H Q _=>∃(a:af) (ns:List Int) (k:Int),l=[.ref a,.int k]/\SqL K H a (ns.map V.int)/\ns.length<=63/\0<=k/\k<=100 /\
 ∀hd H',H hd=none->Yt H' hd 0->Same H H'->Q (.ref hd) H'
def ztg(hd:af)(H H':Hp):Prop:=∀b o,H b=some o->b≠hd->H' b=some o
def zn8:Sp:=fun l H Q _=>∃(hd:af) (many n:Int),l=[.ref hd,.int many]/\Yt H hd n/\n<=1000000000000/\0<many/\many<2 ^ 128 /\
 ∀(r:Int) H',0<=r->r<many->Yt H' hd (n+1)->ztg hd H H'->Q (.int r) H'
def Uo:GD:=fun ts n R=>match ts with
 | [h,.int many]=>h=HAND/\0<many/\many<2 ^ 128/\n<=1000000000000/\∀r:Int,0<=r->r<many->R (.int r) (n+1)
 | _=>False
theorem zmW{K:qF}(x:List V)(H:Hp)(Q:VK)(E:XK)(h:spD K 2 Uo x H Q E):zn8 x H Q E:=by
 obtain⟨hd,O,ts,n,R,r,I,dom,hx,hl,g,G⟩:=h;unfold Uo at g;split at g;rename_i y many;obtain⟨rfl,m0,S,L,g⟩:=g;cases r with
 | cons U r =>
  cases r with
  | cons J r =>
   cases r;obtain⟨a,rfl,u⟩:=U.handI;rw[J.intI];have N:Yt H a n:=(I a u).elim (·.1) fun z=>by have:=z.1;omega
   refine⟨a,many,n,rfl,N,by omega,m0,S,fun q H' Y q1 y Z=>?_⟩;refine G _ (n+1) _ H' (g q Y q1) (fun b o C nb=>Z b o C fun z=>nb (by rw[u,z])) (fun b v=>?_) (.int _);rw[u]at v;cases v;exact .inl ⟨y,by omega⟩
 exact g.elim
def ZM:Option (Option Cell)->(List ab->Prop)->Prop
 | some (some (.val (.dict [(.none,.list ts)]))),R=>R ts
 | _,_=>False
def Jr(u:En):En:=match (u[(0:Nat)]?:Option (Option Cell)) with
 | some (some (.val (.dict [(.none,.list ts)])))=>some (.val (.dict [(.none,.list ts)]))::aU (u.length - 1) none
 | _=>aU u.length none
def intOf:Option (Option Cell)->(Int->Prop)->Prop
 | some (some (.val (.int k))),R=>R k
 | _,_=>False
def UI(i j:Nat)(u:DTS):DTS:=fun D y n=>ZM y[0]? fun ts=>intOf y[j]? fun k=>(∃ns:List Int,ts=ns.map bo/\ns.length<=63)/\0<=k/\k<=100 /\
 u { nx:=fun x _=>D.nx (Jr x) n,rt:=fun t _=>∃b,t=.bool b/\D.rt t n,bk:=fun x _=>D.bk (Jr x) n,ct:=fun x _=>D.ct (Jr x) n } (((Jr y).set j (some (.val (.int k)))).set i (some (.val HAND))) 0
theorem UC(h:(Jr ρ)[i]?=some (some c)):i=0/\ρ[0]?=some (some c)/\∃ts,c=.val (.dict [(.none,.list ts)]):=by
 unfold Jr at h;split at h;rename_i ts e;cases i with
 | zero=>simp at h;subst h;exact⟨rfl,e,ts,rfl⟩
 | succ i =>rw[dS,cS]at h;split at h <;> cases h
 rw[cS]at h;split at h <;> cases h
theorem znO:(Jr ρ).length=ρ.length:=by
 unfold Jr;split;rename_i ts e;cases ρ with
 | nil=>simp at e
 | cons a r=>simp
 simp
theorem Zf:¬OwnS (Jr ρ) σ a:=fun⟨i,ds,m,h,_⟩=>by obtain⟨_,_,ts,e⟩:=UC h;subst e;cases m
theorem Rep.scrHd{K:qF}{hd G:Option af}{O I:af->Prop}{H H':Hp}{v:V}{ts:qD}(h:Rep K hd O H v (.dict [(.none,.list ts)]))(C:∀a o,H a=some o->¬O a->H' a=some o/\¬I a):Rep K G I H' v (.dict [(.none,.list ts)])/\∃ns:List Int,ts=ns.map bo:=by
 generalize e:(oA [(l5,uV ts)])=t at h;cases h with
 | @scr a ns x o =>
  have y:ts=ns.map bo:=by simpa[SCR] using e
  subst y;refine⟨?_,ns,rfl⟩;rcases x with x|⟨u,x⟩;exact .scr (.inl (C a _ x o).1) (C a _ x o).2;exact .scr (.inr ⟨u,(C a _ x o).1⟩) (C a _ x o).2
 | @scrS a ns x =>
  have y:ts=ns.map bo:=by simpa[SCR] using e
  subst y;exact⟨.scrS x,ns,rfl⟩
 | hand _=>simp[HAND]at e
 | dct _ _=>cases e
 | dcK _ _ _ y=>cases e;exact(dict_noK y).elim
 | dcT _ _ _ y=>cases e;exact(dict_noT y).elim
 | _=>cases e
theorem Stt.drop{K:qF}{C u:Ctx}{l:En}{σ:St}{H H':Hp}{n G:Nat}(S:Stt K u l σ H n)(J:Hn K C.hd H' G)(R:∀a,C.ext a->MutO (H' a))(hx:∀a,C.hd=some a->C.ext a)
  (x:∀a o,H a=some o->¬Own u l σ a->H' a=some o/\¬C.ext a):Stt K C (Jr l) σ H' G where
 len:=by rw[znO];exact S.len
 val:=fun i d h=>by obtain⟨rfl,U,ts,I⟩:=UC h;cases I;obtain⟨v,N,L⟩:=S.val 0 _ U;exact⟨v,N,(L.scrHd fun a o y no=>⟨(x a o y no).1,fun z=>z.elim (x a o y no).2 Zf⟩).1⟩
 own:=fun i ds h=>by obtain⟨_,_,ts,e⟩:=UC h;cases e
 dct:=fun i ds h=>by obtain⟨_,_,ts,e⟩:=UC h;cases e
 rdo:=fun i ds h=>by obtain⟨_,_,ts,e⟩:=UC h;cases e
 dtt:=fun i ds h=>by obtain⟨_,_,ts,e⟩:=UC h;cases e
 dif:=fun i j ds es a m _ h=>by obtain⟨_,_,ts,e⟩:=UC h;subst e;cases m
 hnd:=J
 ext:=R
 hx:=hx
section
variable{X:Cx}{st:dE}{sts:List dE}{ps:List Str}{f:af}{fd:cH}{u:DTS}{x s kx hx:Str}{pos pos' p p1 p2 p3:Pos}{k:Nat}
theorem znM{i j:Nat}(D:Bd.Def X.K X.mg hx st ps f fd)(G:FnOk X.prog X.w X.K X.mg X.base CX0 k f fd ps (YC X.K))(hr:Room k X.A)(hN:X.N.Nodup)(hi:X.N[i]?=some x)(hlx:Loc X.env.scope x)(hu:DSs X sts u)(hij:i≠0:=by decide)(hj0:j≠0:=by decide)(hji:j≠i:=by decide)
  (h0:X.N[0]?=some s:=by rfl) (hj:X.N[j]?=some kx:=by rfl) (hv0:Vis X.env.scope s:=by walk_at "V") (hvj:Vis X.env.scope kx:=by walk_at "V")
  (hd0:(s == ("__debug__":Str))=false:=by rfl) (Ig:(s == ("__classdict__":Str))=false:=by rfl) (hdj:(kx == ("__debug__":Str))=false:=by rfl) (Im:(kx == ("__classdict__":Str))=false:=by rfl) (hg:Gl X hx:=by rfl) (hdb:(hx == ("__debug__":Str))=false:=by rfl)
  (hs:swapsWith (.Call (.Name hx p) [.Name s p1,.Name kx p2] [] p3) (some (.Name x pos')) pos.line X.env=pure false:=by rfl) (hf:X.fn x=true\/X.env.scope.names.lookup x=some .local:=by walk_at "F") :
  DSs X (.Assign [.Name x pos'] (.Call (.Name hx p) [.Name s p1,.Name kx p2] [] p3) pos::sts) (UI i j u):=by
 obtain⟨tu,pu,hu⟩:=hu;refine⟨_,Qo (Qm hN hi hlx (Bd.znh D G hr (JY (Qe h0 hv0 hd0 Ig) (JY (Qe hj hvj hdj Im) Qk rfl) rfl) hg hdb) hs hf) pu,fun C ρ σ H n Dn D' S hd g=>?_⟩;unfold UI ZM at hd;split at hd;rename_i ts e0;unfold intOf at hd;split at hd;rename_i R ej;obtain⟨⟨ns,rfl,hl⟩,k0,k1,hd⟩:=hd;obtain⟨v0,s0,r0⟩:=S.val 0 _ e0;obtain⟨vj,sj,rj⟩:=S.val j _ ej;obtain⟨a0,rfl,sq0⟩:=r0.scrI;rw[rj.intI]at sj;refine⟨_,s0,_,sj,?_⟩;refine⟨a0,ns,R,rfl,sq0,hl,k0,k1,fun h H1 U hok L=>?_⟩;have S1:=S.on (Same.ext L:ExtE C.hd H H1) (S.hnd.same L);have nx:¬Own C ρ σ h:=fun z=>S.dom z U;have Sd:Stt X.K ⟨some h,fun a=>C.ext a\/a=h⟩ (Jr ρ) σ H1 0:=S.drop (fun a Z=>by cases Z;exact .inl ⟨hok,by decide⟩) (fun a z=>z.elim (fun z=>S1.ext a z) fun z=>by subst z;obtain⟨_,_,_,q,_⟩:=hok;exact .inl ⟨_,q⟩) (fun a Z=>.inr (by cases Z;rfl))
  (fun a o I no=>⟨L a o I,fun z=>z.elim (fun z=>no (.inl z)) fun z=>by subst z;rw[U]at I;cases I⟩)
 have Sd2:=(Sd.put (i:=j) (t:=.int R) (v:=.int R) (.int R)).put (i:=i) (t:=HAND) (v:=.ref h) (.hand rfl);have Ie:∀a,¬OwnS (((Jr ρ).set j (some (.val (.int R)))).set i (some (.val HAND))) ((σ.set j (some (.int R))).set i (some (.ref h))) a:=fun a z=>Zf (Zn (Zn z));have es:(σ.set j (some (V.int R)))=σ:=by
  apply iK;intro q;by_cases z:j=q;subst z;have:j<σ.length:=by rcases bw j σ.length with w|w;exact w;rw[bp w]at sj;cases sj
  rw[zkn this,sj];rw[cR z]
 rw[es]at Sd2 Ie;refine hu _ _ _ H1 0 _ _ Sd2 hd ?_;have back:∀{y σ' H' n'},Stt X.K ⟨some h,fun a=>C.ext a\/a=h⟩ y σ' H' n'->(∀a o,H1 a=some o->some h≠some a->H' a=some o)->Stt X.K C (Jr y) σ' H' n:=fun {y σ' H' n'} S' kp =>
  S'.drop (fun a Z=>by
    rcases S.hnd a Z with⟨⟨d,m,t,q,rest⟩,l⟩|⟨l,q⟩;exact .inl ⟨⟨d,m,t,kp a _ (L _ _ q) (fun z=>by cases z;rw[U]at q;cases q),rest⟩,l⟩;exact .inr ⟨l,q.same fun b o e=>kp b _ (L _ _ e) (fun z=>by cases z;rw[U]at e;cases e)⟩)
   (fun a z=>by rcases S.ext a z with⟨xs,q⟩|⟨xs,q⟩|⟨b,q⟩;exact .inl ⟨xs,kp a _ (L _ _ q) (fun z=>by cases z;rw[U]at q;cases q)⟩;exact .inr (.inl ⟨xs,kp a _ (L _ _ q) (fun z=>by cases z;rw[U]at q;cases q)⟩);exact .inr (.inr ⟨b,kp a _ (L _ _ q) (fun z=>by cases z;rw[U]at q;cases q)⟩)) S.hx (fun a o I no=>⟨I,fun z=>no (.inl (.inl z))⟩)
 have Y:∀{y σ' H'},Keep ⟨some h,fun a=>C.ext a\/a=h⟩ (((Jr ρ).set j (some (.val (.int R)))).set i (some (.val HAND))) (σ.set i (some (.ref h))) H1 y σ' H'->∀a o,H1 a=some o->some h≠some a->H' a=some o:=fun k a o I na=>(k a o I na (Ie a)).1;have kp2:∀{y σ' H'},Keep ⟨some h,fun a=>C.ext a\/a=h⟩ (((Jr ρ).set j (some (.val (.int R)))).set i (some (.val HAND))) (σ.set i (some (.ref h))) H1 y σ' H'->Keep C ρ σ H (Jr y) σ' H':=fun k a o I _ _=>⟨Y k a o (L a o I) (fun z=>by cases z;rw[U]at I;cases I),Zf⟩;refine⟨fun y σ' H' n' h' S' J=>g.nx _ _ H' n h' (back S' (Y J)) (kp2 J),fun t n' v H' h' hn' J rp=>?_,fun y σ' H' n' h' S' J=>g.bk _ _ H' n h' (back S' (Y J)) (kp2 J),fun y σ' H' n' h' S' J=>g.ct _ _ H' n h' (back S' (Y J)) (kp2 J),fun _ _ _ h=>h.elim⟩;obtain⟨b,rfl,h'⟩:=h';rw[rp.blI];have kq:∀a o,H a=some o->H' a=some o:=fun a o I=>J a o (L a o I) (fun z=>by cases z;rw[U]at I;cases I) (Ie a);refine g.rt _ n _ H' h' (fun a Z=>?_) (fun a o I _ _=>kq a o I) (.bl b);rcases S.hnd a Z with⟨⟨d,m,t,q,rest⟩,l⟩|⟨l,q⟩;exact .inl ⟨⟨d,m,t,kq a _ q,rest⟩,l⟩;exact .inr ⟨l,q.same kq⟩;exact hd.elim;exact hd.elim
end
def zoK(K:qF):Sp:=fun o H Q _=>∃(a:af) (ns:List Int),o=[.ref a]/\SqL K H a (ns.map V.int)/\ns.length<=63/\∀H',Q (.bl true) H'
def zsL:GD:=fun ts n R=>∃ns:List Int,ts=[SCR ns]/\ns.length<=63/\∀u,R (.bool true) u
theorem zpB{K:qF}(u:List V)(H:Hp)(Q:VK)(E:XK)(h:zoK K u H Q E):spD K 1 zsL u H Q E:=by obtain⟨a,ns,rfl,sq,y,q⟩:=h;refine⟨none,fun _=>False,[SCR ns],0,fun t _=>t=.bool true,.cons ?_ .nil,(fun a e=>by cases e),(fun a z=>z.elim),(fun a e=>by cases e),rfl,⟨ns,rfl,y,fun _=>rfl⟩,fun t G v H' C _ _ x=>?_⟩;rcases sq with sq|sq;exact .scr sq (fun z=>z);exact .scrS fun _=>.inr sq;subst C;rw[x.blI];exact q H'
section
variable{env:Env}{es:List aQ}{a b:aQ}{l1 l2:List aQ}{p:Pos}{x:Str}
theorem Jp:starEach (.Name x p::es) env=(false,eval (.Name x p) env)::starEach es env:=rfl
theorem zkj{j}:starEach (.Constant (.int i) j p::es) env=(false,eval (.Constant (.int i) j p) env)::starEach es env:=rfl
theorem U3{c d}:starEach (.Call a l1 c d::es) env=(false,eval (.Call a l1 c d) env)::starEach es env:=rfl
theorem UT{o}:starEach (.BinOp a o b p::es) env=(false,eval (.BinOp a o b p) env)::starEach es env:=rfl
theorem Vg{g s}:starEach (.ListComp a g s p::es) env=(false,eval (.ListComp a g s p) env)::starEach es env:=rfl
end
section
variable{X:Cx}{a b c e:aQ}{da db dc:DTE}{pos p:Pos}{r r':R2}{g g':G2}
theorem zi4(ho:OpR X (compareOp op) r)(hg:Gp2 X r g)(Z:OpR X (compareOp op') r')(J:Gp2 X r' g')(Y:DL X a da)(N:DL X b db)(hc:DL X c dc)
  (hm:lastMarks [op,op'] [b,c]=false:=by with_unfolding_all rfl):DT X (.Compare a [op,op'] [b,c] pos) (Uk (YT g g' da db dc)):=by
 obtain⟨ta,pa,Y⟩:=Y;obtain⟨tb,pb,N⟩:=N;obtain⟨tc,pc,hc⟩:=hc;refine⟨_,zm_ ho Z pa pb pc hm,fun C ρ σ H n Q R S h hq=>?_⟩;refine two Y N S h fun x y n2 v w H2 r2 e S2 q1 q2=>?_;refine hg C.hd (Own C ρ σ) H2 v w x y _ _ (fun p=>S2.dom) q1 q2 r2 fun z u H' l I U=>?_;have S3:=S2.on I.ext (S2.hnd.same I);cases z with
 | bool k =>
  cases U;refine⟨k,rfl,?_⟩;cases k with
  | false=>exact iteF ⟨false,rfl,hq _ n2 H' l (e.trans I.ext) S3.hnd⟩
  | true =>
   refine iteT (hc C ρ σ H' n2 _ _ S3 l fun z2 n3 w2 H4 r4 L h4 q4=>?_);have S4:=S3.on L h4;have q2':=L.repT S.hx ((Same.ext I:ExtE C.hd H2 H').repT S.hx q2);refine J C.hd (Own C ρ σ) H4 w w2 y z2 _ _ (fun p=>S4.dom) q2' q4 r4 fun z u H' l G U=>?_;cases z with
   | bool k=>cases U;exact⟨k,rfl,hq _ n3 H' l (((e.trans I.ext).trans L).trans G.ext) (S4.hnd.same G)⟩
   | _=>exact l.elim
 | _=>exact l.elim
end
section
variable{C:Int->Int->Prop}{f:Int->Int->Int}{fb:Int->Int->Bool}{i j k:Int}{R:ab->Prop}{Rb:Bool->Prop}{xs ys:qD}{s t:Str}{a b:Bool}{u v:ab}
theorem l_gI:gI C f (.int i) (.int j) R=(C i j/\R (.int (f i j))):=propext aR
theorem ZD:gI0 f (.int i) (.int j) R=R (.int (f i j)):=propext aR
theorem YH:oAdd (.int i) (.int j) R=R (.int (i+j)):=propext aR
theorem Ye:oEq (.int i) (.int j) R=R (.bool (decide (i=j))):=propext aR
theorem Yh:oEq (.tuple xs) (.tuple ys) R=(Okd (.tuple xs)/\Okd (.tuple ys)/\R (.bool (cq (.tuple xs) (.tuple ys)))):=propext aR
theorem Yg:oEq (.list xs) (.list ys) R=(Okd (.list xs)/\Okd (.list ys)/\R (.bool (cq (.list xs) (.list ys)))):=propext aR
theorem Ym:oNe (.int i) (.int j) R=R (.bool (!decide (i=j))):=propext aR
theorem Yn:oNe (.list xs) (.list ys) R=(Okd (.list xs)/\Okd (.list ys)/\R (.bool (!PyData.eqv (.list xs) (.list ys)))):=propext aR
theorem Y3:oIsN u .none R=R (.bool (!isNone u)):=by cases u <;> exact propext aR
theorem Zj:Yy u (.tuple xs) R=(Okd u/\(∀t∈xs,Okd t)/\R (.bool (!xs.any fun t=>t.eqv u))):=by cases u <;> exact propext aR
theorem Yj:oLtA (.int i) (.int j) R=R (.bool (decide (i<j))):=propext aR
theorem Yi:oLeA (.int i) (.int j) R=R (.bool (decide (i<=j))):=propext aR
theorem UL(h:atI xs i=some x):oIx (.list xs) (.int i) R=R x:=by show(match atI xs i with|some t=>R t|none=>False)=_;rw[h]
theorem ZE(h:atI xs i=some x):oIx (.tuple xs) (.int i) R=R x:=by show(match atI xs i with|some t=>R t|none=>False)=_;rw[h]
theorem YL:oIx (.tuple (u::xs)) (.int 0) R=R u:=ZE (by unfold atI ixN;simp)
theorem YM:oIx (.tuple (u::v::xs)) (.int 1) R=R v:=ZE (by unfold atI ixN;simp;rw[if_pos (by omega)];rfl)
theorem YJ:oIx (.list (u::xs)) (.int 0) R=R u:=UL (by unfold atI ixN;simp)
theorem YK:oIx (.list (u::v::xs)) (.int 1) R=R v:=UL (by unfold atI ixN;simp;rw[if_pos (by omega)];rfl)
theorem YN:truD (.bool a) Rb=Rb a:=propext aR
theorem YO:truD (.list xs) Rb=Rb (!xs.isEmpty):=propext aR
theorem YQ:truD (.tuple xs) Rb=Rb (!xs.isEmpty):=propext aR
theorem Yd:bolD (.bool a) Rb=Rb a:=propext aR
theorem Yl:bMin [.int i,.int j] R=R (.int (if j<i then j else i)):=propext aR
theorem Yk:bMax [.int i,.int j] R=R (.int (if j > i then j else i)):=propext aR
theorem YI:bInt [.bool a] R=R (.int (if a then 1 else 0)):=propext aR
theorem Zk:Yw [.list xs] R=R (.tuple xs):=propext aR
theorem Y4:JW (.list xs) Rl=Rl xs:=propext aR
theorem Zi:JW (.tuple xs) Rl=Rl xs:=propext aR
theorem zrV(y:String)(h:y∈["NoneType","bool","int","str","list","tuple","dict"]):kitB y "int" = some (decide (y = "int")||decide (y = "bool")):=by simp only[aC,cV,or_false]at h;rcases h with rfl|rfl|rfl|rfl|rfl|rfl|rfl <;> decide +kernel
theorem zpE(y:String)(h:y∈["NoneType","bool","int","str","list","tuple","dict"]):kitB y "bool" = some (decide (y = "bool")):=by simp only[aC,cV,or_false]at h;rcases h with rfl|rfl|rfl|rfl|rfl|rfl|rfl <;> decide +kernel
theorem znv(y:String)(h:y∈["NoneType","bool","int","str","list","tuple","dict"]):kitB y "tuple" = some (decide (y = "tuple")):=by simp only[aC,cV,or_false]at h;rcases h with rfl|rfl|rfl|rfl|rfl|rfl|rfl <;> decide +kernel
def Pln(t:ab):Prop:=tyN t≠none
def isInt:ab->Bool|.int _=>true|.bool _=>true|_=>false
def isBool:ab->Bool|.bool _=>true|_=>false
def isTup:ab->Bool|.tuple _=>true|_=>false
variable{d:DTE}{ρ:En}{n:Nat}{Rn:qN}
theorem zhw(h:tyN u=some y):y∈["NoneType","bool","int","str","list","tuple","dict"]:=by unfold tyN at h;split at h <;> cases h <;> simp
def isiD(f:ab->Bool)(d:DTE):DTE:=fun ρ n R=>d ρ n fun t x=>Pln t/\R (.bool (f t)) x
end
section
variable{X:Cx}{e:aQ}{d:DTE}{p p2 pos:Pos}
theorem Vl(hk:∀t y,tyN t=some y->kitB y T=some (f t))(U:X.mg "isinstance" = none) (o:X.mg y=none) (hT:bootBuiltins y=some (.type T)) (h:DL X e d) (Y:starEach (e::[.Name y p2]) X.env=(false,eval e X.env)::starEach [.Name y p2] X.env) (I:Gl X "isinstance":=by rfl) (u:Gl X y:=by rfl) (L:y ≠ "__name__":=by decide) (hd:(y == ("__debug__":Str))=false:=by rfl) :
  DE X (.Call (.Name "isinstance" p) [e,.Name y p2] [] pos) (isiD f d):=by
 obtain⟨ta,pa,h⟩:=h;refine⟨_,UG zmy U zn1 (JY pa (zph (Bd.zuH o hT u L hd) Qk) Y) I,fun C G σ H n Q R S hd J=>?_⟩;refine h C G σ H n _ _ S hd fun t n1 v Z x e1 h1 q1=>?_;cases et:tyN t with
 | none=>exact absurd et x.1
 | some z=>exact⟨v,C.hd,Own C G σ,t,T,z,f t,rfl,q1,et,hk t z et,J _ n1 _ Z x.2 e1 h1 (.bl _)⟩
theorem zsG:∀t y,tyN t=some y->kitB y "int" = some (isInt t):=fun t y e=>by rw[zrV y (zhw e)];unfold tyN at e;split at e <;> cases e <;> rfl
theorem zlK:∀t y,tyN t=some y->kitB y "bool" = some (isBool t):=fun t y e=>by rw[zpE y (zhw e)];unfold tyN at e;split at e <;> cases e <;> rfl
theorem znF:∀t y,tyN t=some y->kitB y "tuple" = some (isTup t):=fun t y e=>by rw[znv y (zhw e)];unfold tyN at e;split at e <;> cases e <;> rfl
theorem U2:Pln (.int i):=by simp[Pln,tyN]
theorem Zz:Pln (.tuple i):=by simp[Pln,tyN]
end
abbrev blk(i h:Int):ab:=.tuple [.int i,.int h]
theorem UZ:Okd (.tuple [.int i,.int h]):=⟨by simp[cz,bB],by simp[d4,cf]⟩
theorem znJ:cq (.tuple [.int i,.int h]) (.tuple [.int j,.int g])=(decide (i=j)&&decide (h=g)):=by simp only[cq,cE,iM];rw[lJ,lJ]
def IsBk(bits i h:Int):Prop:=0<=h/\h<=bits/\∃k:Int,0<=k/\i=k*2 ^ h.toNat/\k<2 ^ (bits - h).toNat
theorem Zo(k:Nat):(0:Int)<2 ^ k:=Bd.Uc k
theorem ziA:(2:Int) ^ (a+b)=2 ^ a*2 ^ b:=fD 2 a b
theorem IsBk.bounds(x:0<=bits)(H:IsBk bits i h):0<=i/\i+2 ^ h.toNat<=2 ^ bits.toNat:=by
 obtain⟨h0,u,k,l,rfl,v⟩:=H;have p:=Zo h.toNat;refine⟨Int.mul_nonneg l (fh p),?_⟩;have e:bits.toNat=(bits - h).toNat+h.toNat:=by lia
 rw[e,ziA];have:(k+1)*2 ^ h.toNat<=2 ^ (bits - h).toNat*2 ^ h.toNat:=bz (by lia) (fh p);rw[cA,bI]at this;exact this
theorem cpow(h0:0<=j)(l:j<=1000000):CPow 1 j:=⟨h0,l,by decide⟩
section
variable{t u tb:DTS}{D:JH}{ρ ρ0:En}{n i j m:Nat}{d da db dc d1 d2:DTE}{ds di:DTA}{c c' tt:DTT}{g:G2}{g':G2}{gc:GC}{gd:GD}{tg:DTG}{tgs:DTGs}{R:qN}{Rb:Bool->Nat->Prop}{Rl:List ab->Nat->Prop}{Re:En->Prop}{x y:ab}{xs ys acc:qD}{f:Int->Int->Int}{fb:ab->Bool}{k:Bool}{capt:List Nat}{h:Option Cell}
theorem Z2:(sSeq t u D ρ n)=(t { D with nx:=u D } ρ n):=propext aR
theorem Z1:(sRet d D ρ n)=(d ρ n fun t l=>D.rt t l):=propext aR
theorem Z3:(sSet i d D ρ n)=(d ρ n fun t o=>D.nx (ρ.set i (some (.val t))) o):=propext aR
theorem Z0:(sAsg d tg D ρ n)=(d ρ n fun t o=>tg t ρ fun l=>D.nx l o):=propext aR
theorem u_dC:(dC x ρ n R)=(R x n):=propext aR
theorem ZP:(dOp g da db ρ n R)=(da ρ n fun x o=>db ρ o fun y l=>g x y fun z=>R z l):=propext aR
theorem ZU:(dNew ds ρ n R)=(ds ρ n fun ts o=>R (.list ts) o):=propext aR
theorem ZW:(dTup ds ρ n R)=(ds ρ n fun ts o=>R (.tuple ts) o):=propext aR
theorem ZV:(dNil ρ n Rl)=(Rl [] n):=propext aR
theorem Vi:(Qf d ds ρ n Rl)=(d ρ n fun t o=>ds ρ o fun ts l=>Rl (t::ts) l):=propext aR
theorem ZO:(dFn gd ds ρ n R)=(ds ρ n fun ts l=>gd ts l R):=propext aR
theorem Vu:(YS gc ds ρ n R)=(ds ρ n fun ts l=>gc ts fun z=>R z l):=propext aR
theorem Vw:(Qb i x ρ Re)=(Re (ρ.set i (some (.val x)))):=propext aR
theorem Vk:(Ug tgs (.tuple xs) ρ Re)=(tgs xs ρ Re):=propext aR
theorem Vj:(Uf [] ρ Re)=(Re ρ):=propext aR
theorem Vv:(QM tg tgs (x::xs) ρ Re)=(tg x ρ fun l=>tgs xs l Re):=propext aR
def cVal:Option Cell->(ab->Prop)->Prop
 | some (.val d),R=>R d
 | _,_=>False
def cOwn:Option Cell->(List ab->Prop)->Prop
 | some (.own d),R=>R d
 | _,_=>False
theorem Z6:cVal (some (.val x)) Q=Q x:=propext aR
theorem ZY:dVar i ρ n R=cVal (ρ.getD i none) fun d=>R d n:=by
 unfold dVar;rw[aM];cases e:ρ[i]? with
 | none=>exact propext aR
 | some o=>cases o with
  | none=>exact propext aR
  | some c=>cases c <;> exact propext aR
theorem Zb:Uk d ρ n Rb=(d ρ n fun t l=>bolD t fun b=>Rb b l):=by unfold Uk;congr 1;funext t l;cases t <;> exact propext aR
def lLst:ab->(List ab->Prop)->Prop
 | .list xs,R=>R xs
 | _,_=>False
def lTup:ab->(List ab->Prop)->Prop
 | .tuple xs,R=>R xs
 | _,_=>False
theorem YD:dItL d ρ n Rl=(d ρ n fun t l=>lLst t fun ts=>Rl ts l):=by unfold dItL;congr 1;funext t l;cases t <;> exact propext aR
theorem YX:dItT d ρ n Rl=(d ρ n fun t l=>lTup t fun ts=>Rl ts l):=by unfold dItT;congr 1;funext t l;cases t <;> exact propext aR
def lInt:ab->(Int->Prop)->Prop
 | .int i,R=>R i
 | _,_=>False
theorem Y9:U5 d ρ n Rl=(d ρ n fun t l=>lInt t fun j=>(-(2 ^ 62)<=j/\j<2 ^ 62)/\Rl (JX 0 j.toNat) l):=by unfold U5;congr 1;funext t l;cases t <;> exact propext aR
theorem Za:U6 d1 d2 ρ n Rl=(d1 ρ n fun t v=>d2 ρ v fun u l=>lInt t fun i=>lInt u fun j=>(-(2 ^ 62)<=i/\i<2 ^ 62/\-(2 ^ 62)<=j/\j<2 ^ 62)/\Rl (JX i (j - i).toNat) l):=by unfold U6;congr 1;funext t v;congr 1;funext u l;cases t <;> cases u <;> exact propext aR
theorem YY:dNeg d ρ n R=(d ρ n fun t l=>lInt t fun i=>R (.int (-i)) l):=by unfold dNeg;congr 1;funext t l;cases t <;> exact propext aR
def Yb:List ab->(ab->ab->Prop)->Prop
 | [x,y],R=>R x y
 | _,_=>False
theorem YZ:sPar i j ds D ρ n=(ds ρ n fun ts o=>Yb ts fun t u=>D.nx ((ρ.set i (some (.val t))).set j (some (.val u))) o):=by unfold sPar;congr 1;funext ts o;rcases ts with _|⟨a,_|⟨b,_|⟨c,r⟩⟩⟩ <;> exact propext aR
theorem Yr:sAug i f d D ρ n=cVal (ρ.getD i none) fun v=>lInt v fun q=>d ρ n fun t C=>lInt t fun k=>D.nx (ρ.set i (some (.val (.int (f q k))))) C:=by
 unfold sAug;rw[aM];cases e:ρ[i]? with
 | none=>exact propext aR
 | some o=>cases o with
  | none=>exact propext aR
  | some c=>cases c with
   | own _=>exact propext aR
   | dct _=>exact propext aR
   | dtt _=>exact propext aR
   | rdo _=>exact propext aR
   | val v=>cases v with
    | int q =>show(d ρ n fun t C=>_)=(d ρ n fun t C=>_);congr 1;funext t C;cases t <;> exact propext aR
    | _=>exact propext aR
theorem Ze:YT g g' da db dc ρ n R=(da ρ n fun x C=>db ρ C fun y v=>g x y fun z=>bolD z fun b=>if b=true then dc ρ v fun w G=>g' y w fun z=>R z G else R (.bool false) v):=by
 unfold YT;congr 1;funext x C;congr 1;funext y v;congr 1;funext z;cases z with
 | bool b=>cases b <;> simp[bolD]
 | _=>exact propext aR
def Ui(ρ:En)(i:Nat)(D:JH)(C:DTE)(t:ab)(l:Nat)(ts:qD):Prop:=C ρ l fun j v=>lInt j fun j=>(match ixN ts.length j with|some k=>D.nx (ρ.set i (some (.own (ts.set k t)))) v|none=>False)
theorem Ys:sPut i dj d D ρ n=(d ρ n fun t l=>cOwn (ρ.getD i none) fun xs=>Ui ρ i D dj t l xs):=by
 unfold sPut;congr 1;funext t l;rw[aM];cases e:ρ[i]? with
 | none=>exact propext aR
 | some o=>cases o with
  | none=>exact propext aR
  | some c=>cases c with
   | val _=>exact propext aR
   | dct _=>exact propext aR
   | dtt _=>exact propext aR
   | rdo _=>exact propext aR
   | own xs =>show(dj ρ l fun j v=>_)=Ui ρ i D dj t l xs;unfold Ui;congr 1;funext j v;cases j <;> exact propext aR
end
section
variable{t u tb:DTS}{D:JH}{ρ ρ0:En}{n i j m:Nat}{d da db dc d1 d2:DTE}{ds di:DTA}{c c' tt:DTT}{g:G2}{g':G2}{gc:GC}{gd:GD}{tg:DTG}{tgs:DTGs}{R:qN}{Rb:Bool->Nat->Prop}{Rl:List ab->Nat->Prop}{Re:En->Prop}{x y:ab}{xs ys acc:qD}{f:Int->Int->Int}{fb:ab->Bool}{k:Bool}{capt:List Nat}
theorem zsi(h:t { D with nx:=u D } ρ n):sSeq t u D ρ n:=h
theorem zpN(h:D.nx ρ n):zoO D ρ n:=h
theorem zsj(h:d ρ n fun t l=>D.rt t l):sRet d D ρ n:=h
theorem zvg(h:c ρ n fun b l=>if b=true then t D ρ l else u D ρ l):sIf c t u D ρ n:=h
theorem zsm(h:d ρ n fun t o=>tg t ρ fun l=>D.nx l o):sAsg d tg D ρ n:=h
theorem zsl(h:di ρ n fun ts l=>forP tg tb D ts ρ l):sFor di tg tb D ρ n:=h
theorem i_dC(h:R x n):dC x ρ n R:=h
theorem zvk(h:da ρ n fun x o=>db ρ o fun y l=>g x y fun z=>R z l):dOp g da db ρ n R:=h
theorem zsy(h:ds ρ n fun ts o=>R (.list ts) o):dNew ds ρ n R:=h
theorem zss(h:ds ρ n fun ts o=>R (.tuple ts) o):dTup ds ρ n R:=h
theorem zsx(h:Rl [] n):dNil ρ n Rl:=h
theorem zpU(h:d ρ n fun t o=>ds ρ o fun ts l=>Rl (t::ts) l):Qf d ds ρ n Rl:=h
theorem zvl(h:ds ρ n fun ts l=>gd ts l R):dFn gd ds ρ n R:=h
theorem zsD(h:ds ρ n fun ts l=>gd ts l fun t o=>JR t=true/\R t o):dFnL gd ds ρ n R:=h
theorem znE(h:ds ρ n fun ts l=>gc ts fun z=>R z l):YS gc ds ρ n R:=h
theorem zsE(h:c ρ n fun b l=>if b=true then c' ρ l Rb else Rb false l):dAnd c c' ρ n Rb:=h
theorem zvj(h:c ρ n fun b l=>if b=true then Rb true l else c' ρ l Rb):dOr c c' ρ n Rb:=h
theorem zsw(h:c ρ n fun b l=>Rb (!b) l):dNot c ρ n Rb:=h
theorem zpW(h:da ρ n fun t v=>bolD t fun b=>if b=true then db ρ v R else R (.bool false) v):zqf da db ρ n R:=h
theorem zsv(h:da ρ n fun t v=>bolD t fun b=>if b=true then R (.bool true) v else db ρ v R):dOrV da db ρ n R:=h
theorem zsC(h:c ρ n fun b l=>if b=true then da ρ l R else db ρ l R):dIfE c da db ρ n R:=h
theorem zst(h:d ρ n fun t l=>truD t fun b=>Rb b l):dTru d ρ n Rb:=h
theorem zlJ(h:d ρ n fun t l=>JW t fun ts=>Rl ts l):zh4 d ρ n Rl:=h
theorem zpV(h:di ρ n fun ts l=>JP tg tt d (Jw m capt ρ) ts [] l Rl):dComp m capt di tg tt d ρ n Rl:=h
theorem zsr(h:Rb true n):dYes ρ n Rb:=h
theorem zpL(h:tgs xs ρ Re):Ug tgs (.tuple xs) ρ Re:=h
theorem zpM(h:Re ρ):Uf [] ρ Re:=h
theorem znA(h:tg x ρ fun l=>tgs xs l Re):QM tg tgs (x::xs) ρ Re:=h
theorem zpP(h:d ρ n fun t l=>bolD t fun b=>Rb b l):Uk d ρ n Rb:=Zb.symm▸h
theorem zsB(h:d ρ n fun t l=>lLst t fun ts=>Rl ts l):dItL d ρ n Rl:=YD.symm▸h
theorem zsA(h:d ρ n fun t l=>lTup t fun ts=>Rl ts l):dItT d ρ n Rl:=YX.symm▸h
theorem zpS(h:d ρ n fun t l=>lInt t fun j=>(-(2 ^ 62)<=j/\j<2 ^ 62)/\Rl (JX 0 j.toNat) l):U5 d ρ n Rl:=Y9.symm▸h
theorem zpR(h:d1 ρ n fun t v=>d2 ρ v fun u l=>lInt t fun i=>lInt u fun j=>(-(2 ^ 62)<=i/\i<2 ^ 62/\-(2 ^ 62)<=j/\j<2 ^ 62)/\Rl (JX i (j - i).toNat) l):U6 d1 d2 ρ n Rl:=Za.symm▸h
theorem zsz(h:d ρ n fun t l=>lInt t fun i=>R (.int (-i)) l):dNeg d ρ n R:=YY.symm▸h
theorem znD(h:da ρ n fun x G=>db ρ G fun y v=>g x y fun z=>bolD z fun b=>if b=true then dc ρ v fun w C=>g' y w fun z=>R z C else R (.bool false) v):YT g g' da db dc ρ n R:=Ze.symm▸h
theorem zsk(h:ds ρ n fun ts o=>Yb ts fun t u=>D.nx ((ρ.set i (some (.val t))).set j (some (.val u))) o):sPar i j ds D ρ n:=YZ.symm▸h
def lIsi(fb:ab->Bool)(t:ab)(R:ab->Prop):Prop:=Pln t/\R (.bool (fb t))
theorem zsq(h:d ρ n fun t l=>lIsi fb t fun z=>R z l):isiD fb d ρ n R:=h
theorem zon(e:ρ[i]?=some (some (.val x)))(h:R x n):dVar i ρ n R:=by unfold dVar;rw[e];exact h
theorem zoo(e:ρ[i]?=some (some (.own xs)))(h:R (.list xs) n):dOwn i ρ n R:=by unfold dOwn;rw[e];exact h
theorem ziV(e:ρ[i]?=some (some (.own xs)))(h:d ρ n fun t l=>xs.length<16777216/\D.nx (ρ.set i (some (.own (xs++[t])))) l):Y6 i d D ρ n:=by unfold Y6;rw[e];exact h
theorem ziU(e:ρ[i]?=some (some (.own xs)))(h:t D (ρ.set i (some (.val (.list xs)))) n):Y7 i t D ρ n:=by unfold Y7;rw[e];exact h
theorem zvm(e:ρ[i]?=some (some (.val (.int q))))(h:d ρ n fun t o=>lInt t fun k=>D.nx (ρ.set i (some (.val (.int (f q k))))) o):sAug i f d D ρ n:=by rw[Yr,aM,e];exact h
theorem zvh(e:ρ[i]?=some (some (.own xs)))(h:d ρ n fun t l=>Ui ρ i D dj t l xs):sPut i dj d D ρ n:=by rw[Ys,aM,e];exact h
theorem zsn(h:dj ρ n fun j l=>lInt j fun j=>(match ixN xs.length j with|some k=>D.nx (ρ.set i (some (.own (xs.set k x)))) l|none=>False)):Ui ρ i D dj x n xs:=h
theorem zvi{A B:Prop}(l:b=true->A)(o:b=false->B):if b=true then A else B:=by cases b with|true=>exact iteT (l rfl)|false=>exact iteF (o rfl)
theorem zsp{p:Prop}[Decidable p]{A B:Prop}(l:p->A)(o:¬p->B):if decide p=true then A else B:=by by_cases h:p;rw[decide_eq_true h];exact iteT (l h);rw[decide_eq_false h];exact iteF (o h)
theorem zso{A B:Prop}(h:if b=true then B else A):if (!b)=true then A else B:=by cases b with|true=>exact iteF h|false=>exact iteT h
end
section
variable{C:Int->Int->Prop}{f:Int->Int->Int}{fb:Int->Int->Bool}{i j k:Int}{R:ab->Prop}{Rb:Bool->Prop}{xs ys:qD}{s t:Str}{a b:Bool}{u v x y:ab}{Rn:qN}{n:Nat}
theorem zsc(h:R (.int (i+j))):oAdd (.int i) (.int j) R:=YH.symm▸h
theorem zvd(h:R (.bool (decide (i=j)))):oEq (.int i) (.int j) R:=Ye.symm▸h
theorem zvb(h:(Okd (.tuple xs)/\Okd (.tuple ys)/\R (.bool (cq (.tuple xs) (.tuple ys))))):oEq (.tuple xs) (.tuple ys) R:=Yh.symm▸h
theorem zvc(h:(Okd (.list xs)/\Okd (.list ys)/\R (.bool (cq (.list xs) (.list ys))))):oEq (.list xs) (.list ys) R:=Yg.symm▸h
theorem zu3(h:R (.bool (!decide (i=j)))):oNe (.int i) (.int j) R:=Ym.symm▸h
theorem zu2(h:(Okd (.list xs)/\Okd (.list ys)/\R (.bool (!PyData.eqv (.list xs) (.list ys))))):oNe (.list xs) (.list ys) R:=Yn.symm▸h
theorem zpI(h:R (.bool (!isNone u))):oIsN u .none R:=Y3.symm▸h
theorem znx(h:(Okd u/\(∀t∈xs,Okd t)/\R (.bool (!xs.any fun t=>t.eqv u)))):Yy u (.tuple xs) R:=Zj.symm▸h
theorem zu8(h:R (.bool (decide (i<j)))):oLtA (.int i) (.int j) R:=Yj.symm▸h
theorem zu_(h:R (.bool (decide (i<=j)))):oLeA (.int i) (.int j) R:=Yi.symm▸h
theorem zr6(h:R u):oIx (.tuple (u::xs)) (.int 0) R:=YL.symm▸h
theorem zr5(h:R v):oIx (.tuple (u::v::xs)) (.int 1) R:=YM.symm▸h
theorem zr_(h:R u):oIx (.list (u::xs)) (.int 0) R:=YJ.symm▸h
theorem zr9(h:R v):oIx (.list (u::v::xs)) (.int 1) R:=YK.symm▸h
theorem zr0(h:Rb a):truD (.bool a) Rb:=YN.symm▸h
theorem zrZ(h:Rb (!xs.isEmpty)):truD (.list xs) Rb:=YO.symm▸h
theorem zrY(h:Rb (!xs.isEmpty)):truD (.tuple xs) Rb:=YQ.symm▸h
theorem zve(h:Rb a):bolD (.bool a) Rb:=Yd.symm▸h
theorem zr4(h:R (.int xs.length)):bLen [.list xs] R:=.inl ⟨xs,rfl,h⟩
theorem zr3(h:R (.int xs.length)):bLen [.tuple xs] R:=.inr (.inl ⟨xs,rfl,h⟩)
theorem zny(h:R (.int ns.length)):bLen [SCR ns] R:=.inr (.inr (.inr ⟨_,rfl,by rw[aP];exact h⟩))
theorem zu6(h:R (.int (if j<i then j else i))):bMin [.int i,.int j] R:=Yl.symm▸h
theorem zu7(h:R (.int (if j > i then j else i))):bMax [.int i,.int j] R:=Yk.symm▸h
theorem zsa(h:R (.int (if a then 1 else 0))):bInt [.bool a] R:=YI.symm▸h
theorem znw(h:R (.tuple xs)):Yw [.list xs] R:=Zk.symm▸h
theorem zlD(h:Rl xs):JW (.list xs) Rl:=Y4.symm▸h
theorem ziQ(h:Rl xs):JW (.tuple xs) Rl:=Zi.symm▸h
theorem zu9(h:Q xs):lLst (.list xs) Q:=h
theorem zuW(h:Q xs):lTup (.tuple xs) Q:=h
theorem zva(h:Q i):lInt (.int i) Q:=h
theorem zr2(h:Q x y):Yb [x,y] Q:=h
theorem zu4(c:CMul i j)(h:R (.int (i*j))):oMul (.int i) (.int j) R:=⟨c,h⟩
theorem zu5(c:0<j)(h:R (.int (i % j))):oMod (.int i) (.int j) R:=⟨c,h⟩
theorem zsb(c:U7 i j)(h:R (.int (i / j))):Uj (.int i) (.int j) R:=⟨c,h⟩
theorem zu1(c:CPow i j)(h:R (.int (i ^ j.toNat))):oPow (.int i) (.int j) R:=⟨c,h⟩
theorem zu0(c:CPow i j)(h:R (.int (i*2 ^ j.toNat))):oShl (.int i) (.int j) R:=⟨c,h⟩
theorem zuZ(c:0<=j)(h:R (.int (i / 2 ^ j.toNat))):oShr (.int i) (.int j) R:=⟨c,h⟩
theorem zuX(h:R (.int (i - j))):oSub (.int i) (.int j) R:=h
theorem zuV(h:R (.int (bV i j))):oXor (.int i) (.int j) R:=h
theorem zvf(h:R (.int (fA i j))):oAnd (.int i) (.int j) R:=h
theorem j_gB(h:R (.bool (fb i j))):gB fb (.int i) (.int j) R:=h
theorem zhV(h:R (.bool true)):lIsi isInt (.int i) R:=⟨U2,h⟩
theorem zgO(h:R (.bool false)):lIsi isBool (.int i) R:=⟨U2,h⟩
theorem zfL(h:R (.bool true)):lIsi isTup (.tuple xs) R:=⟨Zz,h⟩
end
theorem UH{h:Int}(h0:0<h):(2:Int) ^ h.toNat=2*2 ^ (h - 1).toNat:=by
 have e:h.toNat=(h - 1).toNat+1:=by lia
 rw[e,aY,bZ]
theorem zrg{h:Int}(h0:0<=h):(2:Int) ^ (h+1).toNat=2*2 ^ h.toNat:=by have:=UH (h:=h+1) (by lia);rw[this];simp
theorem IsBk.low{bits i h:Int}(B:IsBk bits i h)(l:0<h):IsBk bits i (h - 1):=by
 obtain⟨h0,u,k,v,rfl,x⟩:=B;refine⟨by lia,by lia,2*k,by lia,?_,?_⟩;rw[UH l,<- ck,bZ k 2];have e:(bits - (h - 1)).toNat=(bits - h).toNat+1:=by lia
 rw[e,aY];lia
theorem IsBk.up{bits i h:Int}(B:IsBk bits i h)(l:0<h):IsBk bits (i+2 ^ h.toNat / 2) (h - 1):=by
 obtain⟨h0,u,k,v,rfl,x⟩:=B;refine⟨by lia,by lia,2*k+1,by lia,?_,?_⟩;rw[UH l];have:2*(2:Int) ^ (h - 1).toNat / 2=2 ^ (h - 1).toNat:=by lia
 rw[this,cA,bI,<- ck,bZ k 2];have e:(bits - (h - 1)).toNat=(bits - h).toNat+1:=by lia
 rw[e,aY];lia
theorem znp(P:Int)(l:0<P):k*P % (2*P)=(k % 2)*P:=by rw[bZ 2 P,bZ k P,Int.mul_emod_mul_of_pos _ _ l,bZ]
theorem IsBk.abt{bits i h:Int}(B:IsBk bits i h)(x:h<bits):IsBk bits (i - i % (2*2 ^ h.toNat)) (h+1):=by
 obtain⟨h0,u,k,v,rfl,l⟩:=B;refine⟨by lia,by lia,k / 2,by lia,?_,?_⟩;rw[znp _ (Zo _),zrg h0,<- oB];have:k - k % 2=k / 2*2:=by lia
 rw[this,ck];have e:(bits - h).toNat=(bits - (h+1)).toNat+1:=by lia
 rw[e,aY]at l;lia
theorem IsBk.oth(B:IsBk bits i h)(x:h<bits):IsBk bits (bV i (2 ^ h.toNat)) h:=by
 obtain⟨h0,l,k,u,rfl,v⟩:=B;rw[zid _ u];have e:(bits - h).toNat=(bits - (h+1)).toNat+1:=by lia
 split;refine⟨h0,l,k+1,by lia,by rw[cA,bI],?_⟩;rw[e,aY]at v ⊢;lia;refine⟨h0,l,k - 1,by lia,by rw[oB,bI],by lia⟩
theorem IsBk.nxt(B:IsBk bits i h)(l:i+2*2 ^ h.toNat<=2 ^ bits.toNat):IsBk bits (i+2 ^ h.toNat) h:=by
 obtain⟨h0,u,k,v,rfl,x⟩:=B;refine⟨h0,u,k+1,by lia,by rw[cA,bI],?_⟩;have e:bits.toNat=(bits - h).toNat+h.toNat:=by lia
 rw[e,ziA]at l;have p:=Zo h.toNat;have:(k+2)*2 ^ h.toNat<=2 ^ (bits - h).toNat*2 ^ h.toNat:=by rw[cA];exact l
 have:=Int.le_of_mul_le_mul_right this p;lia
theorem zvx:CMul 2 j:=.inl ⟨by decide,by decide⟩
theorem zta:U7 j 2:=⟨by decide,by decide⟩
theorem U0(h:Nat):(1:Int)*2 ^ h=2 ^ h:=bI _
def BlkN(bits i:Int)(h:Nat):Prop:=(h:Int)<=bits/\∃k:Int,0<=k/\i=k*2 ^ h/\k<2 ^ (bits.toNat - h)
theorem IsBk.n(B:IsBk bits i h):BlkN bits i h.toNat:=by
 obtain⟨h0,v,k,l,e,u⟩:=B;refine⟨by lia,k,l,e,?_⟩;have:(bits - h).toNat=bits.toNat - h.toNat:=by lia
 rw[<- this];exact u
theorem zmG(b:BlkN bits j g)(l:g<=h):j / 2 ^ h*2 ^ h<=j/\j+2 ^ g<=(j / 2 ^ h+1)*2 ^ h:=by
 obtain⟨_,m,m0,rfl,_⟩:=b;have y:=Bd.Uc h;have v:=Bd.Uc g;have u:=Bd.Uc (h - g);have o:(2:Int) ^ h=2 ^ (h - g)*2 ^ g:=by rw[<- fD];congr 1;lia
 refine⟨Int.ediv_mul_le _ (by lia),?_⟩;have eq:(m*2 ^ g) / 2 ^ h=m / 2 ^ (h - g):=by rw[o];exact Int.mul_ediv_mul_of_pos_left m _ v
 rw[eq,o,<- ck];have x:m*2 ^ g+2 ^ g=(m+1)*2 ^ g:=by rw[cA,bI]
 rw[x];refine bz ?_ (by lia);have:=Int.lt_ediv_add_one_mul_self m u;lia
theorem ziI{a b A:Int}(p:0<A)(l:a<b):(a+1)*A<=b*A:=bz (by lia) (by lia)
theorem zhX(v:BlkN bits i h)(u:BlkN bits j g):(g<=h/\j / 2 ^ h*2 ^ h=i)↔(i<=j/\j+2 ^ g<=i+2 ^ h):=by
 have o:=Bd.Uc h;have C:=Bd.Uc g;constructor;rintro⟨l,e⟩;have t:=zmG u l;rw[e,cA,bI,e]at t;exact t;rintro⟨x,l2⟩;have l:g<=h:=by
  by_cases z:g<=h;exact z;exfalso;have:(2:Int) ^ h<2 ^ g:=by
   have e:(2:Int) ^ g=2 ^ (g - h)*2 ^ h:=by rw[<- fD];congr 1;lia
   have p2:(2:Int)<=2 ^ (g - h):=by obtain⟨d,hd⟩:∃d,g - h=d+1:=⟨g - h - 1,by lia⟩;rw[hd,aY];have:=Bd.Uc d;lia
   rw[e];have:=bz p2 (show(0:Int)<=2 ^ h by lia);lia
  lia
 refine⟨l,?_⟩;obtain⟨_,k,y,rfl,_⟩:=v;have e:j / 2 ^ h=k:=by have a1:k<=j / 2 ^ h:=(kH o).mpr x;have a2:j / 2 ^ h<k+1:=(kI o).mpr (by rw[cA,bI];lia);lia
 rw[e]
theorem zhl{bits i j:Int}{h g:Nat}(v:BlkN bits i h)(u:BlkN bits j g)(l:g<=h):(g<=h/\j / 2 ^ h*2 ^ h=i)\/j+2 ^ g<=i\/i+2 ^ h<=j:=by have o:=Bd.Uc h;have t:=zmG u l;obtain⟨_,k,x,rfl,_⟩:=v;rcases gF (j / 2 ^ h) k with z|z|z;have:=ziI o z;exact .inr (.inl (by lia));exact .inl ⟨l,by rw[z]⟩;have:=ziI o z;rw[cA,bI]at this;exact .inr (.inr (by lia))
def hldD(i h j g:Int):Bool:=decide (g<=h)&&decide (j / 2 ^ h.toNat*2 ^ h.toNat=i)
theorem zop(A:IsBk bits i h)(B:IsBk bits j g):hldD i h j g=decide (i<=j/\j+2 ^ g.toNat<=i+2 ^ h.toNat):=by have:=zhX A.n B.n;unfold hldD;rw[<- Bool.decide_and];refine decide_eq_decide.mpr ⟨fun z=>this.mp ⟨by have:=A.1;have:=B.1;lia,z.2⟩,fun z=>?_⟩;obtain⟨l,e⟩:=this.mpr z;exact⟨by have:=A.1;have:=B.1;lia,e⟩
theorem zlU(Inv:Nat->En->Nat->Prop):∀(ts:qD) (i:Nat) {o:En}{n:Nat},Inv i o n ->
  (∀(k:Nat) (t:ab) (o:En) (n:Nat) (K:En->Nat->Prop),ts[k]?=some t->Inv (i+k) o n->(∀v x,Inv (i+k+1) v x->K v x)->g t o fun v=>tb { D with nx:=K,ct:=K,bk:=D.nx } v n) ->
  (∀o n,Inv (i+ts.length) o n->D.nx o n)->forP g tb D ts o n
 | [],i,o,n,h0,_,fin=>fin o n (by simpa using h0)
 | t::ts,i,o,n,h0,turn,fin=>by
  refine turn 0 t o n _ rfl (by simpa using h0) fun v x h'=>?_;refine zlU Inv ts (i+1) (by simpa using h') (fun k u o n K e C y=>?_) (fun o n h=>fin o n ?_);refine turn (k+1) u o n K (by simpa using e) ?_ fun v x h'=>y v x ?_;have:i+(k+1)=i+1+k:=by lia
  rw[this];exact C;have:i+1+k+1=i+(k+1)+1:=by lia
  rw[this];exact h';have:i+(t::ts).length=i+1+ts.length:=by simp;lia
  rw[this]at *;exact h
theorem Qn(Inv:Nat->En->Nat->Prop)(h0:Inv 0 o n)
  (turn:∀(k:Nat) (t:ab) (o:En) (n:Nat) (K:En->Nat->Prop),ts[k]?=some t->Inv k o n->(∀l u,Inv (k+1) l u->K l u)->g t o fun l=>tb { D with nx:=K,ct:=K,bk:=D.nx } l n)
  (fin:∀o n,Inv ts.length o n->D.nx o n):forP g tb D ts o n:=by
 refine zlU Inv ts 0 h0 (fun k t o n K e x v=>turn k t o n K e (by simpa using x) fun l u h'=>v l u (by simpa using h')) fun o n h=>fin o n (by simpa using h)
theorem UF{lo:Int}{m i:Nat}{t:ab}(h:(JX lo m)[i]?=some t):i<m/\t=.int (lo+(i:Int)):=by unfold JX at h;rw[aD]at h;by_cases hi:i<m;rw[dY hi]at h;cases h;exact⟨hi,rfl⟩;rw[bp (by simp;lia)]at h;cases h
theorem Zy{lo:Int}{m:Nat}:(JX lo m).length=m:=by simp[JX]
theorem zf5(Inv:Nat->En->Nat->Prop)(h0:Inv m o n)
  (turn:∀m o n,Inv m o n->c o n fun b x=>if b=true then tb { D with nx:=fun l v=>∃u,u<m/\Inv u l v,ct:=fun l v=>∃u,u<m/\Inv u l v,bk:=D.nx } o x else D.nx o x):zks c tb D o n :=
 ⟨Inv,⟨m,h0⟩,turn⟩
theorem IsBk.x1(B:IsBk bits i h)(l:0<h):bV i (2 ^ (h - 1).toNat)=i+2 ^ h.toNat / 2:=by
 obtain⟨h0,u,k,v,rfl,x⟩:=B;have e:k*2 ^ h.toNat=(2*k)*2 ^ (h - 1).toNat:=by rw[UH l,<- ck,bZ k 2]
 rw[e,zid _ (by lia),if_pos (by lia),UH l];lia
theorem IsBk.x3(B:IsBk bits i h)(l:0<h):bV i (2 ^ (h - 1).toNat) / 2 ^ h.toNat*2 ^ h.toNat=i:=by
 rw[B.x1 l];obtain⟨h0,u,k,v,rfl,x⟩:=B;have p:=Zo h.toNat;have p2:=Zo (h - 1).toNat;have e:=UH l;have:(k*2 ^ h.toNat+2 ^ h.toNat / 2) / 2 ^ h.toNat=k:=by rw[nF,kJ _ _ (by lia)];have:(2:Int) ^ h.toNat / 2 / 2 ^ h.toNat=0:=kK (by lia) (by lia);lia
 rw[this]
theorem zpO(L:ρ[0]?=some (some (.val (SCR ns))))(G:ρ[j]?=some (some (.val (.int k))))(J:ns.length<=63)(y:0<=k)(C:k<=100)(I:Jr ρ=ρd)
  (h:u { nx:=fun x _=>D.nx (Jr x) n,rt:=fun t _=>∃b,t=.bool b/\D.rt t n,bk:=fun x _=>D.bk (Jr x) n,ct:=fun x _=>D.ct (Jr x) n } ((ρd.set j (some (.val (.int k)))).set i (some (.val HAND))) 0):UI i j u D ρ n:=by
 subst I;unfold UI;rw[L,G];exact⟨⟨ns,rfl,J⟩,y,C,h⟩
def rkAt(rk:ae->Int)(xs:Array mT)(i:Nat):Int:=((xs[i]?).map fun p=>rk p.1).getD 0
theorem Y5(h:xs[i]?=ys[j]?):rkAt rk xs i=rkAt rk ys j:=by unfold rkAt;rw[h]
theorem zob(v:u<xs.size)(hd:d<=u)(k:Nat) :
  (k=u - d->rkAt rk (bubble xs u d) k=rkAt rk xs u)/\(u - d<k->k<=u->rkAt rk (bubble xs u d) k=rkAt rk xs (k - 1))/\(k<u - d\/u<k->rkAt rk (bubble xs u d) k=rkAt rk xs k):=by
 have e:=getElem?_bubble v d hd k;refine⟨fun h=>?_,fun l o=>?_,fun h=>?_⟩;rw[if_pos h]at e;exact Y5 e;rw[if_neg (by lia),if_pos ⟨l,o⟩]at e;exact Y5 e;rw[if_neg (by lia),if_neg (by lia)]at e;exact Y5 e
theorem zkA(u:j<=xs.size)(k:Nat) :
  (i<=k->k<j->rkAt rk (mirror xs i j ((j - i) / 2)) k=rkAt rk xs (i+j - 1 - k))/\(k<i\/j<=k->rkAt rk (mirror xs i j ((j - i) / 2)) k=rkAt rk xs k):=by
 have e:=getElem?_mirror_all (i:=i) u k;refine⟨fun l o=>?_,fun h=>?_⟩;rw[if_pos ⟨l,o⟩]at e;exact Y5 e;rw[if_neg (by lia)]at e;exact Y5 e
structure Sb(kd:iw)(a0:Array mT)(z:l8):Prop where
 pm:(arrOf z).Perm a0
 kn:kindOf z=kd
 fl:failedOf z=none
 pe:pendingOf z=#[]
def Up(rk:ae->Int)(xs:Array mT)(m:Nat):Prop:=∀i j,i<j->j<m->rkAt rk xs i<=rkAt rk xs j
def Dn(rk:ae->Int)(xs:Array mT)(m:Nat):Prop:=∀i j,i<j->j<m->rkAt rk xs j<=rkAt rk xs i
section
variable{prog:aO}{w:br}{A:bc}{E:qV}{s:ak}{kd:iw}{rk:ae->Int}{a0:Array mT}
def Cmp(prog:aO)(w:br)(A:bc)(s:ak)(kd:iw)(rk:ae->Int)(a0:Array mT):Prop :=
 ∀(p q:mT) (E:qV) (Q:Bool->ak->Prop),p∈a0.toList->q∈a0.toList->Q (decide (rk p.1<rk q.1)) s->wpAny (model prog w) A (keyLt' kd p.1 q.1) Q E s
theorem Sb.sz(b:Sb kd a0 z):(arrOf z).size=a0.size:=b.pm.size_eq
theorem Sb.arr(b:Sb kd a0 z)(h:xs.Perm (arrOf z)):Sb kd a0 (setArr z xs):=⟨h.trans b.pm,b.kn,b.fl,b.pe⟩
theorem ask(c:Cmp prog w A s kd rk a0)(b:Sb kd a0 z)(hi:i<a0.size)(u:j<a0.size)
  (h:Q (some (decide (rkAt rk (arrOf z) i<rkAt rk (arrOf z) j))) z):wpS (model prog w) A E s (ltAt' i j) Q z:=by
 have mem:∀k,k<a0.size->∃p,(arrOf z)[k]?=some p/\p∈a0.toList:=fun k G=>by
  have l:k<(arrOf z).size:=by rw[b.sz];exact G
  exact⟨(arrOf z)[k],eD l,(fE.mp b.pm).mem_iff.mp (by simp)⟩
 obtain⟨p,ep,mp⟩:=mem i hi;obtain⟨q,eq,o⟩:=mem j u;have C:rkAt rk (arrOf z) i=rk p.1:=by unfold rkAt;rw[ep];rfl
 have v:rkAt rk (arrOf z) j=rk q.1:=by unfold rkAt;rw[eq];rfl
 rw[C,v]at h;rw[ltAt'_eq];refine bN (nG ?_);show wpS (model prog w) A E s (elem' (arrOf z) i >>= fun x=>elem' (arrOf z) j >>= fun y=>lt' x y) Q z;simp only[elem'_eq,ep,eq,pure_bind];rw[lt'_eq];refine bN (nG (bN (uW (fV ?_))));rw[b.kn];exact c p q _ _ mp o ⟨rfl,dw h⟩
theorem ztc(c:Cmp prog w A s kd rk a0)(hn:n<=a0.size)(hok:ok<=n)(b:Sb kd a0 z)(up:Up rk (arrOf z) ok)
  (h:∀y,Sb kd a0 y->Up rk (arrOf y) n->Q true y):wpS (model prog w) A E s (binarySort' 0 n ok) Q z:=by
 rw[binarySort'_eq];simp only[eJ];refine bN (pN (gG (Q:=fun c y=>c=(none,())/\Sb kd a0 y/\Up rk (arrOf y) n) (I:=fun k c y=>c=(none,())/\Sb kd a0 y/\Up rk (arrOf y) (min k n)) ?turn ?last ⟨rfl,b,fun i j S h2=>up i j S (by lia)⟩) ?post)
 case post =>rintro _ y ⟨rfl,C,u⟩;exact dw (h y C u)
 case last =>rintro _ y ⟨rfl,C,u⟩;exact⟨rfl,C,by rwa [show min (max (max ok 1) n) n=n by lia]at u⟩
 case turn =>
  rintro k _ y k1 k2 ⟨rfl,C,u⟩;rw[show min k n=k by lia]at u;refine bN (pN (gG (Q:=fun c U=>U=y/\∃l r,c=(none,l,r)/\l<=k/\(∀i,i<l->rkAt rk (arrOf y) i<=rkAt rk (arrOf y) k)/\∀i,l<=i->i<k->rkAt rk (arrOf y) k<rkAt rk (arrOf y) i)
   (I:=fun x c U=>U=y/\∃l r,c=(none,l,r)/\l<=r/\r<=k/\r - l+x<=k/\(∀i,i<l->rkAt rk (arrOf y) i<=rkAt rk (arrOf y) k)/\∀i,r<=i->i<k->rkAt rk (arrOf y) k<rkAt rk (arrOf y) i) ?t2 ?l2 ⟨rfl,0,k,rfl,by lia,by lia,by lia,fun i hi=>by lia,fun i N G=>by lia⟩) ?p2)
  case l2 =>rintro _ v ⟨e,l,r,rfl,q1,Y,q3,J,L⟩;subst e;exact⟨rfl,l,r,rfl,by lia,J,fun i N G=>L i (by lia) G⟩
  case t2 =>
   rintro x _ v _ _ ⟨e,l,r,rfl,q1,Y,q3,J,L⟩;subst e;by_cases ge:r<=l;simp only[ge_iff_le,ge,if_true];exact dw ⟨rfl,l,r,rfl,by lia,J,fun i N G=>L i (by lia) G⟩;simp only[ge_iff_le,ge,if_false];refine bN (ask c C (by lia) (by lia) ?_);by_cases le:rkAt rk (arrOf v) k<rkAt rk (arrOf v) ((l+r) / 2);simp only[le,decide_true,if_true];refine dw ⟨rfl,l,(l+r) / 2,rfl,by lia,by lia,by lia,J,fun i N G=>?_⟩;rcases bw ((l+r) / 2) i with g|g;have:=u _ _ g G;lia;have:i=(l+r) / 2:=by lia
   rw[this];exact le;simp only[le,decide_false,aI,if_false];refine dw ⟨rfl,(l+r) / 2+1,r,rfl,by lia,by lia,by lia,fun i N=>?_,L⟩;rcases bw i ((l+r) / 2) with g|g;have:=u _ _ g (by lia);lia;have:i=(l+r) / 2:=by lia
   rw[this];lia
  case p2 =>
   rintro _ v ⟨e,l,r,rfl,Y,J,L⟩;subst e;show wpS (model prog w) A E s (moveDown' k l >>= fun _=>pure (bT (none,()))) _ v;rw[moveDown'_eq];have hk:k<(arrOf v).size:=by rw[C.sz];lia
   refine bN (pO (dw ⟨rfl,C.arr (bubble_perm _ _ _),fun i j S h2=>?_⟩));show rkAt rk (bubble (arrOf v) k (k - l)) i<=rkAt rk (bubble (arrOf v) k (k - l)) j;have hj:j<=k:=by lia
   obtain⟨a1,a2,R⟩:=zob (rk:=rk) hk (show k - l<=k by lia) i;obtain⟨b1,Z,b3⟩:=zob (rk:=rk) hk (show k - l<=k by lia) j;have el:k - (k - l)=l:=by lia
   rw[el]at a1 a2 R b1 Z b3;rcases cM j l with jl|jl|jl;rw[R (by lia),b3 (by lia)];exact u i j S (by lia);rw[R (by lia),b1 jl];exact J i (by lia);rw[Z jl hj];rcases cM i l with il|il|il;rw[R (by lia)];rcases bw i (j - 1) with g|g;exact u i (j - 1) g (by lia);exact absurd g (by lia);rw[a1 il];exact fh (L (j - 1) (by lia) (by lia));rw[a2 il (by lia)];rcases bw (i - 1) (j - 1) with g|g;exact u _ _ g (by lia);exact absurd g (by lia)
end
section
variable{prog:aO}{w:br}{A:bc}{E:qV}{s:ak}{kd:iw}{rk:ae->Int}{a0:Array mT}
theorem zoF(c:Cmp prog w A s kd rk a0)(C:m<=a0.size)(a1:1<=a)(v:a<=m)(b:Sb kd a0 z)(up:Up rk (arrOf z) a)
  (h:∀n,a<=n->n<=m->Up rk (arrOf z) n->(n<m->rkAt rk (arrOf z) n<rkAt rk (arrOf z) (n - 1))->Q (none,n) z):wpS (model prog w) A E s (ascLoop a m) Q z:=by
 unfold ascLoop;refine gG (I:=fun x c y=>y=z/\c=(none,x)/\Up rk (arrOf z) x) (fun x _ y x1 J I=>?_) (fun _ y I=>?_) ⟨rfl,rfl,up⟩;obtain⟨e,rfl,u⟩:=I;subst e;refine bN (ask c b (by omega) (by omega) ?_);by_cases g:rkAt rk (arrOf y) x<rkAt rk (arrOf y) (x - 1);simp only[g,decide_true,if_true];exact dw (h x x1 (by omega) u fun _=>g);simp only[g,decide_false,aI,if_false];refine dw ⟨rfl,rfl,fun i j o G=>?_⟩;rcases bw j x with jx|jx;exact u i j o jx;have l:j=x:=by omega
 subst l;rcases bw i (j - 1) with ij|ij;have:=u i (j - 1) ij (by omega);omega;have:i=j - 1:=by omega
 rw[this];omega;obtain⟨e,rfl,u⟩:=I;subst e;rw[show max a m=m by omega]at u ⊢;exact h m v (av _) u fun g=>absurd g (by omega)
theorem zki(c:Cmp prog w A s kd rk a0)(v:m<=a0.size)(G:1<=n)(nm:n<=m)(b:Sb kd a0 z)(C:Dn rk (arrOf z) n)
  (h:∀k y,Sb kd a0 y->1<=k->k<=m->Up rk (arrOf y) k->Q (some k) y):wpS (model prog w) A E s (tail3 n m) Q z:=by
 unfold tail3;have hz:n<=(arrOf z).size:=by rw[b.sz];omega
 refine bN (l9 (bN ?_));have l:=b.arr (ma (arrOf z) 0 n ((n - 0) / 2));refine zoF c v G nm l (fun i j J x=>?_) fun k I o u _=>dw (h k _ l (by omega) o u);show rkAt rk (mirror (arrOf z) 0 n ((n - 0) / 2)) i<=rkAt rk (mirror (arrOf z) 0 n ((n - 0) / 2)) j;rw[(zkA (rk:=rk) hz i).1 (by omega) (by omega),(zkA (rk:=rk) hz j).1 (by omega) x];exact C _ _ (by omega) (by omega)
theorem Zm(l:j<=xs.size)(al:∀k,i<=k->k<j->rkAt rk xs k=rkAt rk xs (j - 1))(k:Nat):rkAt rk (mirror xs i j ((j - i) / 2)) k=rkAt rk xs k:=by obtain⟨p,q⟩:=zkA (rk:=rk) (i:=i) l k;by_cases g:i<=k/\k<j;rw[p g.1 g.2,al _ (by omega) (by omega),al k g.1 g.2];exact q (by omega)
theorem zqb(c:Cmp prog w A s kd rk a0)(R:m<=a0.size)(U:1<=n)(nm:n<=m)(b:Sb kd a0 z)(N:Dn rk (arrOf z) n)
  (h:∀k e y,Sb kd a0 y->n<=k->k<=m->Dn rk (arrOf y) k->e<k->(∀i,k - (e+1)<=i->i<k->rkAt rk (arrOf y) i=rkAt rk (arrOf y) (k - 1))->Q (none,k,e) y) :
  wpS (model prog w) A E s (descLoop n m) Q z:=by
 unfold descLoop;refine gG (I:=fun x c y=>∃e,c=(none,x,e)/\Sb kd a0 y/\Dn rk (arrOf y) x/\e<x/\∀i,x - (e+1)<=i->i<x->rkAt rk (arrOf y) i=rkAt rk (arrOf y) (x - 1)) (fun x _ y x1 S I=>?_) (fun _ y I=>?_)
  ⟨0,rfl,b,N,by omega,fun i G J=>by rw[show i=n - 1 by omega]⟩
 obtain⟨e,rfl,l,d,ex,al⟩:=I;have xz:x<=(arrOf y).size:=by rw[l.sz];omega
 refine bN (ask c l (show x<a0.size by omega) (show x - 1<a0.size by omega) ?_);by_cases g:rkAt rk (arrOf y) x<rkAt rk (arrOf y) (x - 1);simp only[g,decide_true,if_true];have C:∀xs:Array mT,(∀k,rkAt rk xs k=rkAt rk (arrOf y) k)->Dn rk xs (x+1):=fun xs hx i j v L=>by
  rw[hx,hx];rcases bw j x with jx|jx;exact d i j v jx;have o:j=x:=by omega
  subst o;rcases bw i (j - 1) with ij|ij;have:=d i (j - 1) ij (by omega);omega;have:i=j - 1:=by omega
  rw[this];omega
 have one:∀xs:Array mT,∀i,x+1 - (0+1)<=i->i<x+1->rkAt rk xs i=rkAt rk xs (x+1 - 1):=fun xs i G J=>by rw[show i=x+1 - 1 by omega]
 by_cases e0:e > 0;simp only[e0,if_true];exact bN (l9 (dw ⟨0,rfl,l.arr (ma _ _ _ _),C _ (Zm xz al),by omega,one _⟩));simp only[e0,if_false];exact dw ⟨0,rfl,l,C _ (fun _=>rfl),by omega,one _⟩;simp only[g,decide_false,aI,if_false];refine bN (ask c l (show x - 1<a0.size by omega) (show x<a0.size by omega) ?_);by_cases g2:rkAt rk (arrOf y) (x - 1)<rkAt rk (arrOf y) x;simp only[g2,decide_true,if_true];exact dw (h x e y l x1 (by omega) d ex al);simp only[g2,decide_false,aI,if_false];have u:rkAt rk (arrOf y) x=rkAt rk (arrOf y) (x - 1):=by omega
 refine dw ⟨e+1,rfl,l,fun i j v L=>?_,by omega,fun i G J=>?_⟩;rcases bw j x with jx|jx;exact d i j v jx;have o:j=x:=by omega
 subst o;rcases bw i (j - 1) with ij|ij;have:=d i (j - 1) ij (by omega);omega;have:i=j - 1:=by omega
 rw[this];omega;rw[show x+1 - 1=x by omega];rcases bw i x with ix|ix;rw[al i (by omega) ix,u];rw[show i=x by omega];obtain⟨e,rfl,l,d,ex,al⟩:=I;rw[show max n m=m by omega]at *;exact h m e y l nm (av _) d ex al
theorem zkU(c:Cmp prog w A s kd rk a0)(o:m<=a0.size)(nm:n+1<=m)(b:Sb kd a0 z)(C:Dn rk (arrOf z) (n+1))
  (h:∀k y,Sb kd a0 y->1<=k->k<=m->Up rk (arrOf y) k->Q (some k) y):wpS (model prog w) A E s (descPart n m) Q z:=by
 unfold descPart;refine bN (uW (fe ⟨rfl,bN ?_⟩));refine zqb c o (by omega) nm b C fun k e y l G u d I al=>?_;have kz:k<=(arrOf y).size:=by rw[l.sz];omega
 by_cases e0:e > 0;simp only[e0,if_true];refine bN (l9 (zki c o (by omega) u (l.arr (ma _ _ _ _)) (fun i j x v=>?_) h));show rkAt rk (mirror (arrOf y) (k - (e+1)) k ((k - (k - (e+1))) / 2)) j<=rkAt rk (mirror (arrOf y) (k - (e+1)) k ((k - (k - (e+1))) / 2)) i;rw[Zm kz al,Zm kz al];exact d i j x v;simp only[e0,if_false];exact zki c o (by omega) u l d h
theorem zq7(c:Cmp prog w A s kd rk a0)(o:m<=a0.size)(G:1<=m)(b:Sb kd a0 z)
  (h:∀k y,Sb kd a0 y->1<=k->k<=m->Up rk (arrOf y) k->Q (some k) y):wpS (model prog w) A E s (countRun' 0 m) Q z:=by
 rw[countRun0_eq];refine bN (zoF c o (av 1) G b (fun i j x C=>absurd x (by omega)) fun n L I u lt=>?_);by_cases en:n=m;simp only[en,beq_self_eq_true,if_true];exact dw (h m z b G (av _) (en▸u));have v:(n == m)=false:=by simpa using en
 simp only[v,aI,if_false];have l:=lt (by omega);by_cases g:n > 1;simp only[g,if_true];refine bN (ask c b (by omega) (by omega) ?_);by_cases rose:rkAt rk (arrOf z) 0<rkAt rk (arrOf z) (n - 1);simp only[rose,decide_true,if_true];exact dw (h n z b L I u);simp only[rose,decide_false,aI,if_false];have zn:n<=(arrOf z).size:=by rw[b.sz];omega
 have al:∀k,0<=k->k<n->rkAt rk (arrOf z) k=rkAt rk (arrOf z) (n - 1):=fun k _ kn=>by
  have p:rkAt rk (arrOf z) 0<=rkAt rk (arrOf z) k:=by rcases m6 k with k0|k0;rw[k0];exact aK _;exact u 0 k k0 kn
  have q:rkAt rk (arrOf z) k<=rkAt rk (arrOf z) (n - 1):=by rcases bw k (n - 1) with kk|kk;exact u k (n - 1) kk (by omega);rw[show k=n - 1 by omega];exact aK _
  omega
 refine bN (l9 (zkU c o (by omega) (b.arr (ma _ _ _ _)) (fun i j x C=>?_) h));show rkAt rk (mirror (arrOf z) 0 n ((n - 0) / 2)) j<=rkAt rk (mirror (arrOf z) 0 n ((n - 0) / 2)) i;rw[Zm zn al,Zm zn al];have N:=al i (by omega) (by omega);rcases bw j n with jn|jn;have:=al j (by omega) jn;omega;rw[show j=n by omega];omega;simp only[g,if_false];have J:n=1:=by omega
 subst J;refine zkU c o (by omega) b (fun i j x C=>?_) h;rw[show i=0 by omega,show j=1 by omega];exact fh l
theorem zoP(c:Cmp prog w A s kd rk a0)(b:Sb kd a0 z)(s2:2<=a0.size)(s64:a0.size<64)
  (h:∀y,(arrOf y).Perm a0->failedOf y=none->Up rk (arrOf y) a0.size->Q () y):wpS (model prog w) A E s sortRuns' Q z:=by
 rw[sortRuns'_eq];refine bN (nG ?_);have mr:minRun' a0.size a0.size 0=a0.size:=by
  obtain⟨q,Z⟩:∃q,a0.size=q+1:=⟨a0.size - 1,by omega⟩;conv=>lhs;rw[Z]
  rw[minRun'_succ,if_pos (by omega)];omega
 simp only[b.sz,mr];refine bN (pN (gG (Q:=fun c y=>c=(none,a0.size)/\(arrOf y).Perm a0/\failedOf y=none/\pendingOf y=#[(0,a0.size,0)]/\Up rk (arrOf y) a0.size)
  (I:=fun x c y=>(x=0/\c=(none,0)/\Sb kd a0 y)\/(0<x/\c=(none,a0.size)/\(arrOf y).Perm a0/\failedOf y=none/\pendingOf y=#[(0,a0.size,0)]/\Up rk (arrOf y) a0.size)) ?turn ?last (.inl ⟨rfl,rfl,b⟩)) ?post)
 case last =>rintro _ y (⟨x0,_⟩|⟨_,q⟩);omega;exact q
 case turn =>
  rintro x _ y _ _ (⟨rfl,rfl,N⟩|⟨x1,rfl,q⟩);simp only[ge_iff_le,show ¬a0.size<=0 by omega,if_false,kM,tR,eJ];have fin:∀C,Sb kd a0 C->Up rk (arrOf C) a0.size->(arrOf (setPending C ((pendingOf C).push (0,a0.size,0)))).Perm a0/\failedOf (setPending C ((pendingOf C).push (0,a0.size,0)))=none/\pendingOf (setPending C ((pendingOf C).push (0,a0.size,0)))=#[(0,a0.size,0)]/\Up rk (arrOf (setPending C ((pendingOf C).push (0,a0.size,0)))) a0.size :=
   fun C G L=>⟨G.pm,G.fl,by show(pendingOf C).push (0,a0.size,0)=_;rw[G.pe];rfl,L⟩
  refine bN (zq7 c (av _) (by omega) N fun k U R k1 Y S=>?_);by_cases g:k<a0.size;simp only[g,if_true];refine bN (uW (fe ⟨rfl,bN ?_⟩));refine ztc c (av _) Y R S fun C G L=>?_;simp only[fq,aI,if_false];refine bN (nG ?_);have J:(pendingOf C).back?=none:=by rw[G.pe];rfl
  simp only[J];exact bN (pO (dw (.inr ⟨by omega,rfl,fin C G L⟩)));simp only[g,if_false];have ek:k=a0.size:=by omega
  subst ek;refine bN (nG ?_);have J:(pendingOf U).back?=none:=by rw[R.pe];rfl
  simp only[J];exact bN (pO (dw (.inr ⟨by omega,rfl,fin U R S⟩)));simp only[ge_iff_le,av,if_true];exact dw ⟨rfl,q⟩
 case post =>rintro _ y ⟨rfl,q1,q2,q3,q4⟩;refine bN (pN (gG (Q:=fun c v=>v=y/\c=(none,())) (I:=fun _ c v=>v=y/\c=(none,())) (fun x _ v _ _ I=>?_) (fun _ _ I=>I) ⟨rfl,rfl⟩) fun _ v I=>?_);obtain⟨e,rfl⟩:=I;subst e;refine bN (nG ?_);simp only[q3,aw,aE,bK,av,if_true];exact dw ⟨rfl,rfl⟩;obtain⟨e,rfl⟩:=I;subst e;exact dw (h v q1 q2 q4)
end
theorem zm3{prog:aO}{w:br}{A:bc}{E:qV}{s:ak}{u:iw}{rk:ae->Int}{l:Array mT}{z:l8}{Q:Unit->l8->Prop}(c:Cmp prog w A s u rk l)(b:Sb u l z)(s2:2<=l.size)(o:l.size<64)
  (h:∀y,(arrOf y).Perm l->failedOf y=none->Up rk (arrOf y) l.size->Q () y):wpS (model prog w) A E s sortRuns' Q z:=zoP c b s2 o h
def midH(h:ba)(a:af)(l:List ae):ba:=((h.update a (bJ fun _=>#[])).push (seqObj "tuple" l.toArray 0)).push (seqObj "list" #[] 0)
section
variable{prog:aO}{w:br}{A:bc}{E:qV}{s:ak}{rk:ae->Int}
def Kinds(prog:aO)(w:br)(A:bc)(s:ak)(rk:ae->Int)(l:List ae):Prop:=2<=l.length->∃o,(∀(E:qV) (Q:iw->ak->Prop),Q o s->wpAny (model prog w) A (keyKind' l.toArray) Q E s)/\Cmp prog w A s o rk (pairsOf l)
theorem ziM{a:af}{l:List ae}{n:Nat}{P:Fin->ak->Prop}(u:s.heap.get? a=some (seqObj "list" l.toArray n)) (x:l.length<64) (S:Kinds prog w A { s with heap:=midH s.heap a l } rk l)
  (h:∀y:l8,(arrOf y).Perm (pairsOf l)->Up rk (arrOf y) l.length->P (.done (.ret .none)) { s with heap:=sortedHeap s.heap a l ((arrOf y).map (·.2)) }) :
  wpAny (model prog w) A (dh.«list.sort» ⟨[.ref a],[]⟩) P E s:=by
 rw[list_sort_plain];have C:a<s.heap.objs.size:=ax u;refine aa (eK u rfl (aa (hE u rfl ?_)));obtain⟨v,I⟩:∃v,(s.heap.update a (bJ fun _=>#[])).get? a=some (seqObj "list" #[] v):=⟨_,hU u (fun _=>#[])⟩;refine aa (oC I rfl (aa (pP (aa (fW (bQ ?_))))));have G:(midH s.heap a l).get? a=some (seqObj "list" #[] v):=by unfold midH;rw[bO _ _ _ (by rw[cQ,bM];exact ay (aq C (cT _))),bO _ _ _ (by rw[bM];exact ay C)];exact I
 show wpAny (model prog w) A _ P E { s with heap:=midH s.heap a l };have z:l.toArray.size=l.length:=by simp
 have tail:∀(y:l8),(arrOf y).Perm (pairsOf l)->failedOf y=none->Up rk (arrOf y) l.length->wpAny (model prog w) A (do
   let touched:=(<- seqEpoch a) != v
   tm (.ref a) fun _=>(arrOf y).map (·.2)
   if let some e:=failedOf y then rule "list.sort.comparison-raised";throw e
   if touched then rule "list.sort.modified";raiseError "ValueError" "list modified during sort"
   ret .none) P E { s with heap:=midH s.heap a l }:=fun y pm fl up=>by
  refine aa (oC G rfl (aa (hE G rfl ?_ (hsz2:=?_))));rw[fl];simp only[bne_self_eq_false,aI,if_false];exact ag (h y pm up);rw[Array.size_map,pm.size_eq,kN];show l.length<=sizeLine+1;have:64<=sizeLine:=by decide
  omega
 by_cases two:l.length<2;simp only[z,two,if_true];refine aa (ag ?_);rw[StateT.run_pure];refine aa (ag ?_);exact tail (wo general' (l.toArray.zip l.toArray) #[] 7 none) (oP _) rfl fun i j U N=>absurd N (by omega);simp only[z,two,if_false];obtain⟨R,L,J⟩:=S (by omega);refine aa (L _ _ ?_);refine aa (cJ (zm3 (Q:=fun _ y=>(arrOf y).Perm (pairsOf l)/\failedOf y=none/\Up rk (arrOf y) l.length) (z:=wo R (l.toArray.zip l.toArray) #[] 7 none) J ⟨oP _,rfl,rfl,rfl⟩ (by rw[kN];omega) (by rw[kN];exact x)
  fun y p1 p2 p3=>⟨p1,p2,by rwa [kN]at p3⟩) ?_ fun _ _ e=>e)
 rintro⟨⟨⟩,y⟩ s' ⟨rfl,p1,p2,p3⟩;exact tail y p1 p2 p3
theorem zcw{l:af}{v:List ae}{o:Obj}{T:String}{n:Nat}{Q:List ae->ak->Prop}(I:s.heap.get? l=some o)(hc:o.cls=.type T)(N:T = "list" \/ T = "tuple") (hd:o.data=.seq v.toArray n) (hz:v.length<=sizeLine)
  (h:Q v { s with heap:=(s.heap.push (seqObj "list" #[] 0)).update s.heap.objs.size (bJ (·++v.toArray)) }):wpAny (model prog w) A (collect (.ref l)) Q E s:=by
 unfold collect;refine aa (wpAny_runValue (f6 entry_proto_collect' ?_));show wpAny (model prog w) _ (newList [] >>= fun x=>again (.builtin "list.__iadd__" ⟨[x,.ref l],[]⟩)) _ _ s;refine aa (fW (ag ⟨f9 _ (by decide +kernel),f6 entry_list_iadd' ?_⟩));show wpAny (model prog w) _ (d5 (.ref s.heap.objs.size) (.ref l) (.ref s.heap.objs.size)) _ _ { s with heap:=s.heap.push (seqObj "list" #[] 0) };unfold d5;have C:(s.heap.push (seqObj "list" #[] 0)).get? l=some o:=aj _ I;refine aa (fI (T:=T) ⟨o,C,hc⟩ ?_);have cond:∀b:Bool,(b||aZ T == aZ "list" ||aZ T == aZ "tuple")=true:=by intro b;have J:(aZ "list" == aZ "list")=true:=rfl;have G:(aZ "tuple" == aZ "tuple")=true:=rfl;rcases N with rfl|rfl;rw[J];simp;rw[G];simp
 rw[if_pos (cond _)];refine aa (eK C hd (aa (eK (xs:=#[]) (n:=0) (aA _ rfl) rfl ?_)));rw[if_neg (by simp)];refine aa (hE (xs:=#[]) (n:=0) (aA _ rfl) rfl (ag ?_) (bX _) (by simp only[nH,aw,bK];omega));refine aa (m:=load s.heap.objs.size) (pd (hU (aA _ rfl) _) ?_);show wpAny (model prog w) A (pure ((#[]:Array ae)++v.toArray).toList) Q E _;have e:((#[]:Array ae)++v.toArray).toList=v:=by simp
 rw[e];exact ag h
def preH(h:ba)(l:List ae):ba:=((h.push (seqObj "list" #[] 0)).update h.objs.size (bJ (·++l.toArray))).push (seqObj "list" l.toArray 0)
theorem zjo{l:af}{v:List ae}{o:Obj}{T:String}{n:Nat}{Q:qV}(G:s.heap.get? l=some o)(hc:o.cls=.type T)(J:T = "list" \/ T = "tuple") (hd:o.data=.seq v.toArray n) (x:v.length<64)
  (L:∀I,Kinds prog w I { s with heap:=midH (preH s.heap v) (s.heap.objs.size+1) v } rk v)
  (h:∀y:l8,(arrOf y).Perm (pairsOf v)->Up rk (arrOf y) v.length->Q (.ref (s.heap.objs.size+1)) { s with heap:=sortedAll s.heap v ((arrOf y).map (·.2)) }) :
  wpAny (model prog w) A (call (.builtin "sorted") [.ref l]) Q E s:=by
 refine fM oD nI nJ (args_sorted1 _) ?_;unfold dh.«sorted»;refine aa (m:=checkCount "sorted" 1 1 _) (ag ?_);refine aa (zcw G hc J hd (by have:64<=sizeLine:=(by decide);omega) (aa (fW ?_)));have z:((s.heap.push (seqObj "list" #[] 0)).update s.heap.objs.size (bJ (·++v.toArray))).objs.size=s.heap.objs.size+1:=by rw[bM,cQ]
 have C:(preH s.heap v).get? (s.heap.objs.size+1)=some (seqObj "list" v.toArray 0):=by unfold preH;rw[<- z];exact aA _ rfl
 show wpAny (model prog w) _ _ _ _ { s with heap:=preH s.heap v };rw[z];refine aa (bQ (cG mf ⟨_,C,rfl⟩ lA (ziM C x (L _) fun y p1 p2=>⟨_,rfl,?_⟩) (pQ _)));exact ag ⟨_,rfl,h y p1 p2⟩
end
section
variable{prog:aO}{w:br}{A:bc}{E:qV}{s:ak}
theorem zlA(b:Bool)(x y:ae):keyLt' (tuples' b) x y=(do
  let xs <- fi x;let ys <- fi y
  for ((p,q),i) in (xs.toList.zip ys.toList).zipIdx do
   if !(<- eqBool p q) then return <- oneLt' (b&&i == 0) p q
  return decide (xs.size<ys.size)):=rfl
def LtAt(prog:aO)(w:br)(A:bc)(s:ak)(one:Bool)(p q:ae)(l:Bool):Prop:=∀(E:qV) (Q:Bool->ak->Prop),Q l s->wpAny (model prog w) A (oneLt' one p q) Q E s
theorem zgM{b:Bool}{x y:af}{N S:Obj}{l p1 u v:ae}{n m:Nat}{C G J R:Bool}{Q:Bool->ak->Prop}(hx:s.heap.get? x=some N)(dx:N.data=.seq #[l,p1] n)(Z:s.heap.get? y=some S)(U:S.data=.seq #[u,v] m)
  (e0:m3 A s l u C) (e1:m3 A s p1 v G) (t0:C=false->LtAt prog w A s b l u J) (t1:G=false->LtAt prog w A s false p1 v R) (h:Q (if C=true then(if G=true then false else R) else J) s) :
  wpAny (model prog w) A (keyLt' (tuples' b) (.ref x) (.ref y)) Q E s:=by
 rw[zlA];refine aa (eK hx dx (aa (eK Z U ?_)));have ez:((#[l,p1]:Array ae).toList.zip (#[u,v]:Array ae).toList).zipIdx=[((l,u),0),((p1,v),1)]:=rfl;simp only[ez,lu,iy];refine aa (aa ?_);refine aa (e0 prog w E _ ?_);cases C with
 | false =>
  simp only[eX,if_true];have Y:(b&&(0:Nat) == 0)=b:=by simp
  rw[Y];refine aa (t0 rfl E _ ?_);exact ag (ag (ag (by simpa using h)))
 | true =>
  simp only[fq,aI,if_false];refine ag (aa (aa (e1 prog w E _ ?_)));cases G with
  | false =>
   simp only[eX,if_true];have z1:(b&&(1:Nat) == 0)=false:=by simp
   rw[z1];refine aa (t1 rfl E _ ?_);exact ag (ag (ag (by simpa using h)))
  | true =>simp only[fq,aI,if_false];exact ag (ag (ag (by simpa using h)))
theorem zle(a b:Int)(t u:Tok):LtAt prog w A s true (.int a t) (.int b u) (decide (a<b)):=fun _ _ q=>oneLt_int q
theorem ziL(a b:Int)(t u:Tok):LtAt prog w A s false (.int a t) (.int b u) (decide (a<b)):=fun E Q q=>by rw[oneLt'_eq];simp only[aI,if_false];refine aa (show wpAny (model prog w) A (compareOp .Lt (.int a t) (.int b u)) _ E s from lt_int ?_);exact cK q
def PrIn(h:ba)(u:ae)(b k:Int):Prop:=∃(a:af) (o:Obj) (t t':Tok) (n:Nat),u=.ref a/\h.get? a=some o/\o.cls=.type "tuple" /\ o.data=.seq #[.int b t,.int k t'] n
def two?:List ae->Int
 | [.int b _,.int k _]=>b*1000+k
 | _=>0
def rkC(h:ba)(u:ae):Int:=match u with
 | .ref a=>match h.get? a with
  | some o=>match o.data with
   | .seq xs _=>two? xs.toList
   | _=>0
  | none=>0
 | _=>0
theorem PrIn.rk{h:ba}{u:ae}{b k:Int}(p:PrIn h u b k):rkC h u=b*1000+k:=by obtain⟨a,o,t,t',n,rfl,l,_,e2⟩:=p;simp only[rkC,l,e2,two?]
theorem PrIn.kept{h h':ba}{u:ae}{b k:Int}(p:PrIn h u b k)(kp:∀b o,h.get? b=some o->h'.get? b=some o):PrIn h' u b k:=by obtain⟨a,o,t,t',n,l,v,e2,x⟩:=p;exact⟨a,o,t,t',n,l,kp _ _ v,e2,x⟩
theorem Zl{α u:Type}{f:α->Sem u}{P:α->u->Prop}{M:sU}:∀(l:List α) {Q:List u->ak->Prop},(∀v∈l,∀(C:u->ak->Prop),(∀r,P v r->C r s)->wpAny M A (f v) C E s)->(∀rs,bP P l rs->Q rs s)->wpAny M A (l.mapM f) Q E s
 | [],_,_,h=>by rw[List.mapM_nil];exact ag (h _ .nil)
 | x::l,Q,hf,h=>by rw[List.mapM_cons];exact aa (hf x (.head _) _ fun r G=>aa (Zl l (fun v I=>hf v (.tail _ I)) fun rs y=>ag (h _ (.cons G y))))
theorem zi3(v:ae):firstOfTuple' v=(do
  if (<- typeOf v) != .type "tuple" then return none
  return (<- fi v)[0]?):=rfl
theorem zjK{R:List ae}{Q:iw->ak->Prop}(U:1<=R.length)(L:∀v∈R,∃b k,PrIn s.heap v b k)(h:Q (tuples' true) s):wpAny (model prog w) A (keyKind' R.toArray) Q E s:=by
 rw[keyKind'_eq,gH,map_eq_pure_bind];refine aa (aa (Zl (P:=fun _ r=>∃(b:Int) (t:Tok),r=some (.int b t)) R (fun v hv Q' hq=>?_) fun rs J=>ag ?_));obtain⟨b,k,a,o,t,t',n,rfl,Z,e2,e3⟩:=L v hv;rw[zi3];refine aa (fI (T:="tuple") ⟨o,Z,e2⟩ ?_);rw[if_neg (by decide)];exact aa (eK Z e3 (ag (hq _ ⟨b,t,rfl⟩)));have al:∀r∈rs,∃(b:Int) (t:Tok),r=some (.int b t):=by
  clear h L U;induction J with
  | nil=>intro r u;cases u
  | cons x y G =>intro r u;rcases aC.mp u with rfl|u;exact x;exact G r u
 have ln:rs.length=R.length:=by
  clear h L U al;induction J with
  | nil=>rfl
  | cons x y G=>simp[G]
 have Ib:(rs.toArray.all fun x=>x.isSome)=true:=by simp only[gW,cU];intro x hx;obtain⟨b,t,rfl⟩:=al x hx;rfl
 rw[if_pos Ib];refine aa (fe ?_);rw[oQ];have N:rs.toArray.filterMap id=(rs.filterMap id).toArray:=by simp
 rw[N,gH,map_eq_pure_bind];refine aa (aa (aa (Zl (P:=fun _ r=>r=aZ "int") _ (fun v hv Q' hq=>?_) fun ts C=>ag ?_)));obtain⟨x,hx,e⟩:=d9.mp hv;obtain⟨b,t,rfl⟩:=al x hx;cases e;exact ag (hq _ rfl);have I:∀r∈ts,r=aZ "int":=by
  clear h L U;generalize rs.filterMap id=l at C;induction C with
  | nil=>intro r u;cases u
  | cons x y G =>intro r u;rcases aC.mp u with rfl|u;exact x;exact G r u
 have ln2:ts.length=rs.length:=by
  have:ts.length=(rs.filterMap id).length:=by
   clear h L U I;generalize rs.filterMap id=l at C;induction C with
   | nil=>rfl
   | cons x y G=>simp[G]
  rw[this];clear this C N Ib;clear ln J;induction rs with
  | nil=>rfl
  | cons x l G =>obtain⟨b,t,rfl⟩:=al x (.head _);simp only[cI,id,aE];rw[G fun r u=>al r (.tail _ u)]
 obtain⟨Y,S,rfl⟩:∃Y S,ts=Y::S:=by
  cases ts with
  | nil=>simp at ln2;omega
  | cons a b=>exact⟨a,b,rfl⟩
 have Z:Y=aZ "int":=I Y (.head _);subst Z;have Ih:(((aZ "int")::S).toArray.all fun x=>x == aZ "int")=true:=by simp only[gW,cU];intro x hx;rw[I x hx];rfl
 have h0:((aZ "int")::S).toArray[0]?=some (aZ "int"):=by simp
 rw[h0];simp only[Ih,if_true];refine ag (ag ?_);exact h
theorem zhT{l:List ae}{h0:ba}(C:∀v∈l,∃b k,PrIn s.heap v b k/\rkC h0 v=b*1000+k/\0<=k/\k<1000):Kinds prog w A s (rkC h0) l:=fun h2=>by
 refine⟨tuples' true,fun E Q q=>zjK (by omega) (fun v Z=>?_) q,fun p q E Q mp N h=>?_⟩;obtain⟨b,k,h,_⟩:=C v Z;exact⟨b,k,h⟩;have mem:∀z∈(pairsOf l).toList,z.1∈l:=fun z hz=>by
  have:z∈l.zip l:=by simpa[pairsOf] using hz
  exact(dW this).1
 obtain⟨b,k,⟨a,o,t,t',n,e0,e1,e2,R⟩,U,k0,k1⟩:=C _ (mem p mp);obtain⟨x,y,⟨a',o',u,G,n',f0,f1,f2,Y⟩,S,I,J⟩:=C _ (mem q N);rw[U,S]at h;rw[e0,f0];refine zgM e1 R f1 Y (f7 b t x u) (f7 k t' y G) (fun _=>zle b x t u) (fun _=>ziL k y t' G) ?_;have:(if (b == x)=true then(if (k == y)=true then false else decide (k<y)) else decide (b<x))=decide (b*1000+k<x*1000+y):=by simp only[beq_iff_eq];split;split;symm;rw[decide_eq_false_iff_not];omega;rw[decide_eq_decide];omega;rw[decide_eq_decide];omega
 rw[this];exact h
end
theorem U1{α u:Type}{l:List (α×u)}{m:List u}(h:m.Perm (l.map (·.2))):∃o:List (α×u),o.Perm l/\o.map (·.2)=m:=by
 induction m generalizing l with
 | nil =>
  have:l.map (·.2)=[]:=h.symm.eq_nil;cases l with
  | nil=>exact⟨[],.refl _,rfl⟩
  | cons a b=>simp at this
 | cons x m v =>
  have hx:x∈l.map (·.2):=h.mem_iff.mp (.head _);obtain⟨z,hz,rfl⟩:=bh.mp hx;obtain⟨C,l2,rfl⟩:=List.append_of_mem hz;have y:(z.2::m).Perm (z.2::(C++l2).map (·.2)):=by refine h.trans ?_;simp only[cP,aG];exact n9
  obtain⟨o,p,e⟩:=v (List.perm_cons _|>.mp y);exact⟨z::o,(p.cons z).trans n9.symm,by simp[e]⟩
theorem zjE{h:ba}{v:List ae}{b:af}{o:Obj}(u:h.get? b=some o):(midH (preH h v) (h.objs.size+1) v).get? b=some o:=by
 have l:b<h.objs.size:=ax u;unfold midH preH;rw[bO _ _ _ (by rw[cQ,bM,cQ,bM,cQ];exact ay (aq l (by lia))),bO _ _ _ (by rw[bM,cQ,bM,cQ];exact ay (aq l (by lia))),
  eT _ _ _ _ (by exact ay (aq l (by lia))),bO _ _ _ (by rw[bM,cQ];exact ay (aq l (by lia))),eT _ _ _ _ (by exact ay (aq l (by lia))),bO _ _ _ (by exact ay (aq l (by lia)))]
 exact u
def rkD:ab->Int
 | .tuple [.int b,.int k]=>b*1000+k
 | _=>0
def PrV(K:qF)(H:Hp)(z:V×ab):Prop:=∃q b k,z.1=.ref q/\z.2=.tuple [.int b,.int k]/\SqT K H q [.int b,.int k]/\0<=k/\k<1000
section
variable{X:Cx}
theorem zhb:JQ X (.builtin "sorted") (fun xs H Q=>∃(p:af) (zs:List (V×ab)),xs=[.ref p]/\(SqL X.K H p (zs.map (·.1))\/SqT X.K H p (zs.map (·.1)))/\zs.length<64/\(∀z∈zs,PrV X.K H z) /\
  ∀J:List (V×ab),J.Perm zs->J.Pairwise (fun a b=>rkD a.2<=rkD b.2)->∀l,H l=none->Q (.ref l) (upd H l (.lst (J.map (·.1))))):=by
 intro pins s σ H xs us Q I r h;obtain⟨p,zs,rfl,R,h64,hp,q⟩:=h;obtain⟨u,rfl,rx⟩:=vals1 r;cases rx;have key:∀(its:List ae) (o:Obj) (T:String) (n:Nat),Vals (zs.map (·.1)) its->s.heap.get? p=some o->o.cls=.type T->(T = "list" \/ T = "tuple")->o.data=.seq its.toArray n -> 
   wpAny (model X.prog X.w) X.A (call (.builtin "sorted") [.ref p]) (EP X pins σ Q) X.xe s:=fun its o T n rv U hc hT hd=>by
  have hlen:zs.length=its.length:=by simpa using rv.length
  have each:∀x∈zs.zip its,RelV x.1.1 x.2/\∃b k,PrIn s.heap x.2 b k/\x.1.2=.tuple [.int b,.int k]/\0<=k/\k<1000:=by
   have rel:∀(zs:List (V×ab)) (its:List ae),Vals (zs.map (·.1)) its->∀x∈zs.zip its,RelV x.1.1 x.2:=by
    intro zs;induction zs with
    | nil=>intro its _ x hx;simp at hx
    | cons z zs ih =>
     intro its r x hx;cases r with
     | cons Y r2 =>rcases aC.mp (by simpa using hx) with rfl|hx;exact Y;exact ih _ r2 x hx
   intro x hx;have Y:=rel zs its rv x hx;obtain⟨q',b,k,e1,e2,e3,k0,k1⟩:=hp x.1 (dW hx).1;refine⟨Y,b,k,?_,e2,k0,k1⟩;rw[e1]at Y;obtain⟨is,rs,⟨o',f1,f2,n',f3⟩,_⟩:=I.tuple e3;cases rs with
   | cons a1 a2 =>
    cases a2 with
    | cons a3 a4 =>cases a4;obtain⟨t,rfl⟩:=a1;obtain⟨t',rfl⟩:=a3;exact⟨q',o',t,t',n',Y,f1,f2,f3⟩
  refine zjo (rk:=rkC s.heap) U hc hT hd (by lia) (fun A'=>zhT fun v hv=>?_) fun y pm up=>?_;obtain⟨i,hi,rfl⟩:=aW hv;have hz:i<zs.length:=by lia
  have mem:(zs[i],its[i])∈zs.zip its:=by
   have:(zs.zip its)[i]'(by simp;lia)=(zs[i],its[i]):=by simp
   rw[<- this];exact cW _
  obtain⟨_,b,k,Z,_,k0,k1⟩:=each _ mem;exact⟨b,k,Z.kept fun _ _ e=>zjE e,Z.rk,k0,k1⟩;have N:(arrOf y).toList.Perm (its.zip its):=by have:=fE.mp pm;simpa[pairsOf] using this
  have pm1:((arrOf y).toList.map (·.2)).Perm ((zs.zip its).map (·.2)):=by refine(N.map _).trans ?_;rw[dH (by lia),dH (by lia)]
  obtain⟨C,p1,p2⟩:=U1 pm1;have HD:∀x∈C,RelV x.1.1 x.2/\∃b k,PrIn s.heap x.2 b k/\x.1.2=.tuple [.int b,.int k]/\0<=k/\k<1000:=fun x hx=>each x (p1.mem_iff.mp hx);have pz:(C.map (·.1)).Perm zs:=by have:=p1.map (·.1);rwa [fJ (by lia)]at this
  have rw':Vals ((C.map (·.1)).map (·.1)) (C.map (·.2)):=by
   have:∀C:List ((V×ab)×ae),(∀x∈C,RelV x.1.1 x.2)->Vals ((C.map (·.1)).map (·.1)) (C.map (·.2)):=by
    intro C;induction C with
    | nil=>intro _;exact .nil
    | cons a l ih=>intro h;exact .cons (h a (.head _)) (ih fun x hx=>h x (.tail _ hx))
   exact this C fun x hx=>(HD x hx).1
  have S:∀x∈C,rkC s.heap x.2=rkD x.1.2:=fun x hx=>by obtain⟨_,b,k,Z,h2,_⟩:=HD x hx;rw[Z.rk,h2];rfl
  have HS:∀z∈(arrOf y).toList,z.1=z.2:=fun z hz=>by have:z∈its.zip its:=N.mem_iff.mp hz;obtain⟨i,hi,rfl⟩:=aW this;simp
  have szy:(arrOf y).size=its.length:=by have:=N.length_eq;simpa using this
  have pw:(C.map (·.1)).Pairwise (fun a b=>rkD a.2<=rkD b.2):=by
   rw[bt,aV];intro i j hi hj hij;have lw:C.length=its.length:=by have:=congrArg dA p2;simpa[szy] using this
   have gw:∀k (hk:k<C.length),rkAt (rkC s.heap) (arrOf y) k=rkD C[k].1.2:=fun k hk=>by
    have G:k<(arrOf y).size:=by lia
    have e1:(arrOf y).toList[k]'(by simpa using G)=(arrOf y)[k]:=by simp
    have e2:C[k].2=(arrOf y)[k].2:=by
     have:(C.map (·.2))[k]'(by simpa using hk)=((arrOf y).toList.map (·.2))[k]'(by simpa using G):=by simp only[p2]
     simpa using this
    have e3:(arrOf y)[k].1=(arrOf y)[k].2:=HS _ (by rw[<- e1];exact cW _);unfold rkAt;rw[eD G];simp only[eF,dG];rw[e3,<- e2];exact S _ (cW _)
   have:=up i j hij (by lia);rwa [gw i hi,gw j hj]at this
  have ev:(arrOf y).map (·.2)=(C.map (·.2)).toArray:=by apply Array.toList_inj.mp;rw[oe,p2]
  rw[ev];obtain⟨e,he⟩:=sortedAll_at s.heap its (C.map (·.2)).toArray;refine⟨.ref (s.heap.objs.size+1),_,I.laid (a:=s.heap.objs.size+1) (o:=.lst ((C.map (·.1)).map (·.1))) (t':=s.toks) (fun _ _=>sortedAll_old) (cT _) ?_,rfl,q _ pz pw _ (I.hok.fresh (cT _))⟩;refine⟨?_,C.map (·.2),e,rw',he⟩;have:64<=sizeLine:=by decide
  have:=pz.length_eq;simp at this ⊢;lia
 rcases R with R|R;obtain⟨its,r',pl,hz⟩:=I.list R;obtain⟨o,U,hc,n,hd⟩:=pl.isList;exact key its o "list" n r' U hc (.inl rfl) hd;obtain⟨its,r',pl,hz⟩:=I.tuple R;obtain⟨o,U,hc,n,hd⟩:=pl;exact key its o "tuple" n r' U hc (.inr rfl) hd
end
def IsPr(t:ab):Prop:=∃b k:Int,t=.tuple [.int b,.int k]/\0<=k/\k<1000
def Yc(t:ab)(R:List ab->Prop):Prop:=JW t fun ts=>ts.length<64/\(∀x∈ts,IsPr x)/\∀l:List ab,l.Perm ts->l.Pairwise (fun a b=>rkD a<=rkD b)->R l
def zqd(d:DTE):DTA:=fun o n R=>d o n fun t l=>Yc t fun ts=>R ts l
section
variable{X:Cx}{e:aQ}{d:DTE}{pos p:Pos}{k:Nat}
theorem zgY(hr:Room k X.A)(hm:X.mg "sorted" = none) (h:DL X e d) (hs:starEach [e] X.env=[(false,eval e X.env)]) (hg:Gl X "sorted":=by rfl):DN X (.Call (.Name "sorted" p) [e] [] pos) (zqd d):=by
 obtain⟨ta,pa,h⟩:=h;refine⟨_,UG zhb hm oE (JY pa Qk hs) hg,fun C Z σ H n Q R S hd hq=>?_⟩;refine h C Z σ H n _ _ S hd fun t n1 v G r1 e1 Y q1=>?_;have S1:=S.on e1 Y;have fin:∀p u ts,Reps X.K C.hd (Own C Z σ) G u ts->R ts n1->G p=none->Q (.ref p) (upd G p (.lst u)):=fun p u ts rp rr J=>by
  have hp0:H p=none:=by
   cases z:H p with
   | none=>rfl
   | some o =>by_cases y:C.hd=some p;obtain⟨u,q⟩:=Y.lst y;rw[J]at q;cases q;rw[e1 p o z y]at J;cases J
  refine hq ts n1 p u _ rr (e1.trans (ExtE.new J)) (Y.same (JL J)) hp0 JB ?_;refine rp.mono (fun b o hb z=>z.elim id fun z=>?_) fun b o _ hb=>JL J b o hb;subst z;rw[J]at hb;cases hb
 have go:∀(p:af) u ts,(SqL X.K G p u\/SqT X.K G p u)->Reps X.K C.hd (Own C Z σ) G u ts->(ts.length<64/\(∀x∈ts,IsPr x)/\∀L:List ab,L.Perm ts->L.Pairwise (fun a b=>rkD a<=rkD b)->R L n1) ->
   ∃(p':af) (zs:List (V×ab)),[V.ref p]=[V.ref p']/\(SqL X.K G p' (zs.map (·.1))\/SqT X.K G p' (zs.map (·.1)))/\zs.length<64/\(∀z∈zs,PrV X.K G z) /\
  ∀I:List (V×ab),I.Perm zs->I.Pairwise (fun a b=>rkD a.2<=rkD b.2)->∀l,G l=none->Q (.ref l) (upd G l (.lst (I.map (·.1)))):=fun p u ts hs rp h=>by
  have ln:=rp.length;have rel:∀z∈u.zip ts,Rep X.K C.hd (Own C Z σ) G z.1 z.2:=fun z hz=>by
   obtain⟨i,hi,rfl⟩:=aW hz;have hi2:i<ts.length:=by simp at hi;lia
   obtain⟨v,Y,h2⟩:=rp.get (ah hi2);have hi1:i<u.length:=by lia
   rw[ah hi1]at Y;cases Y;simpa using h2
  refine⟨p,u.zip ts,rfl,?_,by simp;lia,fun z hz=>?_,fun I pm pw l hl=>?_⟩;rw[fJ (by lia)];exact hs;obtain⟨b,k,e,k0,k1⟩:=h.2.1 z.2 (dW hz).2;have r:=rel z hz;rw[e]at r;obtain⟨a,ws,e1,e2,e3⟩:=r.tupI;cases e3 with
  | cons x1 x2 =>
   cases x2 with
   | cons x3 x4 =>cases x4;rw[x1.intI,x3.intI]at e2;exact⟨a,b,k,e1,e,e2,k0,k1⟩
  refine fin l _ (I.map (·.2)) ?_ (h.2.2 _ ?_ ?_) hl;have:∀zs:List (V×ab),(∀z∈zs,Rep X.K C.hd (Own C Z σ) G z.1 z.2)->Reps X.K C.hd (Own C Z σ) G (zs.map (·.1)) (zs.map (·.2)):=by
   intro zs;induction zs with
   | nil=>intro _;exact .nil
   | cons a l ih=>intro h;exact .cons (h a (.head _)) (ih fun x hx=>h x (.tail _ hx))
  exact this I fun z hz=>rel z (pm.mem_iff.mp hz);have:=pm.map (·.2);rwa [dH (by lia)]at this;rw[bt];exact pw
 cases t with
 | list ts =>obtain⟨p,u,rfl,U,h2⟩:=q1.lstI;exact go p u ts (.inl (.of U)) h2 r1
 | tuple ts =>obtain⟨p,u,rfl,U,h2⟩:=q1.tupI;exact go p u ts (.inr U) h2 r1
 | _=>exact r1.elim
end
abbrev prD(b:Int×Int):ab:=.tuple [.int b.1,.int b.2]
def pD(bs:qB):List ab:=bs.map prD
theorem JC{bs:qB}:(pD bs).length=bs.length:=by simp[pD]
theorem zrw{bs cs:qB}:pD bs++pD cs=pD (bs++cs):=by simp[pD]
theorem Va{i h:Int}{bs:qB}:pD bs++[.tuple [.int i,.int h]]=pD (bs++[(i,h)]):=by simp[pD]
theorem UR{bs:qB}{k:Nat}{t:ab}(h:(pD bs)[k]?=some t):∃i g:Int,bs[k]?=some (i,g)/\t=.tuple [.int i,.int g]:=by
 unfold pD at h;rw[aD]at h;cases e:bs[k]? with
 | none=>rw[e]at h;cases h
 | some b=>rw[e]at h;cases h;exact⟨b.1,b.2,rfl,rfl⟩
def eB(b:Int×Int):Int:=b.1+2 ^ b.2.toNat
def Bks(bits:Int)(bs:qB):Prop:=∀b∈bs,IsBk bits b.1 b.2
def Ptc(bits:Int)(bs:qB):Prop:=Bks bits bs/\bs.Pairwise fun a b=>eB a<=b.1
theorem Qd(b:Int×Int):b.1<eB b:=by have:=Bd.Uc b.2.toNat;unfold eB;lia
theorem Ptc.ends{bits:Int}{bs:qB}(P:Ptc bits bs):bs.Pairwise fun a b=>eB a<=eB b:=P.2.imp fun {a b} h=>by have:=Qd b;lia
theorem zrL{bs:qB}:Okd (.list (pD bs)):=by
 have:∀bs:List (Int×Int),bB (pD bs)=true/\cf (pD bs)<=1:=by
  intro bs;induction bs with
  | nil=>exact⟨by simp[pD,bB],by simp[pD,cf]⟩
  | cons b l o =>refine⟨?_,?_⟩;have:=o.1;simp only[pD,aG,bB,cz,iM,g9]at this ⊢;exact this;have:=o.2;simp only[pD,aG,cf,d4]at this ⊢;lia
 exact⟨by simp only[cz];exact(this bs).1,by simp only[d4];have:=(this bs).2;lia⟩
theorem zpn:Okd (.list []):=⟨by simp[cz,bB],by simp[d4,cf]⟩
theorem zpQ{d:DTE}{l:En}{n:Nat}{o:List ab->Nat->Prop}(h:d l n fun t u=>Yc t fun ts=>o ts u):zqd d l n o:=h
theorem zr1{bits:Int}{bs:qB}{R:List ab->Prop}(o:bits<=64)(B:Bks bits bs)(C:bs.Pairwise fun a b=>eB a<=b.1\/eB b<=a.1)(J:bs.length<64)
  (h:∀cs,Ptc bits cs->cs.Perm bs->R (pD cs)):Yc (.list (pD bs)) R:=by
 refine⟨by rw[JC];exact J,fun x hx=>?_,fun u pm pw=>?_⟩;obtain⟨b,I,rfl⟩:=bh.mp hx;have:=B b I;exact⟨b.1,b.2,rfl,this.1,by have:=this.2.1;lia⟩;have G:u.Perm ((bs.map fun b=>(b,prD b)).map (·.2)):=by
  have:(bs.map fun b=>(b,prD b)).map (·.2)=pD bs:=by simp[pD]
  rw[this];exact pm
 obtain⟨zs,p1,p2⟩:=U1 G;have S:∀z∈zs,z.2=prD z.1:=fun z hz=>by obtain⟨b,_,rfl⟩:=bh.mp (p1.mem_iff.mp hz);rfl
 have e:u=pD (zs.map (·.1)):=by rw[<- p2];unfold pD;rw[bR];exact dX fun z hz=>S z hz
 have pc:(zs.map (·.1)).Perm bs:=by
  have:=p1.map (·.1);rw[bR]at this;have e2:bs.map ((fun x:(Int×Int)×ab=>x.1)∘fun b=>(b,prD b))=bs:=by show bs.map id=bs;exact uZ _
  rwa [e2]at this
 rw[e];have y:(zs.map (·.1)).Pairwise fun a b=>eB a<=b.1\/eB b<=a.1:=(pc.pairwise_iff (fun {a b} h=>h.symm)).mpr C;have v:Bks bits (zs.map (·.1)):=fun b o=>B b (pc.mem_iff.mp o);rw[e]at pw;unfold pD at pw;rw[bt]at pw;refine h _ ⟨v,?_⟩ pc;have both:=xl y pw;refine fX ?_ both;rintro a b N o ⟨Y,L⟩;have L:a.1*1000+a.2<=b.1*1000+b.2:=L;have U:=(v a N).1;have a1:=(v a N).2.1;have b0:=(v b o).1;have Z:=(v b o).2.1;have:=Qd a;have:=Qd b;lia
theorem zs_{J:DTG}{tt:DTT}{d:DTE}{y:En}{I:List ab->Nat->Prop}(Inv:Nat->List ab->Nat->Prop):∀(xs:qD) (i:Nat) {o:qD}{n:Nat},Inv i o n ->
  (∀(k:Nat) (x:ab) (o:qD) (n:Nat) (K:List ab->Nat->Prop),xs[k]?=some x->Inv (i+k) o n->(∀v G,Inv (i+k+1) v G->K v G) ->
   J x y fun C=>tt C n fun b L=>if b=true then d C L fun t R=>o.length<16777216/\K (o++[t]) R else K o L) ->
  (∀o n,Inv (i+xs.length) o n->I o n)->JP J tt d y xs o n I
 | [],i,o,n,h0,_,fin=>fin o n (by simpa using h0)
 | x::xs,i,o,n,h0,turn,fin=>by
  refine turn 0 x o n (fun o n=>JP J tt d y xs o n I) rfl (by simpa using h0) fun v G h'=>?_;refine zs_ Inv xs (i+1) (by simpa using h') (fun k u o n K e S N=>?_) (fun o n h=>fin o n ?_);refine turn (k+1) u o n K (by simpa using e) ?_ fun v G h'=>N v G ?_;have:i+(k+1)=i+1+k:=by lia
  rw[this];exact S;have:i+1+k+1=i+(k+1)+1:=by lia
  rw[this];exact h';have:i+(x::xs).length=i+1+xs.length:=by simp;lia
  rw[this]at *;exact h
theorem zms{I:DTG}{tt:DTT}{d:DTE}{v:En}{G:List ab->Nat->Prop}{xs:qD}{n:Nat}(Inv:Nat->List ab->Nat->Prop)(h0:Inv 0 [] n)
  (turn:∀(k:Nat) (x:ab) (l:qD) (n:Nat) (K:List ab->Nat->Prop),xs[k]?=some x->Inv k l n->(∀o C,Inv (k+1) o C->K o C) ->
   I x v fun u=>tt u n fun b y=>if b=true then d u y fun t L=>l.length<16777216/\K (l++[t]) L else K l y)
  (fin:∀l n,Inv xs.length l n->G l n):JP I tt d v xs [] n G :=
 zs_ Inv xs 0 h0 (fun k x l n K e N J=>turn k x l n K e (by simpa using N) fun a m h=>J a m (by simpa using h)) fun l n h=>fin l n (by simpa using h)
theorem Uz{α:Type}{cs:List α}{D:α->ab}{G:DTG}{tt:DTT}{d:DTE}{v:En}{n:Nat}{C:List ab->Nat->Prop}(F:α->ab)(J:cs.length<=16777216)
  (step:∀b∈cs,∀(K:qN) (X:Nat->Prop),K (F b) n->G (D b) v fun u=>tt u n fun c y=>if c=true then d u y K else X y) (fin:C (cs.map F) n):JP G tt d v (cs.map D) [] n C:=by
 refine zms (fun j l m=>m=n/\l=(cs.take j).map F) ⟨rfl,rfl⟩ ?_ ?_;rintro j x l m K o ⟨rfl,rfl⟩ hK;rw[aD]at o;cases eb:cs[j]? with
 | none=>rw[eb]at o;cases o
 | some b =>rw[eb]at o;cases o;obtain⟨I,e2⟩:=ao.mp eb;refine step b (aB eb) _ _ ⟨?_,hK _ _ ⟨rfl,?_⟩⟩;simp;lia;rw[eY,eb];simp
 rintro l m ⟨rfl,rfl⟩;rw[aP,cX];exact fin
theorem zvn{bs:List Bool}{R:ab->Prop}(h:R (.bool (bs.all id))):bAll [.list (bs.map d7)] R:=⟨bs,rfl,h⟩
theorem zsF{α:Type}{cs:List α}{f:α->Bool}{R:ab->Prop}(h:R (.bool (cs.all f))):bAll [.list (cs.map fun b=>d7 (f b))] R:=by
 have e:(cs.map fun b=>d7 (f b))=(cs.map f).map d7:=by simp
 rw[e];refine zvn ?_;have e2:(cs.map f).all id=cs.all f:=by simp[List.all_map,fw]
 rw[e2];exact h
theorem zr7{xs:qD}{k:Nat}{x:ab}{R:ab->Prop}(e:xs[k]?=some x)(h:R x):oIx (.tuple xs) (.int (k:Int)) R:=by
 have o:k<xs.length:=by rcases bw k xs.length with z|z;exact z;rw[bp z]at e;cases e
 rw[ZE (x:=x)];exact h;unfold atI ixN;have:((0:Int)<=(k:Int)):=by lia
 have:((k:Int)<(xs.length:Int)):=by lia
 have e2:xs[k]=x:=by rw[ah o]at e;exact au e
 simp[o,e2]
theorem zpH{xs:qD}{i:Int}{k:Nat}{x:ab}{R:ab->Prop}(hi:i=(k:Int))(e:xs[k]?=some x)(h:R x):oIx (.tuple xs) (.int i) R:=by subst hi;exact zr7 e h
theorem zpi{bs:qB}{k:Nat}{b:Int×Int}(h:bs[k]?=some b):(pD bs)[k]?=some (.tuple [.int b.1,.int b.2]):=by unfold pD;rw[aD,h];rfl
theorem zp3{bs:qB}:cq (.list (pD bs)) (.list [])=bs.isEmpty:=by
 cases bs with
 | nil=>simp[pD,cq,cE]
 | cons b l=>simp[pD,cq,cE]
theorem UN{many:Int}{n:Nat}{R:qN}(h0:0<many)(l:many<2 ^ 128)(o:n<=1000000000000)(h:∀r:Int,0<=r->r<many->R (.int r) (n+1)):Uo [HAND,.int many] n R:=⟨rfl,h0,l,o,h⟩
theorem zjB{i h:Int}:JR (.tuple [.int i,.int h])=true:=by simp[JR,YR]
theorem Bks.app{bits i h:Int}{bs:qB}(B:Bks bits bs)(C:IsBk bits i h):Bks bits (bs++[(i,h)]):=fun b l=>by rcases aT.mp l with z|z;exact B b z;cases aJ.mp z;exact C
abbrev DTO:=En->Nat->(Option Int->Nat->Prop)->Prop
def DP(X:Cx)(e:Option aQ)(d:DTO):Prop:=∃t,PO X e t/\∀(C:Ctx) (u:En) (σ:St) (H:Hp) (n:Nat) (Q:Option Int->Hp->Prop) (R:Option Int->Nat->Prop),Stt X.K C u σ H n->d u n R ->
 (∀o l H',R o l->ExtE C.hd H H'->Hn X.K C.hd H' l->Q o H')->t σ H Q
def zqe(d:DTE):DTO:=fun o n R=>d o n fun t l=>lInt t fun i=>R (some i) l
def cutD(ts:qD)(lo hi:Option Int):List ab:=(ts.drop (HT.sIx ts.length 0 lo)).take (HT.sIx ts.length ts.length hi - HT.sIx ts.length 0 lo)
def lSl(t:ab)(lo hi:Option Int)(R:List ab->Prop):Prop:=match t with
 | .list ts=>R (cutD ts lo hi)
 | _=>False
def dSlL(d:DTE)(dl x:DTO):DTA:=fun l n R=>d l n fun t u=>dl l u fun lo v=>x l v fun hi o=>lSl t lo hi fun z=>R z o
section
variable{X:Cx}{e:aQ}{d:DTE}{lo hi:Option aQ}{dlo dhi:DTO}{pos p2:Pos}
theorem zl1(h:DE X e d):DP X (some e) (zqe d):=by
 obtain⟨L,pa,h⟩:=h;refine⟨_,zo8 pa,fun C G σ H n Q R S hd o=>?_⟩;refine h C G σ H n _ _ S hd fun t J v u l y x I=>?_;cases t with
 | int i =>cases I;exact⟨i,rfl,o (some i) J u l y x⟩
 | _=>exact l.elim
theorem znU{K:qF}{hd:Option af}{O:af->Prop}{H:Hp}{vs ts}(r:Reps K hd O H vs ts)(lo hi:Option Int):Reps K hd O H (cutV vs lo hi) (cutD ts lo hi):=by unfold cutV cutD;rw[r.length];exact(r.drop _).take _
theorem znP(h:DL X e d)(L:DP X lo dlo)(J:DP X hi dhi):DN X (.Subscript e (.Slice lo hi none p2) pos) (dSlL d dlo dhi):=by
 obtain⟨ta,pa,h⟩:=h;obtain⟨tl,pl,L⟩:=L;obtain⟨tu,pu,J⟩:=J;refine⟨_,zne zoL pa pl pu,fun C N σ H n Q R S hd hq=>?_⟩;refine h C N σ H n _ _ S hd fun t n1 v H1 r1 e1 h1 q1=>?_;have Y:=S.on e1 h1;refine L C N σ H1 n1 _ _ Y r1 fun lo n2 H2 r2 e2 h2=>?_;have Z:=Y.on e2 h2;refine J C N σ H2 n2 _ _ Z r2 fun hi n3 H3 U I G=>?_;have S3:=Z.on I G;have q3:=(e2.trans I).repT S.hx q1;cases t with
 | list ts =>obtain⟨a,vs,rfl,hs,rs⟩:=q3.lstI;refine⟨a,vs,rfl,.of hs,fun p x=>?_⟩;have e:=e1.trans (e2.trans I);refine hq _ n3 p _ _ U (e.trans (ExtE.new x)) (G.same (JL x)) (Uw e G x) JB ?_;refine(znU rs lo hi).mono (fun b o y z=>z.elim id fun z=>?_) fun b o _ y=>JL x b o y;subst z;rw[x]at y;cases y
 | _=>exact U.elim
end
section
variable{X:Cx}
theorem zmw(hc:X.calm=true):JQ X (.builtin "sum") (fun xs H Q=>∃(a:af) (ns:List Int),xs=[.ref a]/\SqL X.K H a (ns.map V.int)/\Q (.int ns.sum) H):=by
 intro pins s σ H xs J Q I r h;obtain⟨a,ns,rfl,y,q⟩:=h;obtain⟨u,rfl,x⟩:=vals1 r;cases x;obtain⟨its,G,p,hz⟩:=I.list y;have hi:=intsAre_of G;have v:s.heap.IsList a its.toArray:=p.isList;obtain⟨xs,hx⟩:=hi.allInts.items;have o:numsOf its.toArray.toList=ns:=by rw[show its.toArray.toList=its from rfl,hi.numsOf]
 rw[hx]at v o;rw[nums_intItems]at o;refine sum_intListG (I.ok.hd hc) v fun h' tk t' C=>?_;rw[preSum_eq,kO (by simp),o];exact⟨.int ns.sum,H,I.kept C,⟨_,rfl⟩,q⟩
def bSum:GC
 | [.list ts],R=>∃ns:List Int,ts=ns.map bo/\R (.int ns.sum)
 | _,_=>False
theorem zsH:GpC X (fun xs H Q=>∃(a:af) (ns:List Int),xs=[.ref a]/\SqL X.K H a (ns.map V.int)/\Q (.int ns.sum) H) bSum:=by intro hd O H xs ts Q R dom rs h u;unfold bSum at h;split at h;obtain⟨ns,rfl,h⟩:=h;obtain⟨v,rfl,y⟩:=QK rs;obtain⟨p,C,rfl,l,x⟩:=y.lstI;rw[VB x]at l;exact⟨p,ns,rfl,.of l,u _ _ H h (Same.refl H) (.int _)⟩;exact h.elim
end
section
variable{d da db:DTE}{dlo dhi:DTO}{ρ:En}{n:Nat}{R:qN}{Ro:Option Int->Nat->Prop}{Rl:List ab->Nat->Prop}{xs ys:qD}{lo hi:Option Int}{Q:ab->Prop}{Ql:List ab->Prop}
theorem zsu(h:d ρ n fun t u=>dlo ρ u fun lo o=>dhi ρ o fun hi l=>lSl t lo hi fun z=>Rl z l):dSlL d dlo dhi ρ n Rl:=h
theorem zpT(h:d ρ n fun t l=>lInt t fun i=>Ro (some i) l):zqe d ρ n Ro:=h
theorem zuY(h:Ql (cutD xs lo hi)):lSl (.list xs) lo hi Ql:=h
end
class Stp (P:Prop)(Q:outParam Prop):Prop where
 go:Q->P
section
variable{t u tb:DTS}{D:JH}{ρ ρ0:En}{n i j m:Nat}{d da db dc d1 d2:DTE}{ds di:DTA}{c c' tt:DTT}{g:G2}{g':G2}{gc:GC}{gd:GD}{tg:DTG}{tgs:DTGs}{R:qN}{Rb:Bool->Nat->Prop}{Rl:List ab->Nat->Prop}{Re:En->Prop}{x y:ab}{xs ys acc:qD}{f:Int->Int->Int}{fb:ab->Bool}{k:Bool}{capt:List Nat}
instance zty :Stp (sSeq t u D ρ n) ((t { D with nx:=u D } ρ n)):=⟨fun h=>zsi h⟩
instance zqV :Stp (zoO D ρ n) ((D.nx ρ n)):=⟨fun h=>zpN h⟩
instance ztz :Stp (sRet d D ρ n) ((d ρ n fun t n'=>D.rt t n')):=⟨fun h=>zsj h⟩
instance zux :Stp (sIf c t u D ρ n) ((c ρ n fun b n1=>if b=true then t D ρ n1 else u D ρ n1)):=⟨fun h=>zvg h⟩
instance ztB :Stp (sAsg d tg D ρ n) ((d ρ n fun t n'=>tg t ρ fun ρ'=>D.nx ρ' n')):=⟨fun h=>zsm h⟩
instance ztA :Stp (sFor di tg tb D ρ n) ((di ρ n fun ts n1=>forP tg tb D ts ρ n1)):=⟨fun h=>zsl h⟩
instance zvL :Stp (dC x ρ n R) ((R x n)):=⟨fun h=>i_dC h⟩
instance zuz :Stp (dOp g da db ρ n R) ((da ρ n fun x n1=>db ρ n1 fun y n2=>g x y fun z=>R z n2)):=⟨fun h=>zvk h⟩
instance ztL :Stp (dNew ds ρ n R) ((ds ρ n fun ts n'=>R (.list ts) n')):=⟨fun h=>zsy h⟩
instance ztF :Stp (dTup ds ρ n R) ((ds ρ n fun ts n1=>R (.tuple ts) n1)):=⟨fun h=>zss h⟩
instance ztK :Stp (dNil ρ n Rl) ((Rl [] n)):=⟨fun h=>zsx h⟩
instance zq1 :Stp (Qf d ds ρ n Rl) ((d ρ n fun t n1=>ds ρ n1 fun ts n2=>Rl (t::ts) n2)):=⟨fun h=>zpU h⟩
instance zuA :Stp (dFn gd ds ρ n R) ((ds ρ n fun ts n1=>gd ts n1 R)):=⟨fun h=>zvl h⟩
instance ztQ :Stp (dFnL gd ds ρ n R) ((ds ρ n fun ts n1=>gd ts n1 fun t n2=>JR t=true/\R t n2)):=⟨fun h=>zsD h⟩
instance zqA :Stp (YS gc ds ρ n R) ((ds ρ n fun ts n1=>gc ts fun z=>R z n1)):=⟨fun h=>znE h⟩
instance ztD :Stp (isiD fb d ρ n R) ((d ρ n fun t n1=>lIsi fb t fun z=>R z n1)):=⟨fun h=>zsq h⟩
instance ztR :Stp (dAnd c c' ρ n Rb) ((c ρ n fun b n1=>if b=true then c' ρ n1 Rb else Rb false n1)):=⟨fun h=>zsE h⟩
instance zuy :Stp (dOr c c' ρ n Rb) ((c ρ n fun b n1=>if b=true then Rb true n1 else c' ρ n1 Rb)):=⟨fun h=>zvj h⟩
instance ztJ :Stp (dNot c ρ n Rb) ((c ρ n fun b n1=>Rb (!b) n1)):=⟨fun h=>zsw h⟩
instance zq2 :Stp (zqf da db ρ n R) ((da ρ n fun t n1=>bolD t fun b=>if b=true then db ρ n1 R else R (.bool false) n1)):=⟨fun h=>zpW h⟩
instance ztI :Stp (dOrV da db ρ n R) ((da ρ n fun t n1=>bolD t fun b=>if b=true then R (.bool true) n1 else db ρ n1 R)):=⟨fun h=>zsv h⟩
instance ztP :Stp (dIfE c da db ρ n R) ((c ρ n fun b n1=>if b=true then da ρ n1 R else db ρ n1 R)):=⟨fun h=>zsC h⟩
instance ztG :Stp (dTru d ρ n Rb) ((d ρ n fun t n'=>truD t fun b=>Rb b n')):=⟨fun h=>zst h⟩
instance zoN :Stp (zh4 d ρ n Rl) ((d ρ n fun t n1=>JW t fun ts=>Rl ts n1)):=⟨fun h=>zlJ h⟩
instance ztE :Stp (dYes ρ n Rb) ((Rb true n)):=⟨fun h=>zsr h⟩
instance zqT :Stp (Ug tgs (.tuple xs) ρ Re) ((tgs xs ρ Re)):=⟨fun h=>zpL h⟩
instance zqU :Stp (Uf [] ρ Re) ((Re ρ)):=⟨fun h=>zpM h⟩
instance zqy :Stp (QM tg tgs (x::xs) ρ Re) ((tg x ρ fun ρ'=>tgs xs ρ' Re)):=⟨fun h=>znA h⟩
instance zqW :Stp (Uk d ρ n Rb) ((d ρ n fun t n'=>bolD t fun b=>Rb b n')):=⟨fun h=>zpP h⟩
instance ztO :Stp (dItL d ρ n Rl) ((d ρ n fun t n'=>lLst t fun ts=>Rl ts n')):=⟨fun h=>zsB h⟩
instance ztN :Stp (dItT d ρ n Rl) ((d ρ n fun t n'=>lTup t fun ts=>Rl ts n')):=⟨fun h=>zsA h⟩
instance zqZ :Stp (U5 d ρ n Rl) ((d ρ n fun t n'=>lInt t fun j=>(-(2 ^ 62)<=j/\j<2 ^ 62)/\Rl (JX 0 j.toNat) n')):=⟨fun h=>zpS h⟩
instance zqY :Stp (U6 d1 d2 ρ n Rl) ((d1 ρ n fun t n1=>d2 ρ n1 fun u n2=>lInt t fun i=>lInt u fun j=>(-(2 ^ 62)<=i/\i<2 ^ 62/\-(2 ^ 62)<=j/\j<2 ^ 62)/\Rl (JX i (j - i).toNat) n2)):=⟨fun h=>zpR h⟩
instance ztM :Stp (dNeg d ρ n R) ((d ρ n fun t n'=>lInt t fun i=>R (.int (-i)) n')):=⟨fun h=>zsz h⟩
instance zqz :Stp (YT g g' da db dc ρ n R) ((da ρ n fun x n1=>db ρ n1 fun y n2=>g x y fun z=>bolD z fun b=>if b=true then dc ρ n2 fun w n3=>g' y w fun z=>R z n3 else R (.bool false) n2)):=⟨fun h=>znD h⟩
instance ztC {b:Bool}{A B:Prop}:Stp (if (!b)=true then A else B) ((if b=true then B else A)):=⟨fun h=>zso h⟩
end
section
variable{C:Int->Int->Prop}{f:Int->Int->Int}{fb:Int->Int->Bool}{i j k:Int}{R:ab->Prop}{Rb:Bool->Prop}{xs ys:qD}{s t:Str}{a b:Bool}{u v x y:ab}{Rn:qN}{n:Nat}
instance ztw :Stp (oAdd (.int i) (.int j) R) ((R (.int (i+j)))):=⟨fun h=>zsc h⟩
instance zuu :Stp (oEq (.int i) (.int j) R) ((R (.bool (decide (i=j))))):=⟨fun h=>zvd h⟩
instance zus :Stp (oEq (.tuple xs) (.tuple ys) R) (((Okd (.tuple xs)/\Okd (.tuple ys)/\R (.bool (cq (.tuple xs) (.tuple ys)))))):=⟨fun h=>zvb h⟩
instance zut :Stp (oEq (.list xs) (.list ys) R) (((Okd (.list xs)/\Okd (.list ys)/\R (.bool (cq (.list xs) (.list ys)))))):=⟨fun h=>zvc h⟩
instance zuj :Stp (oNe (.int i) (.int j) R) ((R (.bool (!decide (i=j))))):=⟨fun h=>zu3 h⟩
instance zui :Stp (oNe (.list xs) (.list ys) R) (((Okd (.list xs)/\Okd (.list ys)/\R (.bool (!PyData.eqv (.list xs) (.list ys)))))):=⟨fun h=>zu2 h⟩
instance zqS :Stp (oIsN u .none R) ((R (.bool (!isNone u)))):=⟨fun h=>zpI h⟩
instance zqv :Stp (Yy u (.tuple xs) R) (((Okd u/\(∀t∈xs,Okd t)/\R (.bool (!xs.any fun t=>t.eqv u))))):=⟨fun h=>znx h⟩
instance zuo :Stp (oLtA (.int i) (.int j) R) ((R (.bool (decide (i<j))))):=⟨fun h=>zu8 h⟩
instance zuq :Stp (oLeA (.int i) (.int j) R) ((R (.bool (decide (i<=j))))):=⟨fun h=>zu_ h⟩
instance ztr :Stp (oIx (.tuple (u::xs)) (.int 0) R) ((R u)):=⟨fun h=>zr6 h⟩
instance ztq :Stp (oIx (.tuple (u::v::xs)) (.int 1) R) ((R v)):=⟨fun h=>zr5 h⟩
instance ztt :Stp (oIx (.list (u::xs)) (.int 0) R) ((R u)):=⟨fun h=>zr_ h⟩
instance zts :Stp (oIx (.list (u::v::xs)) (.int 1) R) ((R v)):=⟨fun h=>zr9 h⟩
instance ztm :Stp (truD (.bool a) Rb) ((Rb a)):=⟨fun h=>zr0 h⟩
instance ztl :Stp (truD (.list xs) Rb) ((Rb (!xs.isEmpty))):=⟨fun h=>zrZ h⟩
instance ztk :Stp (truD (.tuple xs) Rb) ((Rb (!xs.isEmpty))):=⟨fun h=>zrY h⟩
instance zuv :Stp (bolD (.bool a) Rb) ((Rb a)):=⟨fun h=>zve h⟩
instance ztp :Stp (bLen [.list xs] R) ((R (.int xs.length))):=⟨fun h=>zr4 h⟩
instance zto :Stp (bLen [.tuple xs] R) ((R (.int xs.length))):=⟨fun h=>zr3 h⟩
instance zqw {ns:List Int}:Stp (bLen [SCR ns] R) ((R (.int ns.length))):=⟨fun h=>zny h⟩
instance zum :Stp (bMin [.int i,.int j] R) ((R (.int (if j<i then j else i)))):=⟨fun h=>zu6 h⟩
instance zun :Stp (bMax [.int i,.int j] R) ((R (.int (if j > i then j else i)))):=⟨fun h=>zu7 h⟩
instance ztu :Stp (bInt [.bool a] R) ((R (.int (if a then 1 else 0)))):=⟨fun h=>zsa h⟩
instance zqu :Stp (Yw [.list xs] R) ((R (.tuple xs))):=⟨fun h=>znw h⟩
instance zqR {Rl:List ab->Prop}:Stp (JW (.list xs) Rl) ((Rl xs)):=⟨fun h=>zlD h⟩
instance zqx {Rl:List ab->Prop}:Stp (JW (.tuple xs) Rl) ((Rl xs)):=⟨fun h=>ziQ h⟩
instance zup {Q:List ab->Prop}:Stp (lLst (.list xs) Q) ((Q xs)):=⟨fun h=>zu9 h⟩
instance zuc {Q:List ab->Prop}:Stp (lTup (.tuple xs) Q) ((Q xs)):=⟨fun h=>zuW h⟩
instance zur {i:Int}{Q:Int->Prop}:Stp (lInt (.int i) Q) ((Q i)):=⟨fun h=>zva h⟩
instance ztn {Q:ab->ab->Prop}:Stp (Yb [x,y] Q) ((Q x y)):=⟨fun h=>zr2 h⟩
instance zuk :Stp (oMul (.int i) (.int j) R) ((CMul i j)/\(R (.int (i*j)))):=⟨fun h=>zu4 h.1 h.2⟩
instance zul :Stp (oMod (.int i) (.int j) R) ((0<j)/\(R (.int (i % j)))):=⟨fun h=>zu5 h.1 h.2⟩
instance ztv :Stp (Uj (.int i) (.int j) R) ((U7 i j)/\(R (.int (i / j)))):=⟨fun h=>zsb h.1 h.2⟩
instance zuh :Stp (oPow (.int i) (.int j) R) ((CPow i j)/\(R (.int (i ^ j.toNat)))):=⟨fun h=>zu1 h.1 h.2⟩
instance zug :Stp (oShl (.int i) (.int j) R) ((CPow i j)/\(R (.int (i*2 ^ j.toNat)))):=⟨fun h=>zu0 h.1 h.2⟩
instance zuf :Stp (oShr (.int i) (.int j) R) ((0<=j)/\(R (.int (i / 2 ^ j.toNat)))):=⟨fun h=>zuZ h.1 h.2⟩
instance zud :Stp (oSub (.int i) (.int j) R) ((R (.int (i - j)))):=⟨fun h=>zuX h⟩
instance zub :Stp (oXor (.int i) (.int j) R) ((R (.int (bV i j)))):=⟨fun h=>zuV h⟩
instance zuw :Stp (oAnd (.int i) (.int j) R) ((R (.int (fA i j)))):=⟨fun h=>zvf h⟩
instance zvI :Stp (gB fb (.int i) (.int j) R) ((R (.bool (fb i j)))):=⟨fun h=>j_gB h⟩
instance zm1 :Stp (lIsi isInt (.int i) R) ((R (.bool true))):=⟨fun h=>zhV h⟩
instance zmP :Stp (lIsi isBool (.int i) R) ((R (.bool false))):=⟨fun h=>zgO h⟩
instance zkr :Stp (lIsi isTup (.tuple xs) R) ((R (.bool true))):=⟨fun h=>zfL h⟩
end
section
variable{d da db:DTE}{dlo dhi:DTO}{ρ:En}{n:Nat}{R:qN}{Ro:Option Int->Nat->Prop}{Rl:List ab->Nat->Prop}{xs ys:qD}{lo hi:Option Int}{Q:ab->Prop}{Ql:List ab->Prop}
instance ztH :Stp (dSlL d dlo dhi ρ n Rl) ((d ρ n fun t n1=>dlo ρ n1 fun lo n2=>dhi ρ n2 fun hi n3=>lSl t lo hi fun z=>Rl z n3)):=⟨fun h=>zsu h⟩
instance zq0 :Stp (zqe d ρ n Ro) ((d ρ n fun t n'=>lInt t fun i=>Ro (some i) n')):=⟨fun h=>zpT h⟩
instance zue :Stp (lSl (.list xs) lo hi Ql) ((Ql (cutD xs lo hi))):=⟨fun h=>zuY h⟩
end
section
instance zqX {d:DTE}{ρ:En}{n:Nat}{Rl:List ab->Nat->Prop}:Stp (zqd d ρ n Rl) ((d ρ n fun t n1=>Yc t fun ts=>Rl ts n1)):=⟨fun h=>zpQ h⟩
end
section
variable{R:ab->Prop}{b:Bool}{A B:Prop}
instance zvJ:Stp (if true=true then A else B) A:=⟨fun h=>iteT h⟩
instance zvK:Stp (if false=true then A else B) B:=⟨fun h=>iteF h⟩
end
class GetN (ρ:En)(i:Nat)(c:outParam (Option Cell)):Prop where
 e:ρ[i]?=some c
class SetN (ρ:En)(i:Nat)(c:Option Cell)(ρ':outParam En):Prop where
 e:ρ.set i c=ρ'
instance{a0:Option Cell}{as:En}:GetN (a0::as) 0 a0:=⟨rfl⟩
instance{a0 c:Option Cell}{as:En}:SetN (a0::as) 0 c (c::as):=⟨rfl⟩
instance{a0 a1:Option Cell}{as:En}:GetN (a0::a1::as) 1 a1:=⟨rfl⟩
instance{a0 a1 c:Option Cell}{as:En}:SetN (a0::a1::as) 1 c (a0::c::as):=⟨rfl⟩
instance{a0 a1 a2:Option Cell}{as:En}:GetN (a0::a1::a2::as) 2 a2:=⟨rfl⟩
instance{a0 a1 a2 c:Option Cell}{as:En}:SetN (a0::a1::a2::as) 2 c (a0::a1::c::as):=⟨rfl⟩
instance{a0 a1 a2 a3:Option Cell}{as:En}:GetN (a0::a1::a2::a3::as) 3 a3:=⟨rfl⟩
instance{a0 a1 a2 a3 c:Option Cell}{as:En}:SetN (a0::a1::a2::a3::as) 3 c (a0::a1::a2::c::as):=⟨rfl⟩
instance{a0 a1 a2 a3 c:Option Cell}{as:En}{i:Nat}[h:GetN as i c]:GetN (a0::a1::a2::a3::as) (i+4) c:=⟨h.e⟩
instance{a0 a1 a2 a3 c:Option Cell}{as bs:En}{i:Nat}[h:SetN as i c bs]:SetN (a0::a1::a2::a3::as) (i+4) c (a0::a1::a2::a3::bs):=⟨by rw[<- h.e];rfl⟩
class NormE (ρ:En)(ρ':outParam En):Prop where
 e:ρ=ρ'
instance{a:Option Cell}{as:En}:NormE (a::as) (a::as):=⟨rfl⟩
instance{ρ ρ1 ρ2:En}{i:Nat}{c:Option Cell}[h:NormE ρ ρ1][k:SetN ρ1 i c ρ2]:NormE (ρ.set i c) ρ2:=⟨by rw[h.e];exact k.e⟩
class NoneN (as:En)(nn:outParam En):Prop where
 e:aU as.length none=nn
instance:NoneN [] []:=⟨rfl⟩
instance{a:Option Cell}{as nn:En}[h:NoneN as nn]:NoneN (a::as) (none::nn):=⟨by rw[aE,bG,h.e]⟩
class StartN (N:List Str)(ts:qD)(ρ:outParam En):Prop where
 e:JV N ts=ρ
instance:StartN [] [] []:=⟨rfl⟩
instance{x:Str}{N:List Str}{ρ:En}[h:StartN N [] ρ]:StartN (x::N) [] (none::ρ):=⟨by have:=h.e;simp only[JV,dM,dB,bK,kM]at this ⊢;rw[aE,bG,this]⟩
instance{x:Str}{N:List Str}{t:ab}{ts:qD}{ρ:En}[h:StartN N ts ρ]:StartN (x::N) (t::ts) (some (.val t)::ρ):=⟨by have:=h.e;simp only[JV]at this ⊢;rw[aG,aE,aE,cY,Nat.add_sub_add_right,this]⟩
theorem zjk{d:DTS}{D:JH}{n:Nat}{N:List Str}{ts:qD}{l:En}[e:StartN N ts l](h:d D l n):d D (JV N ts) n:=e.e.symm▸h
class CapN (is:List Nat)(ρ:En)(out:outParam En):Prop where
 e:(is.map fun i=>capV (ρ.getD i none))=out
class CapC (c:Option Cell)(c':outParam (Option Cell)):Prop where
 e:capV c=c'
instance{d:ab}:CapC (some (.val d)) (some (.val d)):=⟨rfl⟩
instance{d:qD}:CapC (some (.own d)) none:=⟨rfl⟩
instance:CapC none none:=⟨rfl⟩
instance{ρ:En}:CapN [] ρ []:=⟨rfl⟩
instance{i:Nat}{is:List Nat}{ρ out:En}{c c':Option Cell}[g:GetN ρ i c][k:CapC c c'][h:CapN is ρ out]:CapN (i::is) ρ (c'::out):=⟨by have ge:=g.e;rw[aG,h.e,aM,ge,dG,k.e]⟩
class CompN (m:Nat)(capt:List Nat)(ρ:En)(ρ':outParam En):Prop where
 e:Jw m capt ρ=ρ'
instance{x:Str}{capt:List Nat}{ρ out:En}[h:CapN capt ρ out]:CompN (dA [x]) capt ρ (none::out):=⟨by unfold Jw;rw[h.e];rfl⟩
instance{x y:Str}{capt:List Nat}{ρ out:En}[h:CapN capt ρ out]:CompN (dA [x,y]) capt ρ (none::none::out):=⟨by unfold Jw;rw[h.e];rfl⟩
instance{x y z:Str}{capt:List Nat}{ρ out:En}[h:CapN capt ρ out]:CompN (dA [x,y,z]) capt ρ (none::none::none::out):=⟨by unfold Jw;rw[h.e];rfl⟩
instance{x y z u:Str}{capt:List Nat}{ρ out:En}[h:CapN capt ρ out]:CompN (dA [x,y,z,u]) capt ρ (none::none::none::none::out):=⟨by unfold Jw;rw[h.e];rfl⟩
def SetK(i:Nat)(c:Option Cell)(K:En->Nat->Prop)(l:En)(n:Nat):Prop:=K (l.set i c) n
section
variable{t u:DTS}{D:JH}{ρ ρ0 ρ':En}{n i j m:Nat}{d dj:DTE}{ds di:DTA}{tt:DTT}{tg:DTG}{R:qN}{Rl:List ab->Nat->Prop}{Re:En->Prop}{x:ab}{xs:qD}{f:Int->Int->Int}{capt:List Nat}{c:Option Cell}{K:En->Nat->Prop}{q:Int}
instance zvQ [h:SetN ρ i c ρ']:Stp (SetK i c K ρ n) (K ρ' n):=⟨fun k=>by unfold SetK;rw[h.e];exact k⟩
instance zvB:Stp (sSet i d D ρ n) (d ρ n fun t n'=>SetK i (some (.val t)) D.nx ρ n'):=⟨fun h=>h⟩
instance zvC:Stp (sOwn i ds D ρ n) (ds ρ n fun t n'=>SetK i (some (.own t)) D.nx ρ n'):=⟨fun h=>h⟩
instance ztj [h:SetN ρ i (some (.val x)) ρ']:Stp (Qb i x ρ Re) (Re ρ'):=⟨fun k=>by unfold Qb;rw[h.e];exact k⟩
instance zvM [h:GetN ρ i (some (.val x))]:Stp (dVar i ρ n R) (R x n):=⟨fun k=>zon h.e k⟩
instance zvO [h:GetN ρ i (some (.own xs))]:Stp (dOwn i ρ n R) (R (.list xs) n):=⟨fun k=>zoo h.e k⟩
instance ztV [h:GetN ρ i (some (.own xs))]:Stp (Y6 i d D ρ n) (d ρ n fun t n'=>xs.length<16777216/\SetK i (some (.own (xs++[t]))) D.nx ρ n'):=⟨fun k=>ziV h.e k⟩
instance ztS [h:GetN ρ i (some (.own xs))][h':SetN ρ i (some (.val (.list xs))) ρ']:Stp (Y7 i t D ρ n) (t D ρ' n):=⟨fun k=>ziU h.e (by rw[h'.e];exact k)⟩
instance zvX [h:GetN ρ i (some (.val (.int q)))]:Stp (sAug i f d D ρ n) (d ρ n fun t n'=>lInt t fun k=>SetK i (some (.val (.int (f q k)))) D.nx ρ n'):=⟨fun k=>zvm h.e k⟩
instance zvS:Stp (sPar i j ds D ρ n) (ds ρ n fun ts n'=>Yb ts fun t u=>SetK i (some (.val t)) (fun ρ1 n1=>SetK j (some (.val u)) D.nx ρ1 n1) ρ n'):=⟨fun h=>zsk h⟩
instance zvP [h:CompN m capt ρ ρ0]:Stp (dComp m capt di tg tt d ρ n Rl) (di ρ n fun ts n1=>JP tg tt d ρ0 ts [] n1 Rl):=⟨fun k=>zpV (by rw[h.e];exact k)⟩
theorem zoe{D:JH}{ρ:En}{i:Nat}{xs:qD}{x:ab}{n:Nat}{j:Int}{k:Nat}(e:ixN xs.length j=some k)(h:SetK i (some (.own (xs.set k x))) D.nx ρ n) :
  (match ixN xs.length j with|some k=>D.nx (ρ.set i (some (.own (xs.set k x)))) n|none=>False):=by rw[e];exact h
instance zvR [h:GetN ρ i (some (.own xs))]:Stp (sPut i dj d D ρ n) (d ρ n fun t n1=>Ui ρ i D dj t n1 xs):=⟨fun k=>zvh h.e k⟩
instance zvE:Stp (Ui ρ i D dj x n xs) (dj ρ n fun j n2=>lInt j fun j=>(match ixN xs.length j with|some k=>D.nx (ρ.set i (some (.own (xs.set k x)))) n2|none=>False)):=⟨fun h=>zsn h⟩
end
theorem Jv{l:En}{i:Nat}:l.set i (l.getD i none)=l:=by apply iK;intro j;by_cases h:i=j;subst h;by_cases hl:i<l.length;rw[gu hl,aM,ah hl];rfl;rw[bp (by simp;omega),bp (by omega)];rw[cR h]
section
variable{g:DTG}{tb:DTS}{D:JH}{ts:qD}{ρ:En}{n:Nat}
theorem zot(C y:Nat)(Inv:Nat->Option Cell->Option Cell->Nat->Prop){u:Option Cell->Option Cell->En}[N:∀l a1,NormE ((ρ.set C l).set y a1) (u l a1)](h0:Inv 0 (ρ.getD C none) (ρ.getD y none) n)
  (turn:∀(k:Nat) (t:ab) (l a1:Option Cell) (m:Nat) (K:En->Nat->Prop) (L:qN) (J:En->Nat->Prop),ts[k]?=some t->Inv k l a1 m->(∀x v G,Inv (k+1) x v G->K (u x v) G)->(∀t m,D.rt t m->L t m)->(∀ρ m,D.nx ρ m->J ρ m)->g t (u l a1) fun o=>tb { nx:=K,rt:=L,bk:=J,ct:=K,xr:=D.xr } o m)
  (fin:∀l a1 m,Inv ts.length l a1 m->D.nx (u l a1) m):forP g tb D ts ρ n:=by
 refine Qn (fun k o m=>∃l a1,o=((ρ.set C l).set y a1)/\Inv k l a1 m) ⟨_,_,?_,h0⟩ ?_ ?_;rw[Jv,Jv];rintro k t o m K e ⟨l,a1,rfl,I⟩ hK;rw[(N l a1).e];exact turn k t l a1 m K D.rt D.nx e I (fun x v G h=>(N x v).e▸hK _ _ ⟨x,v,rfl,h⟩) (fun _ _ h=>h) (fun _ _ h=>h);rintro o m ⟨l,a1,rfl,I⟩;rw[(N l a1).e];exact fin l a1 m I
theorem zos(I C G:Nat)(Inv:Nat->Option Cell->Option Cell->Option Cell->Nat->Prop){u:Option Cell->Option Cell->Option Cell->En}[N:∀l a1 a2,NormE (((ρ.set I l).set C a1).set G a2) (u l a1 a2)](h0:Inv 0 (ρ.getD I none) (ρ.getD C none) (ρ.getD G none) n)
  (turn:∀(k:Nat) (t:ab) (l a1 a2:Option Cell) (m:Nat) (K:En->Nat->Prop) (S:qN) (R:En->Nat->Prop),ts[k]?=some t->Inv k l a1 a2 m->(∀y x v J,Inv (k+1) y x v J->K (u y x v) J)->(∀t m,D.rt t m->S t m)->(∀ρ m,D.nx ρ m->R ρ m)->g t (u l a1 a2) fun o=>tb { nx:=K,rt:=S,bk:=R,ct:=K,xr:=D.xr } o m)
  (fin:∀l a1 a2 m,Inv ts.length l a1 a2 m->D.nx (u l a1 a2) m):forP g tb D ts ρ n:=by
 refine Qn (fun k o m=>∃l a1 a2,o=(((ρ.set I l).set C a1).set G a2)/\Inv k l a1 a2 m) ⟨_,_,_,?_,h0⟩ ?_ ?_;rw[Jv,Jv,Jv];rintro k t o m K e ⟨l,a1,a2,rfl,L⟩ hK;rw[(N l a1 a2).e];exact turn k t l a1 a2 m K D.rt D.nx e L (fun y x v J h=>(N y x v).e▸hK _ _ ⟨y,x,v,rfl,h⟩) (fun _ _ h=>h) (fun _ _ h=>h);rintro o m ⟨l,a1,a2,rfl,L⟩;rw[(N l a1 a2).e];exact fin l a1 a2 m L
theorem zsS(R I J L:Nat)(Inv:Nat->Option Cell->Option Cell->Option Cell->Option Cell->Nat->Prop){v:Option Cell->Option Cell->Option Cell->Option Cell->En}[N:∀l a1 a2 o,NormE ((((ρ.set R l).set I a1).set J a2).set L o) (v l a1 a2 o)](h0:Inv 0 (ρ.getD R none) (ρ.getD I none) (ρ.getD J none) (ρ.getD L none) n)
  (turn:∀(k:Nat) (t:ab) (l a1 a2 o:Option Cell) (m:Nat) (K:En->Nat->Prop) (Z:qN) (Y:En->Nat->Prop),ts[k]?=some t->Inv k l a1 a2 o m->(∀G C x y S,Inv (k+1) G C x y S->K (v G C x y) S)->(∀t m,D.rt t m->Z t m)->(∀ρ m,D.nx ρ m->Y ρ m)->g t (v l a1 a2 o) fun u=>tb { nx:=K,rt:=Z,bk:=Y,ct:=K,xr:=D.xr } u m)
  (fin:∀l a1 a2 o m,Inv ts.length l a1 a2 o m->D.nx (v l a1 a2 o) m):forP g tb D ts ρ n:=by
 refine Qn (fun k u m=>∃l a1 a2 o,u=((((ρ.set R l).set I a1).set J a2).set L o)/\Inv k l a1 a2 o m) ⟨_,_,_,_,?_,h0⟩ ?_ ?_;rw[Jv,Jv,Jv,Jv];rintro k t u m K e ⟨l,a1,a2,o,rfl,U⟩ hK;rw[(N l a1 a2 o).e];exact turn k t l a1 a2 o m K D.rt D.nx e U (fun G C x y S h=>(N G C x y).e▸hK _ _ ⟨G,C,x,y,rfl,h⟩) (fun _ _ h=>h) (fun _ _ h=>h);rintro u m ⟨l,a1,a2,o,rfl,U⟩;rw[(N l a1 a2 o).e];exact fin l a1 a2 o m U
theorem zsR(Y L R S U:Nat)(Inv:Nat->Option Cell->Option Cell->Option Cell->Option Cell->Option Cell->Nat->Prop){x:Option Cell->Option Cell->Option Cell->Option Cell->Option Cell->En}[N:∀l a1 a2 u o,NormE (((((ρ.set Y l).set L a1).set R a2).set S u).set U o) (x l a1 a2 u o)](h0:Inv 0 (ρ.getD Y none) (ρ.getD L none) (ρ.getD R none) (ρ.getD S none) (ρ.getD U none) n)
  (turn:∀(k:Nat) (t:ab) (l a1 a2 u o:Option Cell) (m:Nat) (K:En->Nat->Prop) (RT:qN) (BK:En->Nat->Prop),ts[k]?=some t->Inv k l a1 a2 u o m->(∀J G C I y Z,Inv (k+1) J G C I y Z->K (x J G C I y) Z)->(∀t m,D.rt t m->RT t m)->(∀ρ m,D.nx ρ m->BK ρ m)->g t (x l a1 a2 u o) fun v=>tb { nx:=K,rt:=RT,bk:=BK,ct:=K,xr:=D.xr } v m)
  (fin:∀l a1 a2 u o m,Inv ts.length l a1 a2 u o m->D.nx (x l a1 a2 u o) m):forP g tb D ts ρ n:=by
 refine Qn (fun k v m=>∃l a1 a2 u o,v=(((((ρ.set Y l).set L a1).set R a2).set S u).set U o)/\Inv k l a1 a2 u o m) ⟨_,_,_,_,_,?_,h0⟩ ?_ ?_;rw[Jv,Jv,Jv,Jv,Jv];rintro k t v m K e ⟨l,a1,a2,u,o,rfl,hI⟩ hK;rw[(N l a1 a2 u o).e];exact turn k t l a1 a2 u o m K D.rt D.nx e hI (fun J G C I y Z h=>(N J G C I y).e▸hK _ _ ⟨J,G,C,I,y,rfl,h⟩) (fun _ _ h=>h) (fun _ _ h=>h);rintro v m ⟨l,a1,a2,u,o,rfl,hI⟩;rw[(N l a1 a2 u o).e];exact fin l a1 a2 u o m hI
theorem zsQ(i0 i1 i2 i3 i4 i5 i6 i7:Nat)(Inv:Nat->Option Cell->Option Cell->Option Cell->Option Cell->Option Cell->Option Cell->Option Cell->Option Cell->Nat->Prop){G:Option Cell->Option Cell->Option Cell->Option Cell->Option Cell->Option Cell->Option Cell->Option Cell->En}[N:∀l a1 a2 u o x v y,NormE ((((((((ρ.set i0 l).set i1 a1).set i2 a2).set i3 u).set i4 o).set i5 x).set i6 v).set i7 y) (G l a1 a2 u o x v y)](h0:Inv 0 (ρ.getD i0 none) (ρ.getD i1 none) (ρ.getD i2 none) (ρ.getD i3 none) (ρ.getD i4 none) (ρ.getD i5 none) (ρ.getD i6 none) (ρ.getD i7 none) n)
  (turn:∀(k:Nat) (t:ab) (l a1 a2 u o x v y:Option Cell) (m:Nat) (K:En->Nat->Prop) (RT:qN) (BK:En->Nat->Prop),ts[k]?=some t->Inv k l a1 a2 u o x v y m->(∀Z U S Y R J I L m',Inv (k+1) Z U S Y R J I L m'->K (G Z U S Y R J I L) m')->(∀t m,D.rt t m->RT t m)->(∀ρ m,D.nx ρ m->BK ρ m)->g t (G l a1 a2 u o x v y) fun C=>tb { nx:=K,rt:=RT,bk:=BK,ct:=K,xr:=D.xr } C m)
  (fin:∀l a1 a2 u o x v y m,Inv ts.length l a1 a2 u o x v y m->D.nx (G l a1 a2 u o x v y) m):forP g tb D ts ρ n:=by
 refine Qn (fun k C m=>∃l a1 a2 u o x v y,C=((((((((ρ.set i0 l).set i1 a1).set i2 a2).set i3 u).set i4 o).set i5 x).set i6 v).set i7 y)/\Inv k l a1 a2 u o x v y m) ⟨_,_,_,_,_,_,_,_,?_,h0⟩ ?_ ?_;rw[Jv,Jv,Jv,Jv,Jv,Jv,Jv,Jv];rintro k t C m K e ⟨l,a1,a2,u,o,x,v,y,rfl,hI⟩ hK;rw[(N l a1 a2 u o x v y).e];exact turn k t l a1 a2 u o x v y m K D.rt D.nx e hI (fun Z U S Y R J I L m' h=>(N Z U S Y R J I L).e▸hK _ _ ⟨Z,U,S,Y,R,J,I,L,rfl,h⟩) (fun _ _ h=>h) (fun _ _ h=>h);rintro C m ⟨l,a1,a2,u,o,x,v,y,rfl,hI⟩;rw[(N l a1 a2 u o x v y).e];exact fin l a1 a2 u o x v y m hI
theorem zp2(i0 i1 i2 i3 i4 i5 i6 i7 i8 i9:Nat)(Inv:Nat->Option Cell->Option Cell->Option Cell->Option Cell->Option Cell->Option Cell->Option Cell->Option Cell->Option Cell->Option Cell->Nat->Prop){J:Option Cell->Option Cell->Option Cell->Option Cell->Option Cell->Option Cell->Option Cell->Option Cell->Option Cell->Option Cell->En}[N:∀l a1 a2 v u y x G o C,NormE ((((((((((ρ.set i0 l).set i1 a1).set i2 a2).set i3 v).set i4 u).set i5 y).set i6 x).set i7 G).set i8 o).set i9 C) (J l a1 a2 v u y x G o C)](h0:Inv 0 (ρ.getD i0 none) (ρ.getD i1 none) (ρ.getD i2 none) (ρ.getD i3 none) (ρ.getD i4 none) (ρ.getD i5 none) (ρ.getD i6 none) (ρ.getD i7 none) (ρ.getD i8 none) (ρ.getD i9 none) n)
  (turn:∀(k:Nat) (t:ab) (l a1 a2 v u y x G o C:Option Cell) (m:Nat) (K:En->Nat->Prop) (RT:qN) (BK:En->Nat->Prop),ts[k]?=some t->Inv k l a1 a2 v u y x G o C m->(∀b0 b1 b2 b3 Z R L S U Y m',Inv (k+1) b0 b1 b2 b3 Z R L S U Y m'->K (J b0 b1 b2 b3 Z R L S U Y) m')->(∀t m,D.rt t m->RT t m)->(∀ρ m,D.nx ρ m->BK ρ m)->g t (J l a1 a2 v u y x G o C) fun I=>tb { nx:=K,rt:=RT,bk:=BK,ct:=K,xr:=D.xr } I m)
  (fin:∀l a1 a2 v u y x G o C m,Inv ts.length l a1 a2 v u y x G o C m->D.nx (J l a1 a2 v u y x G o C) m):forP g tb D ts ρ n:=by
 refine Qn (fun k I m=>∃l a1 a2 v u y x G o C,I=((((((((((ρ.set i0 l).set i1 a1).set i2 a2).set i3 v).set i4 u).set i5 y).set i6 x).set i7 G).set i8 o).set i9 C)/\Inv k l a1 a2 v u y x G o C m) ⟨_,_,_,_,_,_,_,_,_,_,?_,h0⟩ ?_ ?_;rw[Jv,Jv,Jv,Jv,Jv,Jv,Jv,Jv,Jv,Jv];rintro k t I m K e ⟨l,a1,a2,v,u,y,x,G,o,C,rfl,hI⟩ hK;rw[(N l a1 a2 v u y x G o C).e];exact turn k t l a1 a2 v u y x G o C m K D.rt D.nx e hI (fun b0 b1 b2 b3 Z R L S U Y m' h=>(N b0 b1 b2 b3 Z R L S U Y).e▸hK _ _ ⟨b0,b1,b2,b3,Z,R,L,S,U,Y,rfl,h⟩) (fun _ _ h=>h) (fun _ _ h=>h);rintro I m ⟨l,a1,a2,v,u,y,x,G,o,C,rfl,hI⟩;rw[(N l a1 a2 v u y x G o C).e];exact fin l a1 a2 v u y x G o C m hI
theorem znC{i j:Nat}{u:DTS}{D:JH}{G nn C y:En}{n:Nat}{ns:List Int}{k:Int}[ej:GetN (some (.val (SCR ns))::G) j (some (.val (.int k)))][e1:NoneN G nn][e2:SetN (some (.val (SCR ns))::nn) j (some (.val (.int k))) C][e3:SetN C i (some (.val HAND)) y](U:ns.length<=63)(R:0<=k)(S:k<=100)
  (h:∀(J:En->Nat->Prop) (N:qN) (I L:En->Nat->Prop),(∀x m,D.nx (Jr x) n->J x m)->(∀b m,D.rt (.bool b) n->N (.bool b) m)->(∀x m,D.bk (Jr x) n->I x m)->(∀x m,D.ct (Jr x) n->L x m) ->
   u { nx:=J,rt:=N,bk:=I,ct:=L } y 0):UI i j u D (some (.val (SCR ns))::G) n:=by
 refine zpO (ρd:=some (.val (SCR ns))::nn) rfl ej.e U R S ?_ ?_;show some (Cell.val (SCR ns))::aU (dA (some (Cell.val (SCR ns))::G) - 1) none=_;rw[aE,iz,e1.e];rw[e2.e,e3.e];exact h _ _ _ _ (fun _ _ h=>h) (fun b _ h=>⟨b,rfl,h⟩) (fun _ _ h=>h) (fun _ _ h=>h)
theorem zkb{c:DTT}{tb:DTS}{D:JH}{ρ:En}{n:Nat}(Inv:Nat->En->Nat->Prop){m:Nat}(h0:Inv m ρ n)
  (turn:∀m ρ n (K:En->Nat->Prop) (x:qN) (v:En->Nat->Prop),Inv m ρ n->(∀o l u,o<m->Inv o l u->K l u)->(∀t m,D.rt t m->x t m)->(∀ρ m,D.nx ρ m->v ρ m) ->
   c ρ n fun b y=>if b=true then tb { nx:=K,rt:=x,bk:=v,ct:=K,xr:=D.xr } ρ y else v ρ y):zks c tb D ρ n :=
 zf5 Inv h0 fun m ρ n h=>turn m ρ n (fun l u=>∃o,o<m/\Inv o l u) D.rt D.nx h (fun o _ _ a b=>⟨o,a,b⟩) (fun _ _ h=>h) (fun _ _ h=>h)
end
mutual
def plnD:ab->Bool
 | .dict []=>true
 | .dict _=>false
 | .tuple ts=>decide (ts.length<=1000000)&&zo9 ts
 | .list ts=>decide (ts.length<=1000000)&&zo9 ts
 | .str x=>decide (x.length<=1000000)
 | _=>true
def zo9:List ab->Bool
 | []=>true
 | t::ts=>plnD t&&zo9 ts
end
theorem zh6{α:Type}{cs:List α}{D:α->ab}{J:DTG}{tt:DTT}{d:DTE}{y:En}{n:Nat}{I:List ab->Nat->Prop}(p:α->Bool)(F:α->ab)(N:cs.length<=16777216)
  (step:∀b∈cs,∀(K:qN) (X:Nat->Prop),(p b=true->K (F b) n)->(p b=false->X n)->J (D b) y fun v=>tt v n fun c G=>if c=true then d v G K else X G) (fin:I ((cs.filter p).map F) n):JP J tt d y (cs.map D) [] n I:=by
 refine zms (fun j o m=>m=n/\o=((cs.take j).filter p).map F) ⟨rfl,rfl⟩ ?_ ?_;rintro j x o m K u ⟨rfl,rfl⟩ hK;rw[aD]at u;cases eb:cs[j]? with
 | none=>rw[eb]at u;cases u
 | some b =>
  rw[eb]at u;cases u;obtain⟨L,e2⟩:=ao.mp eb;have tk:cs.take (j+1)=cs.take j++[b]:=by rw[eY,eb];rfl
  refine step b (aB eb) _ _ (fun C=>⟨?_,hK _ _ ⟨rfl,?_⟩⟩) (fun C=>hK _ _ ⟨rfl,?_⟩);have:=lK p (cs.take j);simp at this ⊢;lia;rw[tk,m7,cP];simp[C];rw[tk,m7,cP];simp[C]
 rintro o m ⟨rfl,rfl⟩;rw[aP,cX];exact fin
section
variable{prog:aO}{w:br}{A:bc}{R:lW->ak->Prop}{s:ak}{elt tg1 it1 tg2 it2:aQ}{Hs E6:List aQ}{scope:dD}{pos:Pos}{it acc:ae}{env:Env}
theorem zg9(it acc:ae)(env:Env):compTurn (.ListComp elt [⟨tg1,it1,Hs,0⟩,⟨tg2,it2,E6,0⟩] scope pos) 0 it acc env=(do
      standAt it1.pos
      match <- pyNext it with
      | none=>pure (.done .next)
      | some v =>
       letOwnedTupleGo tg1 it v
       assign tg1 env v
       let mut ok:=true
       for c in Hs do
        if ok then ok <- isTrue c env (eval c env)
       if ok then
        let x <- eval it2 env
        standAt it2.pos
        let x <- foldedSetIterable it2 env x;let _ <- runOwn (.compStart (.ListComp elt [⟨tg1,it1,Hs,0⟩,⟨tg2,it2,E6,0⟩] scope pos) 1 (<- holding [x] (pyIter x)) acc env) env
       again (.compLoop (.ListComp elt [⟨tg1,it1,Hs,0⟩,⟨tg2,it2,E6,0⟩] scope pos) 0 it acc env)):=by rfl
theorem zh7(it acc:ae)(env:Env):compTurn (.ListComp elt [⟨tg1,it1,Hs,0⟩,⟨tg2,it2,E6,0⟩] scope pos) 1 it acc env=(do
      standAt it2.pos
      match <- pyNext it with
      | none=>pure (.done .next)
      | some v =>
       letOwnedTupleGo tg2 it v
       assign tg2 env v
       let mut ok:=true
       for c in E6 do
        if ok then ok <- isTrue c env (eval c env)
       if ok then
        (do let _ <- call (.builtin "list.append") [acc,<- eval elt env])
       again (.compLoop (.ListComp elt [⟨tg1,it1,Hs,0⟩,⟨tg2,it2,E6,0⟩] scope pos) 1 it acc env)):=by rfl
theorem zmT(I:Nat->ak->Prop)
  (turn:∀n s,I n s->wpAny (model prog w) A (pyNext it) (fun r G=>match r with
   | none=>R (.ok .next) G
   | some v=>wpAny (model prog w) A (letOwnedTupleGo tg2 it v) (fun _ J=>wpAny (model prog w) A (assign tg2 env v) (fun _ Y =>
     wpAny (model prog w) A (forIn E6 true fun c r=>if r=true then do let ok <- isTrue c env (eval c env);pure (bT ok) else pure (bT r)) (fun ok y =>
      if ok=true then wpAny (model prog w) A (eval elt env) (fun x U=>wpAny (model prog w) A (call (.builtin "list.append") [acc,x]) (fun _ S=>∃m,m<n/\I m S) NoX U) NoX y
      else ∃m,m<n/\I m y) NoX Y) NoX J) NoX G) NoX s) (n:Nat) (h:I n s) :
  codeAny (model prog w) A (.compLoop (.ListComp elt [⟨tg1,it1,Hs,0⟩,⟨tg2,it2,E6,0⟩] scope pos) 1 it acc env) R s:=by
 refine nB rfl I (fun n s hI=>?_) n h;show wpAny _ A ((compTurn (.ListComp elt [⟨tg1,it1,Hs,0⟩,⟨tg2,it2,E6,0⟩] scope pos) 1 it acc env).onRaise (fun x=>do noteFrame x env;theTreesLotGoes x)) _ _ s;refine oz (cJ (E:=NoX) ?_ (fun _ _ q=>q) fun _ _ z=>cm z);rw[zh7];refine aa (cB (aa (thn (turn n s hI) fun r G Z=>?_)));cases r with
 | none=>exact ag Z
 | some v =>
  refine aa (thn Z fun _ J h₂=>aa (thn h₂ fun _ Y h₃=>aa (thn h₃ fun ok y N=>?_)));cases ok with
  | false=>exact ag ⟨rfl,N⟩
  | true =>refine aa (aa (thn N fun x U h₅=>aa (thn h₅ fun _ S h₆=>?_)));exact ag (ag ⟨rfl,h₆⟩)
theorem zkg(hs:∀x,foldedSetIterable it2 env x=pure x)(I:Nat->ak->Prop)
  (turn:∀n s,I n s->wpAny (model prog w) A (pyNext it) (fun r u=>match r with
   | none=>R (.ok .next) u
   | some v=>wpAny (model prog w) A (letOwnedTupleGo tg1 it v) (fun _ y=>wpAny (model prog w) A (assign tg1 env v) (fun _ U =>
     wpAny (model prog w) A (forIn Hs true fun c r=>if r=true then do let ok <- isTrue c env (eval c env);pure (bT ok) else pure (bT r)) (fun ok l =>
      if ok=true then wpAny (model prog w) A (eval it2 env) (fun x N=>wpAny (model prog w) A (pyIter x) (fun itv J =>
       codeAny (model prog w) A (.compStart (.ListComp elt [⟨tg1,it1,Hs,0⟩,⟨tg2,it2,E6,0⟩] scope pos) 1 itv acc env) (fun r Y=>r=.ok .next/\∃m,m<n/\I m Y) J) NoX N) NoX l
      else ∃m,m<n/\I m l) NoX U) NoX y) NoX u) NoX s) (n:Nat) (h:I n s) :
  codeAny (model prog w) A (.compLoop (.ListComp elt [⟨tg1,it1,Hs,0⟩,⟨tg2,it2,E6,0⟩] scope pos) 0 it acc env) R s:=by
 refine nB rfl I (fun n s hI=>?_) n h;show wpAny _ A ((compTurn (.ListComp elt [⟨tg1,it1,Hs,0⟩,⟨tg2,it2,E6,0⟩] scope pos) 0 it acc env).onRaise (fun x=>do noteFrame x env;theTreesLotGoes x)) _ _ s;refine oz (cJ (E:=NoX) ?_ (fun _ _ q=>q) fun _ _ z=>cm z);rw[zg9];refine aa (cB (aa (thn (turn n s hI) fun r u Z=>?_)));cases r with
 | none=>exact ag Z
 | some v =>
  refine aa (thn Z fun _ y h₂=>aa (thn h₂ fun _ U h₃=>aa (thn h₃ fun ok l G=>?_)));cases ok with
  | false=>exact ag ⟨rfl,G⟩
  | true =>refine aa (thn G fun x N h₅=>aa (cB (aa (mh (hs x) (aa (bQ (thn h₅ fun itv J h₆=>?_)))))));refine aa (wpAny_runOwn (fG h₆ fun r Y h₇=>?_));obtain⟨rfl,m,hm,hI'⟩:=h₇;exact ag ⟨rfl,m,hm,hI'⟩
theorem zmX
  (h0:codeAny (model prog w) A (.compLoop (.ListComp elt [⟨tg1,it1,Hs,0⟩,⟨tg2,it2,E6,0⟩] scope pos) 1 it acc env) R s)
  (h:wpAny (model prog w) A (pyIter it) (fun l s'=>codeAny (model prog w) A (.compLoop (.ListComp elt [⟨tg1,it1,Hs,0⟩,⟨tg2,it2,E6,0⟩] scope pos) 1 l acc env) R s')
   (notedBy (model prog w) A env fun x s'=>R (.error x) s') s) :
  codeAny (model prog w) A (.compStart (.ListComp elt [⟨tg1,it1,Hs,0⟩,⟨tg2,it2,E6,0⟩] scope pos) 1 it acc env) R s:=by
 refine oR ?_;show wpAny _ _ ((compStart (.ListComp elt [⟨tg1,it1,Hs,0⟩,⟨tg2,it2,E6,0⟩] scope pos) 1 it acc env).onRaise (fun x=>do noteFrame x env;standAt theWindowsPlace)) _ _ s;refine wpAny_notedAt ?_;unfold compStart;show wpAny _ _ (PySem.ask >>= _) _ _ s;refine aa (wpAny_askSetting (wpAny_ite ?_));split;first
  | exact aa (ag (ag (mG rfl h0)))
  | exact ag (mG rfl h0)
 first
  | exact aa (fe (aa (cB (aa (cJ h (fun l s' h'=>ag (mG rfl h')) fun _ _ x=>x)))))
  | (refine aa (fe ?_);show wpAny _ _ (standAt it2.pos >>= _) _ _ s;exact aa (cB (aa (cJ h (fun l s' h'=>ag (mG rfl h')) fun _ _ x=>x))))
end
def Yu(g:TG)(tt:TT)(R:TE)(σ:St)(J:It)(S:Hp)(D:af)(Q:Hp->Prop):Prop:=∃W:Nat->Nat->Hp->Prop,(∃m,W 0 m S)/\∀i m u,W i m u ->
 (J.stop i u/\Q u)\/(J.go i u/\∃(N:V->Hp->Prop) (I:Hp->Prop),(∀v G,N v G->∃ys,G D=some (.lst ys)/\ys.length<sizeLine/\∃C,C<m/\W (i+1) C (upd G D (.lst (ys++[v]))))/\(∀y,I y->∃C,C<m/\W (i+1) C y) /\
  ∀x L,J.yld i u x L->g x σ L fun o U=>Wk σ o/\tt o U fun b y=>if b=true then R o y N else I y)
section
variable{Y:Cx}{elt tg1 it1 tg2 it2:aQ}{Hs E6:List aQ}{scope:dD}{pos:Pos}{g:TG}{tt:TT}{te:TE}
theorem zlH(u:Y.xe=NoX)(hc:Y.calm=true)(hg:PG Y tg2 g)(ht:PTs Y E6 tt)(he:PE Y elt te){pins:qO}{σ:St}{D:af}{G:ae}{s:ak}{Q:Hp->Prop}{R:lW->ak->Prop}
  (h:PIE Y pins σ tg2 (fun J H1=>Yu g tt te σ J H1 D Q) G s) (hR:∀s' H',Inv Y pins σ H' s'->Q H'->R (.ok .next) s') :
  codeAny (model Y.prog Y.w) Y.A (.compStart (.ListComp elt [⟨tg1,it1,Hs,0⟩,⟨tg2,it2,E6,0⟩] scope pos) 1 G (.ref D) Y.env) R s:=by
 obtain⟨it,fp,tn,J,H2,e,I2,T,I,f2,W,⟨m0,w0⟩,turn⟩:=h;subst e;have loop:codeAny (model Y.prog Y.w) Y.A (.compLoop (.ListComp elt [⟨tg1,it1,Hs,0⟩,⟨tg2,it2,E6,0⟩] scope pos) 1 (.ref it) (.ref D) Y.env) R s:=by
  refine zmT (CompI Y pins σ fp tn W) ?_ m0 ⟨0,_,I2,I,fun b U=>(f2 b U).1,w0⟩;rintro n s4 ⟨i,H4,I4,st4,fr4,w4⟩;refine Vt u hc hg ht T (fun hn b U=>⟨hn b U,(f2 b U).2⟩) I4 st4 fr4 ?_;rcases turn i n H4 w4 with⟨stop,qn⟩|⟨go,N,N',hN,hN',step⟩
  ·exact .inl ⟨stop,fun s5 I5=>hR _ _ I5 qn⟩
  refine .inr ⟨go,fun σ4 H5=>te σ4 H5 N,N',fun {p6 σ7 H8 s8} I8 q8 again=>?_,hN',step⟩;have a3:=he _ s8 σ7 H8 N I8 q8;rw[u]at a3;refine thn a3 fun y s9 ⟨v,Z,I9,r9,q9⟩=>?_;obtain⟨ys,hD,hl,m',hm,w9⟩:=hN v Z q9;have a4:=VA (X:=Y) _ s9 σ7 Z (.ref D) [v] _ [y] (fun _ H'=>H'=upd Z D (.lst (ys++[v]))) I9 rfl (.cons r9 .nil) ⟨_,ys,v,rfl,rfl,hD,hl,rfl⟩;rw[u]at a4;refine thn a4 fun _ s10 ⟨_,H10,I10,_,q10⟩=>?_;subst q10;exact again I10 hm w9
 exact zmX loop (T.self Y.A 0 _ _ _ I loop)
end
def zmN(own:List Str)(capt:List Nat)(g:TG)(tt:TT)(G:TI)(g2:TG)(I:TT)(S:TE)(σ:St)(J:It)(U:Hp)(D:af)(Q:VK):Prop:=∃W:Nat->Nat->Hp->Prop,(∃m,W 0 m (upd U D (.lst [])))/\∀i m u,W i m u ->
 (J.stop i u/\Q (.ref D) u)\/(J.go i u/\∃(N L:Hp->Prop),(∀C,N C->∃y,y<m/\W (i+1) y C)/\(∀v,L v->∃y,y<m/\W (i+1) y v) /\
  ∀x R,J.yld i u x R->g x (Jl own++capS capt σ) R fun o Y=>Wk (Jl own++capS capt σ) o/\tt o Y fun b v=>if b=true then G o v (fun Z C=>Yu g2 I S o Z C D N) else L v)
def zqL(own:List Str)(capt:List Nat)(wi:TI)(g:TG)(tt:TT)(l:TI)(g2:TG)(o:TT)(v:TE):TE:=fun σ H Q=>wi σ H fun J u=>∀D,u D=none->zmN own capt g tt l g2 o v σ J u D Q
section
variable{X:Cx}{scope:dD}{own:List Str}{capt:List Nat}{elt tg iter tg2 it2:aQ}{ifs E6:List aQ}{pos:Pos}{wi wi2:TI}{g g2:TG}{tt tt2:TT}{te:TE}
theorem zmo(hc:X.calm=true)(S:JO scope own capt X)
  (hg:∀C s₀ H₀ v,PG (Jd X scope own capt C s₀ H₀ v) tg g) (ht:∀C s₀ H₀ v,PTs (Jd X scope own capt C s₀ H₀ v) ifs tt) (hi2:∀C s₀ H₀ v,PI (Jd X scope own capt C s₀ H₀ v) tg2 it2 wi2)
  (hg2:∀C s₀ H₀ v,PG (Jd X scope own capt C s₀ H₀ v) tg2 g2) (ht2:∀C s₀ H₀ v,PTs (Jd X scope own capt C s₀ H₀ v) E6 tt2) (he:∀C s₀ H₀ v,PE (Jd X scope own capt C s₀ H₀ v) elt te)
  (hs2:∀(C:af) (x:ae),foldedSetIterable it2 (compEnvC scope (closed X.env scope.names []) C X.env) x=pure x)
  {pins:qO} {σ:St} {Q:VK} {R:ae} {s2:ak} {E:qV} {RR:ae->af->lW->ak->Prop}
  (h2:PIE X pins σ tg (fun J H1=>∀D,H1 D=none->zmN own capt g tt wi2 g2 tt2 te σ J H1 D Q) R s2)
  (hR:∀D C s' H',(∃m,s'.heap.Ns C m)->(∀Z,c9 C s'.heap Z->Inv X pins σ H' { s' with heap:=Z })->H' C=none->FpOk X pins H' C->Q (.ref D) H'->RR (.ref D) C (.ok .next) s') :
  wpAny (model X.prog X.w) X.A (newList []) (fun G s₃=>wpAny (model X.prog X.w) X.A (newFunctionEnv scope X.env.globals (closed X.env scope.names []) [] X.env.qual none .none (some X.env)) (fun u I =>
   codeAny (model X.prog X.w) X.A (.compStart (.ListComp elt [⟨tg,iter,ifs,0⟩,⟨tg2,it2,E6,0⟩] scope pos) 0 R G { u with scope:=relabel scope X.env }) (RR G u.locals) I) E s₃) E s2:=by
 refine zg8 (CA:=fun G u I=>codeAny (model X.prog X.w) X.A (.compStart (.ListComp elt [⟨tg,iter,ifs,0⟩,⟨tg2,it2,E6,0⟩] scope pos) 0 R G u) (RR G u.locals) I) S h2 fun it v tn J H2 D C h₁ e T rd hnD U fr0 J0 HJ out=>?_;subst e;obtain⟨W,⟨m0,w0⟩,turn⟩:=rd _ hnD;have loop:∀tk:Tok,codeAny (model X.prog X.w) X.A (.compLoop (.ListComp elt [⟨tg,iter,ifs,0⟩,⟨tg2,it2,E6,0⟩] scope pos) 0 (.ref it) (.ref D) (compEnvC scope (closed X.env scope.names []) C X.env)) (RR (.ref D) C) { s2 with heap:=h₁,toks:=tk }:=fun tk=>by
  refine zkg (hs2 _) (CompI (Jd X scope own capt C s2 H2 v) [] (Jl own++capS capt σ) v tn W) ?_ m0 ⟨0,_,J0 tk,U,fr0,w0⟩;rintro n s4 ⟨i,H4,I4,st4,fr4,w4⟩;refine Vt (Y:=Jd X scope own capt C s2 H2 v) rfl hc (hg _ _ _ _) (ht _ _ _ _) T HJ I4 st4 fr4 ?_;rcases turn i n H4 w4 with⟨stop,qn⟩|⟨go,N,N',hN,hN',step⟩
  ·exact .inl ⟨stop,fun s5 I5=>let ⟨o1,o2,o3,o4⟩:=out s5 H4 I5;hR _ _ s5 H4 o1 o2 o3 o4 qn⟩
  refine .inr ⟨go,fun σ4 H5=>wi2 σ4 H5 (fun J2 H6=>Yu g2 tt2 te σ4 J2 H6 D N),N',fun {p6 σ7 H8 s8} I8 q8 again=>?_,hN',step⟩;refine thn (hi2 _ _ _ _ _ s8 σ7 H8 _ I8 q8) fun y s9 h9=>thn h9 fun itv2 s10 h10=>?_;refine zlH (Y:=Jd X scope own capt C s2 H2 v) rfl hc (hg2 _ _ _ _) (ht2 _ _ _ _) (he _ _ _ _) h10 fun s' H' I' q'=>⟨rfl,?_⟩;obtain⟨m',hm,w9⟩:=hN H' q';exact again I' hm w9
 exact gD (loop _) (T.self X.A 0 _ _ _ U (loop _))
theorem zkR(hc:X.calm=true)(S:JO scope own capt X)(hi:PI X tg iter wi)
  (Z:∀C s₀ H₀ l,PG (Jd X scope own capt C s₀ H₀ l) tg g) (ht:∀C s₀ H₀ l,PTs (Jd X scope own capt C s₀ H₀ l) ifs tt) (Y:∀C s₀ H₀ l,PI (Jd X scope own capt C s₀ H₀ l) tg2 it2 wi2)
  (U:∀C s₀ H₀ l,PG (Jd X scope own capt C s₀ H₀ l) tg2 g2) (G:∀C s₀ H₀ l,PTs (Jd X scope own capt C s₀ H₀ l) E6 tt2) (he:∀C s₀ H₀ l,PE (Jd X scope own capt C s₀ H₀ l) elt te)
  (hs:∀x,foldedSetIterable iter X.env x=pure x:=by intro _;rfl) (u:∀(C:af) (x:ae),foldedSetIterable it2 (compEnvC scope (closed X.env scope.names []) C X.env) x=pure x:=by intro _ _;rfl) :
  PE X (.ListComp elt [⟨tg,iter,ifs,0⟩,⟨tg2,it2,E6,0⟩] scope pos) (zqL own capt wi g tt wi2 g2 tt2 te):=by
 intro pins s σ H Q I h;rw[eval_ListComp];refine eP (use:=none) rfl hs (VG (S.cells I.ok)) S.kind S.names (thn (hi pins s σ H _ I h) fun v s1 h1=>thn h1 fun itv s2 h2=>?_);refine zmo (RR:=fun N C=>compPost (model X.prog X.w) X.A X.xe none (EP X pins σ Q) N C) hc S Z ht Y U G he u h2 fun D C s' H' y J _ _ q=>?_;obtain⟨m,y⟩:=y;exact⟨m,y,fun R sb=>⟨.ref D,H',J R sb,rfl,q⟩⟩
end
theorem zjN{J:It}{n:Nat}{g:TG}{tt:TT}{N:TE}{σ:St}{G:Hp}{D:af}{Q:Hp->Prop}(y:Nat->List V->Hp->Prop)(h0:∃ys,G D=some (.lst ys)/\y 0 ys G)
  (turn:∀i ys o,i<n->o D=some (.lst ys)->y i ys o->J.go i o/\∀x R,J.yld i o x R->g x σ R fun u S=>Wk σ u/\tt u S fun b C =>
   if b=true then N u C (fun v I=>∃zs,I D=some (.lst zs)/\zs.length<sizeLine/\y (i+1) (zs++[v]) (upd I D (.lst (zs++[v])))) else ∃zs,C D=some (.lst zs)/\y (i+1) zs C)
  (stop:∀ys o,o D=some (.lst ys)->y n ys o->J.stop n o/\Q o):Yu g tt N σ J G D Q:=by
 refine⟨fun i m H=>m=n - i/\i<=n/\∃ys,H D=some (.lst ys)/\y i ys H,⟨n,rfl,bX _,h0⟩,?_⟩;rintro i m o ⟨rfl,hi,ys,L,p⟩;by_cases hlt:i<n;obtain⟨go,st⟩:=turn i ys o hlt L p;refine .inr ⟨go,_,_,?_,?_,st⟩;rintro v I ⟨zs,e,l,q⟩;exact⟨zs,e,l,n - (i+1),by omega,rfl,hlt,_,JB,q⟩;rintro C ⟨zs,e,q⟩;exact⟨n - (i+1),by omega,rfl,hlt,zs,e,q⟩
 ·have e:i=n:=by omega
  subst e;exact .inl (stop ys o L p)
theorem zjU{J:It}{n:Nat}{own:List Str}{capt:List Nat}{g g2:TG}{tt C:TT}{y:TI}{N:TE}{σ:St}{S:Hp}{D:af}{Q:VK}(v:Nat->List V->Hp->Prop)(h0:v 0 [] (upd S D (.lst [])))
  (turn:∀i ys o,i<n->o D=some (.lst ys)->v i ys o->J.go i o/\∀x U,J.yld i o x U->g x (Jl own++capS capt σ) U fun u Y=>Wk (Jl own++capS capt σ) u/\tt u Y fun b G =>
   if b=true then y u G (fun Z R=>Yu g2 C N u Z R D fun I=>∃zs,I D=some (.lst zs)/\v (i+1) zs I) else ∃zs,G D=some (.lst zs)/\v (i+1) zs G)
  (stop:∀ys o,o D=some (.lst ys)->v n ys o->J.stop n o/\Q (.ref D) o) :
  zmN own capt g tt y g2 C N σ J S D Q:=by
 refine⟨fun i m H=>m=n - i/\i<=n/\∃ys,H D=some (.lst ys)/\v i ys H,⟨n,rfl,bX _,[],JB,h0⟩,?_⟩;rintro i m o ⟨rfl,hi,ys,L,p⟩;by_cases hlt:i<n;obtain⟨go,st⟩:=turn i ys o hlt L p;refine .inr ⟨go,_,_,?_,?_,st⟩;rintro R ⟨zs,e,q⟩;exact⟨n - (i+1),by omega,rfl,hlt,zs,e,q⟩;rintro G ⟨zs,e,q⟩;exact⟨n - (i+1),by omega,rfl,hlt,zs,e,q⟩
 ·have e:i=n:=by omega
  subst e;exact .inl (stop ys o L p)
theorem DI.uni{y:Type}{Xf:y->Cx}{K:qF}(u:∀i,(Xf i).K=K){v e:aQ}{d:DTA}(h:∀i,DI (Xf i) v e d):∃wi:TI,(∀i,PI (Xf i) v e wi)/\∀(C:Ctx) (l:En) (σ:St) (H:Hp) (n:Nat) (Q:It->Hp->Prop) (R:List ab->Nat->Prop),Stt K C l σ H n->d l n R ->
  (∀ts o J H',R ts o->ExtE C.hd H H'->Hn K C.hd H' o->ItOk K C.hd (fun a=>¬Own C l σ a) (Own C l σ) H' J ts->Q J H')->wi σ H Q:=by
 refine⟨fun σ H Q=>∀i,(gV (h i)) σ H Q,fun i pins s σ H R I hw=>(cn (h i)).1 pins s σ H R I (hw i),fun C l σ H n Q R S hd x i=>?_⟩;have:=(cn (h i)).2 C l σ H n Q R;exact this (by rw[u i];exact S) hd fun t o J H' r e h q=>x t o J H' r e (by rw[<- u i];exact h) (by rw[<- u i];exact q)
theorem Stt.onX{K:qF}{C:Ctx}{N:En}{σ:St}{H H':Hp}{n J:Nat}(S:Stt K C N σ H n)(k:∀a o,H a=some o->¬C.ext a->H' a=some o)(U:∀a,C.ext a->MutO (H' a))(Y:∀a ks,H a=some (.dK ks)->C.ext a->C.hd≠some a->H' a=some (.dK ks))(R:Hn K C.hd H' J):Stt K C N σ H' J where
 len:=S.len
 val:=fun i d hi=>by obtain⟨v,y,x⟩:=S.val i d hi;exact⟨v,y,x.mono (fun _ _ _ z=>z) fun a o no h=>k a o h fun z=>no (.inl z)⟩
 own:=fun i ds hi=>by obtain⟨a,I,y,x,G,u⟩:=S.own i ds hi;exact⟨a,I,y,k a _ x u,G.mono (fun _ _ _ z=>z) (fun a o no h=>k a o h fun z=>no (.inl z)),u⟩
 dct:=fun i ds hi=>by obtain⟨a,I,y,x,G,u⟩:=S.dct i ds hi;exact⟨a,I,y,k a _ x u,G.mono (fun _ _ _ z=>z) (fun a o no h=>k a o h fun z=>no (.inl z)),u⟩
 rdo:=fun i ds hi=>by obtain⟨a,I,y,x,G,u,L⟩:=S.rdo i ds hi;exact⟨a,I,y,Y a _ x u L,G.mono (fun _ _ _ z=>z) (fun a o no h=>k a o h fun z=>no (.inl z)),u,L⟩
 dtt:=fun i ds hi=>by obtain⟨a,I,ep,y,x,G,u⟩:=S.dtt i ds hi;exact⟨a,I,ep,y,k a _ x u,G.mono (fun _ _ _ z=>z) (fun a o no h=>k a o h fun z=>no (.inl z)),u⟩
 dif:=S.dif
 hnd:=R
 ext:=U
 hx:=S.hx
def Q6(g:DTG)(tt:DTT)(o:DTA)(g2:DTG)(u:DTT)(C:DTE)(v:En):List ab->List ab->Nat->(List ab->Nat->Prop)->Prop
 | [],acc,n,R=>R acc n
 | x::xs,acc,n,R=>g x v fun l=>tt l n fun b G=>if b=true then o l G fun ts I=>JP g2 u C l ts acc I fun y J=>Q6 g tt o g2 u C v xs y J R else Q6 g tt o g2 u C v xs acc G R
def zmj(m:Nat)(capt:List Nat)(v:DTA)(g:DTG)(tt:DTT)(l:DTA)(g2:DTG)(o:DTT)(x:DTE):DTA:=fun u n R=>v u n fun ts y=>Q6 g tt l g2 o x (Jw m capt u) ts [] y R
section
variable{X:Cx}{scope:dD}{own:List Str}{capt:List Nat}{elt tg iter tg2 it2:aQ}{ifs E6:List aQ}{pos:Pos}{di di2:DTA}{is is2:List Nat}{g g2:DTG}{tt tt2:DTT}{te:DTE}
theorem znR(hc:X.calm=true)(S:JO scope own capt X)(hi:DIL X tg iter di)
  (hg:∀C s₀ H₀ I,DG (Jd X scope own capt C s₀ H₀ I) tg is g) (hin:∀i∈is,i<own.length) (ht:∀C s₀ H₀ I,DTs (Jd X scope own capt C s₀ H₀ I) ifs tt)
  (hi2:∀C s₀ H₀ I,DI (Jd X scope own capt C s₀ H₀ I) tg2 it2 di2) (hg2:∀C s₀ H₀ I,DG (Jd X scope own capt C s₀ H₀ I) tg2 is2 g2) (hin2:∀i∈is2,i<own.length/\i∉is) (ht2:∀C s₀ H₀ I,DTs (Jd X scope own capt C s₀ H₀ I) E6 tt2)
  (he:∀C s₀ H₀ I,DE (Jd X scope own capt C s₀ H₀ I) elt te)
  (hs:∀x,foldedSetIterable iter X.env x=pure x:=by intro _;rfl) (hs2:∀(C:af) (x:ae),foldedSetIterable it2 (compEnvC scope (closed X.env scope.names []) C X.env) x=pure x:=by intro _ _;rfl) :
  DN X (.ListComp elt [⟨tg,iter,ifs,0⟩,⟨tg2,it2,E6,0⟩] scope pos) (zmj own.length capt di g tt di2 g2 tt2 te):=by
 obtain⟨wi,pi,hi⟩:=hi;let Xf:(af×ak×Hp×List af)->Cx:=fun q=>Jd X scope own capt q.1 q.2.1 q.2.2.1 q.2.2.2;have hK:∀q,(Xf q).K=X.K:=fun _=>rfl;have hne:Nonempty (af×ak×Hp×List af):=⟨(0,X.s₀,X.H₀,[])⟩;obtain⟨gg,pg,hgg⟩:=DG.uni (Xf:=Xf) hK fun q=>hg q.1 q.2.1 q.2.2.1 q.2.2.2;obtain⟨gt,pt,hgt⟩:=DTs.uni (Xf:=Xf) hK fun q=>ht q.1 q.2.1 q.2.2.1 q.2.2.2;obtain⟨wi2,pi2,hwi2⟩:=DI.uni (Xf:=Xf) hK fun q=>hi2 q.1 q.2.1 q.2.2.1 q.2.2.2;obtain⟨gg2,pg2,hgg2⟩:=DG.uni (Xf:=Xf) hK fun q=>hg2 q.1 q.2.1 q.2.2.1 q.2.2.2;obtain⟨gt2,pt2,hgt2⟩:=DTs.uni (Xf:=Xf) hK fun q=>ht2 q.1 q.2.1 q.2.2.1 q.2.2.2;obtain⟨ge,pe,hge⟩:=DE.uni (Xf:=Xf) hK fun q=>he q.1 q.2.1 q.2.2.1 q.2.2.2;refine⟨_,zkR hc S pi (fun C s₀ H₀ I=>pg (C,s₀,H₀,I)) (fun C s₀ H₀ I=>pt (C,s₀,H₀,I)) (fun C s₀ H₀ I=>pi2 (C,s₀,H₀,I)) (fun C s₀ H₀ I=>pg2 (C,s₀,H₀,I)) (fun C s₀ H₀ I=>pt2 (C,s₀,H₀,I)) (fun C s₀ H₀ I=>pe (C,s₀,H₀,I)) hs hs2,fun C N σ H n Q R St hd hq=>?_⟩;refine hi C N σ H n _ _ St hd fun ts n1 J H1 r e1 hn it=>fun D hD1=>?_;have St1:=St.on e1 hn;have hD:H D=none:=Uw e1 hn hD1;have nhd:C.hd≠some D:=fun z=>St.dom (.inl (St.hx D z)) hD;refine zjU (n:=ts.length) (fun i ys H2=>∃U n2,Q6 g tt di2 g2 tt2 te (Jw own.length capt N) (ts.drop i) U n2 R/\Reps X.K C.hd (fun a=>Own C N σ a\/a=D) H2 ys U/\ExtE C.hd H1 H2/\Hn X.K C.hd H2 n2)
  ⟨[],n1,by simpa using r,.nil,ExtE.new hD1,hn.same (JL hD1)⟩ ?_ ?_
 rintro i ys H2 hlt hy ⟨U,n2,c2,r2,e2,hn2⟩;have et:ts[i]?=some ts[i]:=ah hlt;rw[bf hlt]at c2;have itq:=it (fun a=>Own C N σ a\/a=D) H2 (fun a o u nh=>e2 a o u nh) (fun a o u no z=>z.elim no fun z=>by subst z;rw[hD1]at u;cases u) (fun a z=>z.elim (fun z=>(St1.on e2 hn2).dom z) fun z=>by subst z;rw[hy];exact fun z=>by cases z);obtain⟨go,yl⟩:=itq.1 i _ et;refine⟨go,fun x H3 hyd=>?_⟩;obtain⟨sm,rx⟩:=yl x H3 hyd;have hn3:=hn2.same sm;have e3:ExtE C.hd H1 H3:=e2.trans sm.ext;obtain⟨I3,no3⟩:=zfU (own:=own) (capt:=capt) (D:=D) (ys:=ys) St (e1.trans e3) hn3 hD (sm _ _ hy);have rx':Rep X.K C.hd (Own ⟨C.hd,fun a=>Own C N σ a\/a=D⟩ (Jw own.length capt N) (Jl own++capS capt σ)) H3 x ts[i]:=rx.mono (fun a o _ z=>z.elim id fun z=>absurd z (no3 a)) fun _ _ _ z=>z;refine hgg ⟨C.hd,fun a=>Own C N σ a\/a=D⟩ (Jw own.length capt N) (Jl own++capS capt σ) H3 n2 x ts[i] _ _ I3 rx' c2 fun Y σ4 r4 S4 k4 hj hl=>⟨Wk.of hl.symm fun j v ej=>zka hin hj ej,?_⟩;refine hgt _ Y σ4 H3 n2 _ _ S4 r4 fun b n5 H5 r5 e5 hn5=>?_;have S5:=S4.on e5 hn5;have hy5:H5 D=some (.lst ys):=e5 D _ (sm _ _ hy) nhd;have r25:∀{H6},ExtE C.hd H2 H6->Reps X.K C.hd (fun a=>Own C N σ a\/a=D) H6 ys U:=fun e=>r2.mono (fun _ _ _ z=>z) fun a o no u=>e a o u fun z=>no (.inl (.inl (St.hx a z)));cases b with
 | false =>refine iteF ⟨ys,hy5,U,n5,by simpa using r5,r25 ((Same.ext sm).trans e5),e3.trans e5,hn5⟩
 | true =>
  refine iteT (hwi2 ⟨C.hd,fun a=>Own C N σ a\/a=D⟩ Y σ4 H5 n5 _ _ S5 (by simpa using r5) fun us n6 J2 H6 r6 e6 hn6 it6=>?_);have S6:=S5.on e6 hn6;have hy6:H6 D=some (.lst ys):=e6 D _ hy5 nhd;refine zjN (n:=us.length) (fun k zs H7=>∃G n7,JP g2 tt2 te Y (us.drop k) G n7 (fun G n4=>Q6 g tt di2 g2 tt2 te (Jw own.length capt N) (ts.drop (i+1)) G n4 R)/\Reps X.K C.hd (fun a=>Own C N σ a\/a=D) H7 zs G/\ExtE C.hd H1 H7/\Hn X.K C.hd H7 n7/\∀a o,H6 a=some o->¬(Own C N σ a\/a=D)->H7 a=some o)
   ⟨ys,hy6,U,n6,by simpa using r6,r25 ((Same.ext sm).trans (e5.trans e6)),e3.trans (e5.trans e6),hn6,fun _ _ h _=>h⟩ ?_ ?_
  rintro k zs H7 hk hz ⟨G,n7,c7,r7,e7,Z,k7⟩;have et2:us[k]?=some us[k]:=ah hk;rw[bf hk]at c7;have S7:Stt X.K ⟨C.hd,fun a=>Own C N σ a\/a=D⟩ Y σ4 H7 n7:=S6.onX k7 (fun a z=>z.elim (fun z=>(St1.on e7 Z).lst z) fun z=>by subst z;exact .inl ⟨_,hz⟩) (fun a ks u z nh=>z.elim (fun z=>by have e16:ExtE C.hd H1 H6:=e3.trans (e5.trans e6);rcases St1.lst z with⟨xs,q⟩|⟨xs,q⟩|⟨b,q⟩;rw[e16 a _ q nh]at u;cases u;rw[e16 a _ q nh]at u;cases u;exact e7 a _ q nh;rw[e16 a _ q nh]at u;cases u) (fun z=>by subst z;rw[hy6]at u;cases u)) Z;have Io:=it6 (Own ⟨C.hd,fun a=>Own C N σ a\/a=D⟩ Y σ4) H7 (fun a o u no=>k7 a o u fun z=>no (.inl z)) (fun a o u no=>no) (fun a z=>S7.dom z);obtain⟨go2,yl2⟩:=Io.1 k _ et2;refine⟨go2,fun y H8 hyd2=>?_⟩;obtain⟨sm8,ry⟩:=yl2 y H8 hyd2;have hn8:=Z.same sm8;have S8:=S7.on (Same.ext sm8) hn8;refine hgg2 _ Y σ4 H8 n7 y us[k] _ _ S8 ry c7 fun ρ9 σ9 r9 S9 k9 hj9 hl9=>⟨Wk.of hl9.symm fun j v ej=>?_,?_⟩;by_cases hjo:j∈is2;exfalso;obtain⟨lo,nis⟩:=hin2 j hjo;rw[hj j nis,bu (by simpa using lo),aD]at ej;cases z:own[j]? with
  | none=>rw[z]at ej;cases ej
  | some q=>rw[z]at ej;cases ej
  rw[hj9 j hjo];exact ej;refine hgt2 _ ρ9 σ9 H8 n7 _ _ S9 r9 fun b n10 H10 r10 e10 hn10=>?_;have S10:=S9.on e10 hn10;have Iw:H10 D=some (.lst zs):=e10 D _ (sm8 _ _ hz) nhd;have Ip:∀{H'},ExtE C.hd H7 H'->Reps X.K C.hd (fun a=>Own C N σ a\/a=D) H' zs G:=fun e=>r7.mono (fun _ _ _ z=>z) fun a o no u=>e a o u fun z=>no (.inl (.inl (St.hx a z)));have kk:∀{H'},ExtE C.hd H7 H'->∀a o,H6 a=some o->¬(Own C N σ a\/a=D)->H' a=some o:=fun e a o u no=>e a o (k7 a o u no) fun z=>no (.inl (.inl (St.hx a z)));cases b with
  | false=>exact iteF ⟨zs,Iw,G,n10,by simpa using r10,Ip ((Same.ext sm8).trans e10),e7.trans ((Same.ext sm8).trans e10),hn10,kk ((Same.ext sm8).trans e10)⟩
  | true =>
   refine iteT (hge _ ρ9 σ9 H10 n10 _ _ S10 (by simpa using r10) fun t n11 v H11 r11 e11 hn11 q11=>?_);have Iy:H11 D=some (.lst zs):=e11 D _ Iw nhd;have Ik:ExtE C.hd H7 H11:=(Same.ext sm8).trans (e10.trans e11);have rl:=(Ip Ik).length;refine⟨zs,Iy,by rw[rl];exact r11.1,G++[t],n11,r11.2,?_,?_,?_,?_⟩;have q11':Rep X.K C.hd (fun a=>Own C N σ a\/a=D) H11 v t:=q11.mono (fun _ _ _ z=>.inl z) fun _ _ _ z=>z;have all:=(Ip Ik).append (Reps.cons q11' .nil);exact all.mono (fun _ _ _ z=>z) fun a o no u=>by rw[Jg (show a≠D from fun z=>no (.inr z))];exact u
   exact ExtE.updR hD1 (e7.trans Ik);exact Hn.updR nhd (.inl ⟨_,Iy⟩) hn11;exact fun a o u no=>by rw[Jg (show a≠D from fun z=>no (.inr z))];exact kk Ik a o u no
  rintro zs H7 hz ⟨G,n7,c7,r7,e7,Z,k7⟩;rw[fH]at c7;have S7:Stt X.K ⟨C.hd,fun a=>Own C N σ a\/a=D⟩ Y σ4 H7 n7:=S6.onX k7 (fun a z=>z.elim (fun z=>(St1.on e7 Z).lst z) fun z=>by subst z;exact .inl ⟨_,hz⟩) (fun a ks u z nh=>z.elim (fun z=>by have e16:ExtE C.hd H1 H6:=e3.trans (e5.trans e6);rcases St1.lst z with⟨xs,q⟩|⟨xs,q⟩|⟨b,q⟩;rw[e16 a _ q nh]at u;cases u;rw[e16 a _ q nh]at u;cases u;exact e7 a _ q nh;rw[e16 a _ q nh]at u;cases u) (fun z=>by subst z;rw[hy6]at u;cases u)) Z;have Io:=it6 (Own ⟨C.hd,fun a=>Own C N σ a\/a=D⟩ Y σ4) H7 (fun a o u no=>k7 a o u fun z=>no (.inl z)) (fun a o u no=>no) (fun a z=>S7.dom z);exact⟨Io.2,zs,hz,G,n7,c7,r7,e7,Z⟩
 rintro ys H2 hy ⟨U,n2,c2,r2,e2,hn2⟩;rw[fH]at c2;have itq:=it (fun a=>Own C N σ a\/a=D) H2 (fun a o u nh=>e2 a o u nh) (fun a o u no z=>z.elim no fun z=>by subst z;rw[hD1]at u;cases u) (fun a z=>z.elim (fun z=>(St1.on e2 hn2).dom z) fun z=>by subst z;rw[hy];exact fun z=>by cases z);exact⟨itq.2,hq U n2 D ys H2 c2 (e1.trans e2) hn2 hD hy r2⟩
end
section
variable{ρ ρ0:En}{n m:Nat}{di di2:DTA}{g g2:DTG}{tt tt2:DTT}{te:DTE}{capt:List Nat}{Rl:List ab->Nat->Prop}
instance zuB [h:CompN m capt ρ ρ0]:Stp (zmj m capt di g tt di2 g2 tt2 te ρ n Rl) (di ρ n fun ts n1=>Q6 g tt di2 g2 tt2 te ρ0 ts [] n1 Rl):=⟨fun k=>by unfold zmj;rw[h.e];exact k⟩
end
abbrev Run:=Int×Int
def NR(rs:List Run):Prop:=(∀r∈rs,r.1<r.2)/\rs.Pairwise fun a b=>a.2<b.1
def mR(x:Int)(rs:List Run):Prop:=∃r∈rs,r.1<=x/\x<r.2
def mB(x:Int)(bs:qB):Prop:=∃b∈bs,b.1<=x/\x<eB b
theorem J6{x:Int}{r:Run}{rs:List Run}:mR x (r::rs)↔(r.1<=x/\x<r.2)\/mR x rs:=by unfold mR;constructor;rintro⟨s,o,h⟩;rcases aC.mp o with rfl|o;exact .inl h;exact .inr ⟨s,o,h⟩;rintro(h|⟨s,o,h⟩);exact⟨r,by simp,h⟩;exact⟨s,by simp[o],h⟩
theorem UP{x:Int}:¬mR x []:=fun⟨_,h,_⟩=>nomatch h
theorem zlb{x:Int}{rs ss:List Run}:mR x (rs++ss)↔mR x rs\/mR x ss:=by unfold mR;constructor;rintro⟨s,o,h⟩;rcases aT.mp o with o|o;exact .inl ⟨s,o,h⟩;exact .inr ⟨s,o,h⟩;rintro(⟨s,o,h⟩|⟨s,o,h⟩);exact⟨s,by simp[o],h⟩;exact⟨s,by simp[o],h⟩
theorem zlc{x:Int}{b:Int×Int}{bs:qB}:mB x (b::bs)↔(b.1<=x/\x<eB b)\/mB x bs:=by unfold mB;constructor;rintro⟨s,o,h⟩;rcases aC.mp o with rfl|o;exact .inl h;exact .inr ⟨s,o,h⟩;rintro(h|⟨s,o,h⟩);exact⟨b,by simp,h⟩;exact⟨s,by simp[o],h⟩
theorem Z7{x:Int}:¬mB x []:=fun⟨_,h,_⟩=>nomatch h
theorem zoj{x:Int}{bs cs:qB}:mB x (bs++cs)↔mB x bs\/mB x cs:=by unfold mB;constructor;rintro⟨s,o,h⟩;rcases aT.mp o with o|o;exact .inl ⟨s,o,h⟩;exact .inr ⟨s,o,h⟩;rintro(⟨s,o,h⟩|⟨s,o,h⟩);exact⟨s,by simp[o],h⟩;exact⟨s,by simp[o],h⟩
theorem zpx{x:Int}{bs cs:qB}(h:bs.Perm cs):mB x bs↔mB x cs:=by unfold mB;constructor;rintro⟨s,l,q⟩;exact⟨s,h.mem_iff.mp l,q⟩;rintro⟨s,l,q⟩;exact⟨s,h.mem_iff.mpr l,q⟩
theorem NR.tail{r:Run}{rs:List Run}(h:NR (r::rs)):NR rs:=⟨fun s l=>h.1 s (by simp[l]),(ef.mp h.2).2⟩
theorem NR.ahead{r:Run}{rs:List Run}(h:NR (r::rs)){x:Int}(hx:mR x rs):r.2<x:=by obtain⟨s,l,o,u⟩:=hx;have:=(ef.mp h.2).1 s l;lia
theorem NR.uniq:∀{rs ss:List Run},NR rs->NR ss->(∀x,mR x rs↔mR x ss)->rs=ss
 | [],[],_,_,_=>rfl
 | [],s::ss,_,h,e=>by exfalso;have:=h.1 s (by simp);exact UP ((e s.1).mpr (J6.mpr (.inl ⟨aK _,this⟩)))
 | r::rs,[],h,_,e=>by exfalso;have:=h.1 r (by simp);exact UP ((e r.1).mp (J6.mpr (.inl ⟨aK _,this⟩)))
 | r::rs,s::ss,hr,hs,e=>by
  have o:=hr.1 r (by simp);have s1:=hs.1 s (by simp);have a:∀x,mR x (r::rs)->r.1<=x:=fun x hx=>by rcases J6.mp hx with z|z;exact z.1;have:=hr.ahead z;lia
  have b:∀x,mR x (s::ss)->s.1<=x:=fun x hx=>by rcases J6.mp hx with z|z;exact z.1;have:=hs.ahead z;lia
  have C:r.1=s.1:=by have:=b r.1 ((e r.1).mp (J6.mpr (.inl ⟨aK _,o⟩)));have:=a s.1 ((e s.1).mpr (J6.mpr (.inl ⟨aK _,s1⟩)));lia
  have u:¬mR r.2 (r::rs):=fun z=>by rcases J6.mp z with y|y;lia;have:=hr.ahead y;lia
  have ns:¬mR s.2 (s::ss):=fun z=>by rcases J6.mp z with y|y;lia;have:=hs.ahead y;lia
  have e2:r.2=s.2:=by rcases gF r.2 s.2 with z|z|z;exact absurd ((e r.2).mpr (J6.mpr (.inl ⟨by lia,z⟩))) u;exact z;exact absurd ((e s.2).mp (J6.mpr (.inl ⟨by lia,z⟩))) ns
  have v:r=s:=cx C e2;subst v;rw[NR.uniq hr.tail hs.tail fun x=>?_];have ex:=e x;rw[J6,J6]at ex;constructor;intro z;have:=hr.ahead z;rcases ex.mp (og z) with y|y;lia;exact y;intro z;have:=hs.ahead z;rcases ex.mpr (og z) with y|y;lia;exact y
def Qv(lo hi:Int)(h:Nat):Prop:=lo % 2 ^ h=0/\(2:Int) ^ h<=hi - lo/\¬(lo % 2 ^ (h+1)=0/\(2:Int) ^ (h+1)<=hi - lo)
theorem zc9{a b:Nat}(h:a<=b):((2:Int) ^ a)∣2 ^ b:=⟨2 ^ (b - a),by rw[<- fD];congr 1;lia⟩
theorem QX{a b:Nat}(h:a<=b):(2:Int) ^ a<=2 ^ b:=by
 obtain⟨c,e⟩:=zc9 h;have pa:=Bd.Uc a;have l:=Bd.Uc b;have pc:0<c:=by rcases gF c 0 with z|z|z;have:=fN pa z;lia;subst z;lia;exact z
 rw[e];have:=e9 (show(1:Int)<=c by lia) (show(0:Int)<=2 ^ a by lia);lia
theorem UB{lo:Int}{a b:Nat}(h:a<=b)(e:lo % 2 ^ b=0):lo % 2 ^ a=0:=by have d:((2:Int) ^ b)∣lo:=bg e;exact cZ (Int.dvd_trans (zc9 h) d)
theorem Qv.uniq{lo hi:Int}{h g:Nat}(a:Qv lo hi h)(b:Qv lo hi g):h=g:=by rcases cM h g with z|z|z;exfalso;exact a.2.2 ⟨UB (show h+1<=g by lia) b.1,kP (QX (show h+1<=g by lia)) b.2.1⟩;exact z;exfalso;exact b.2.2 ⟨UB (show g+1<=h by lia) a.1,kP (QX (show g+1<=h by lia)) a.2.1⟩
def Jn:Int->Int->List (Int×Int)->Prop
 | lo,hi,[]=>lo=hi
 | lo,hi,b::r=>lo<hi/\b.1=lo/\0<=b.2/\Qv lo hi b.2.toNat/\Jn (lo+2 ^ b.2.toNat) hi r
theorem Jn.le:∀{bs:qB}{lo hi:Int},Jn lo hi bs->lo<=hi
 | [],_,_,h=>by have:_=_:=h;lia
 | b::r,lo,hi,h=>by have:=h.1;lia
theorem Jn.uniq:∀{bs cs:qB}{lo hi:Int},Jn lo hi bs->Jn lo hi cs->bs=cs
 | [],[],_,_,_,_=>rfl
 | [],c::cs,lo,hi,h,k=>by have:lo=hi:=h;have:=k.1;lia
 | b::bs,[],lo,hi,h,k=>by have:lo=hi:=k;have:=h.1;lia
 | b::bs,c::cs,lo,hi,h,k=>by
  obtain⟨y,I,J,x,l⟩:=h;obtain⟨G,C,L,v,u⟩:=k;have e:=x.uniq v;have e2:b.2=c.2:=by lia
  have o:b=c:=cx (by lia) e2;subst o;rw[Jn.uniq l u]
theorem Jn.mem:∀{bs:qB}{lo hi:Int},Jn lo hi bs->∀x,mB x bs↔lo<=x/\x<hi
 | [],lo,hi,h,x=>by have:lo=hi:=h;exact⟨fun z=>absurd z Z7,fun z=>by lia⟩
 | b::r,lo,hi,h,x=>by obtain⟨v,u,y,C,o⟩:=h;have:=Jn.mem o x;have l:=Jn.le o;have p:=Bd.Uc b.2.toNat;rw[zlc,this];unfold eB;rw[u];lia
theorem Jn.blk{bits:Int}(L:0<=bits):∀{bs:qB}{lo hi:Int},Jn lo hi bs->0<=lo->hi<=2 ^ bits.toNat->Bks bits bs
 | [],_,_,_,_,_=>fun b u=>nomatch u
 | b::r,lo,hi,h,l0,l1=>by
  obtain⟨R,J,G,v,y⟩:=h;have p:=Bd.Uc b.2.toNat;have l:=Jn.le y;have I:=Jn.blk L y (by lia) l1;intro c hc;rcases aC.mp hc with rfl|hc;have u:c.2.toNat<=bits.toNat:=by rcases bw bits.toNat c.2.toNat with z|z;exfalso;have:=QX (show bits.toNat+1<=c.2.toNat by lia);have p2:=Bd.Uc bits.toNat;rw[aY]at this;have:=v.2.1;lia;exact z
  obtain⟨k,x⟩:=bg v.1;have C:0<=k:=by rcases eM k 0 with z|z;have:=fN p z;lia;exact z
  refine⟨G,by lia,k,C,by rw[J,x,bZ],?_⟩;have e:(2:Int) ^ bits.toNat=2 ^ (bits - c.2).toNat*2 ^ c.2.toNat:=by rw[<- fD];congr 1;lia
  have up:k*2 ^ c.2.toNat<2 ^ (bits - c.2).toNat*2 ^ c.2.toNat:=by rw[<- e,bZ,<- x];lia
  exact iA up (by lia);exact I c hc
theorem Jn.in:∀{bs:qB}{lo hi:Int},Jn lo hi bs->∀b∈bs,lo<=b.1/\eB b<=hi
 | [],_,_,_=>fun b v=>nomatch v
 | b::r,lo,hi,h=>by obtain⟨y,u,C,G,o⟩:=h;have p:=Bd.Uc b.2.toNat;have x:=Jn.in o;have l:=Jn.le o;intro c hc;rcases aC.mp hc with rfl|hc;unfold eB;rw[u];lia;have:=x c hc;lia
theorem Jn.pw:∀{bs:qB}{lo hi:Int},Jn lo hi bs->bs.Pairwise fun a b=>eB a<=b.1
 | [],_,_,_=>.nil
 | b::r,lo,hi,h=>by obtain⟨x,v,y,C,u⟩:=h;refine .cons (fun c hc=>?_) (Jn.pw u);have:=Jn.in u c hc;unfold eB;rw[v];lia
theorem zgd:∀{bs:qB}{lo hi:Int}{k:Nat},Jn lo hi bs->lo % 2 ^ k=0->hi - lo<2 ^ k->bs.length<=k
 | [],_,_,_,_,_,_=>bX _
 | b::r,lo,hi,k,h,d,l=>by
  obtain⟨v,x,y,o,u⟩:=h;have C:b.2.toNat<k:=by rcases bw b.2.toNat k with z|z;exact z;have:=QX z;have:=o.2.1;lia
  have up:¬(2:Int) ^ (b.2.toNat+1)<=hi - lo:=fun z=>o.2.2 ⟨UB (show b.2.toNat+1<=k by lia) d,z⟩;rw[aY]at up;have:=zgd (k:=b.2.toNat) u (by rw[nK,o.1];simp) (by lia);rw[aE];lia
theorem zgc{K:Nat}:∀{bs:qB}{lo hi:Int}{k:Nat},Jn lo hi bs->lo % 2 ^ k=0->hi - lo<2 ^ K->k<=K->bs.length<=(K - k)+K
 | [],_,_,_,_,_,_,_=>bX _
 | b::r,lo,hi,k,h,d,l,hkK=>by
  obtain⟨C,y,x,o,u⟩:=h;have p:=Bd.Uc b.2.toNat;have G:b.2.toNat<K:=by rcases bw b.2.toNat K with z|z;exact z;have:=QX z;have:=o.2.1;lia
  rw[aE];by_cases up:(2:Int) ^ (b.2.toNat+1)<=hi - lo;have nd:¬lo % 2 ^ (b.2.toNat+1)=0:=fun z=>o.2.2 ⟨z,up⟩;have I:k<=b.2.toNat:=by rcases bw b.2.toNat k with z|z;exact absurd (UB (show b.2.toNat+1<=k by lia) d) nd;exact z
  have d':(lo+2 ^ b.2.toNat) % 2 ^ (b.2.toNat+1)=0:=by
   obtain⟨q,eq⟩:=bg o.1;have e2:(2:Int) ^ (b.2.toNat+1)=2 ^ b.2.toNat*2:=aY _ _;rw[e2]at nd ⊢;have odd:q % 2=1:=by rcases oS q with z|z;exfalso;obtain⟨t,v⟩:=bg z;apply nd;apply cZ;exact⟨t,by rw[eq,v,ck]⟩;exact z
   apply cZ;refine⟨(q+1) / 2,?_⟩;have:q+1=2*((q+1) / 2):=by lia
   rw[eq,ck,<- this,oF,iH]
  have:=zgc (K:=K) (k:=b.2.toNat+1) u d' (by lia) (by lia);lia;rw[aY]at up;have:=zgd (k:=b.2.toNat) u (by rw[nK,o.1];simp) (by lia);lia
theorem Jn.len{bs:qB}{lo hi:Int}(h:Jn lo hi bs)(l:0<=lo)(o:hi<=2 ^ 64):bs.length<=130:=by have:=zgc (K:=65) (k:=0) h (by simp) (by have e:(2:Int) ^ 65=2*2 ^ 64:=(by decide);lia) (by decide);lia
theorem ziX{lo hi:Int}(h:lo<hi):∃g,Qv lo hi g:=by
 have key:∀(d k:Nat),lo % 2 ^ k=0->(2:Int) ^ k<=hi - lo->(hi - lo).toNat<2 ^ (k+d)->∃g,Qv lo hi g:=by
  intro d;induction d with
  | zero =>
   intro k _ b c;exfalso;have:((2 ^ k:Nat):Int)=(2:Int) ^ k:=by rw[eG];rfl
   rw[Nat.add_zero]at c;lia
  | succ d l =>intro k a b c;by_cases z:lo % 2 ^ (k+1)=0/\(2:Int) ^ (k+1)<=hi - lo;exact l (k+1) z.1 z.2 (by rw[show k+1+d=k+(d+1) by lia];exact c);exact⟨k,a,b,z⟩
 refine key (hi - lo).toNat 0 (by simp) (by simp;lia) ?_;rw[eJ];exact Nat.lt_two_pow_self
theorem zkk:∀(n:Nat) (lo hi:Int),(hi - lo).toNat<=n->lo<=hi->∃bs,Jn lo hi bs:=by
 intro n;induction n with
 | zero =>intro lo hi h l;exact⟨[],by show lo=hi;lia⟩
 | succ n u =>intro lo hi h l;by_cases z:lo<hi;obtain⟨g,G⟩:=ziX z;have p:=Bd.Uc g;have:=G.2.1;obtain⟨bs,B⟩:=u (lo+2 ^ g) hi (by lia) (by lia);exact⟨(lo,(g:Int))::bs,z,rfl,by show(0:Int)<=(g:Int);lia,by simpa using G,by simpa using B⟩;exact⟨[],by show lo=hi;lia⟩
def PatS:List Run->List (Int×Int)->Prop
 | [],ps=>ps=[]
 | r::rs,ps=>∃a b,ps=a++b/\Jn r.1 r.2 a/\PatS rs b
theorem PatS.uniq:∀{rs:List Run}{ps l:qB},PatS rs ps->PatS rs l->ps=l
 | [],_,_,h,k=>by rw[show _=[] from h,show _=[] from k]
 | r::rs,_,_,h,k=>by obtain⟨a,b,rfl,o,x⟩:=h;obtain⟨c,d,rfl,v,u⟩:=k;rw[o.uniq v,PatS.uniq x u]
theorem PatS.mem:∀{rs:List Run}{ps:qB},PatS rs ps->∀x,mB x ps↔mR x rs
 | [],_,h,x=>by cases(show _=[] from h);exact⟨fun z=>absurd z Z7,fun z=>absurd z UP⟩
 | r::rs,_,h,x=>by obtain⟨a,b,rfl,l,o⟩:=h;rw[zoj,J6,l.mem x,PatS.mem o x]
theorem PatS.blk{bits:Int}(o:0<=bits):∀{rs:List Run}{ps:qB},PatS rs ps->(∀r∈rs,0<=r.1/\r.2<=2 ^ bits.toNat)->Bks bits ps
 | [],_,h,_=>by cases(show _=[] from h);exact fun b v=>nomatch v
 | r::rs,_,h,w=>by obtain⟨a,b,rfl,u,x⟩:=h;have l:=w r (by simp);intro c hc;rcases aT.mp hc with hc|hc;exact u.blk o l.1 l.2 c hc;exact PatS.blk o x (fun s y=>w s (by simp[y])) c hc
theorem PatS.in:∀{rs:List Run}{ps:qB},PatS rs ps->∀b∈ps,∃r∈rs,r.1<=b.1/\eB b<=r.2
 | [],_,h=>by cases(show _=[] from h);exact fun b u=>nomatch u
 | r::rs,_,h=>by obtain⟨a,b,rfl,l,o⟩:=h;intro c hc;rcases aT.mp hc with hc|hc;exact⟨r,by simp,l.in c hc⟩;obtain⟨s,v,q⟩:=PatS.in o c hc;exact⟨s,by simp[v],q⟩
theorem PatS.pw:∀{rs:List Run}{ps:qB},PatS rs ps->NR rs->ps.Pairwise fun a b=>eB a<=b.1
 | [],_,h,_=>by cases(show _=[] from h);exact .nil
 | r::rs,_,h,nr=>by obtain⟨a,b,rfl,o,u⟩:=h;rw[eO];refine⟨o.pw,PatS.pw u nr.tail,fun x hx y v=>?_⟩;have:=o.in x hx;obtain⟨s,C,q⟩:=PatS.in u y v;have:=(ef.mp nr.2).1 s C;lia
def CanP(S:Int->Prop)(ps:qB):Prop:=∃rs,NR rs/\(∀x,mR x rs↔S x)/\PatS rs ps
theorem CanP.uniq{S T:Int->Prop}{ps l:qB}(h:CanP S ps)(k:CanP T l)(e:∀x,S x↔T x):ps=l:=by
 obtain⟨rs,o,C,G⟩:=h;obtain⟨ss,v,u,y⟩:=k;have:rs=ss:=o.uniq v fun x=>by rw[C,u,e]
 subst this;exact G.uniq y
theorem CanP.mem{S:Int->Prop}{ps:qB}(h:CanP S ps)(x:Int):mB x ps↔S x:=by obtain⟨rs,u,l,o⟩:=h;rw[o.mem,l]
theorem CanP.ptc{S:Int->Prop}{ps:qB}{bits:Int}(y:0<=bits)(h:CanP S ps)(w:∀x,S x->0<=x/\x<2 ^ bits.toNat):Ptc bits ps:=by obtain⟨rs,o,u,v⟩:=h;refine⟨v.blk y fun r l=>?_,v.pw o⟩;have lt:=o.1 r l;have a:=w r.1 ((u _).mp ⟨r,l,aK _,lt⟩);have b:=w (r.2 - 1) ((u _).mp ⟨r,l,by lia,by lia⟩);lia
section
variable{X:Cx}{a:aQ}{da:DTE}{ρ:En}{n:Nat}{R:qN}
theorem zk_:MtR X "int.bit_length" (fun x xs H Q=>∃i,x=.int i/\xs=[]/\Q (.int (eU i)) H):=by intro pins s σ H x xs v o Q I l rs h;obtain⟨i,rfl,rfl,q⟩:=h;obtain⟨t,rfl⟩:=l;cases rs;exact call_int_bit_length ⟨.int _,H,I.tok _,⟨_,rfl⟩,q⟩
def zmk(d:DTE):DTE:=fun ρ n R=>d ρ n fun t l=>lInt t fun i=>R (.int (eU i)) l
theorem zg3{p2 p3:Pos}(h:DL X a da)(I:attributeBase a "bit_length" X.env (eval a X.env)=eval a X.env:=by rfl) (G:(p2.endLine == p3.line)=true:=by rfl):DE X (.Call (.Attribute a "bit_length" p2) [] [] p3) (zmk da):=by
 obtain⟨U,pa,h⟩:=h;refine⟨_,zrr PySem.F.plainAttrs_int slot_int_bit_length type_int_bit_length zk_ pa I G,fun C ρ σ H n Q R S hd o=>?_⟩;refine h C ρ σ H n _ _ S hd fun t N v x r J y L=>?_;cases t with
 | int i =>rw[L.intI];exact⟨rfl,i,rfl,rfl,o _ N _ x r J y (.int _)⟩
 | _=>exact r.elim
instance ztU:Stp (zmk da ρ n R) (da ρ n fun t n1=>lInt t fun i=>R (.int (eU i)) n1):=⟨fun h=>h⟩
end
theorem zeg{i:Int}(h:0<i):(eU i:Int) - 1=(i.toNat.log2:Int):=by
 unfold eU;have:(i == 0)=false:=by simp;lia
 rw[this];have e:i.natAbs=i.toNat:=by lia
 rw[e];simp
theorem zlh{i:Int}(h:0<i):(2:Int) ^ i.toNat.log2<=i:=by
 have:=Nat.log2_self_le (n:=i.toNat) (by lia);have e:((2 ^ i.toNat.log2:Nat):Int)=(2:Int) ^ i.toNat.log2:=by rw[eG];rfl
 lia
theorem zld{i:Int}(h:0<i):i<(2:Int) ^ (i.toNat.log2+1):=by
 have:=Nat.lt_log2_self (n:=i.toNat);have e:((2 ^ (i.toNat.log2+1):Nat):Int)=(2:Int) ^ (i.toNat.log2+1):=by rw[eG];rfl
 lia
theorem zll(t:Nat):∀x:Nat,x % 2 ^ t=0->¬x % 2 ^ (t+1)=0->x - (x &&& (x - 1))=2 ^ t:=by
 induction t with
 | zero =>
  intro x _ h;have y:x % 2=1:=by
   have:¬x % 2=0:=by simpa using h
   lia
  have e:x &&& (x - 1)=x - 1:=by
   apply mi;intro i;rw[lB];cases i with
   | zero =>
    have:(x - 1).testBit 0=false:=by rw[ka];simp;lia
    rw[this,lY]
   | succ i =>
    have:x / 2=(x - 1) / 2:=by lia
    rw[fK,fK,this,Bool.and_self]
  rw[e];simp;lia
 | succ t o =>
  intro x l u;have ev:x % 2=0:=by have:2∣2 ^ (t+1):=⟨2 ^ t,by rw[gJ,kG]⟩;exact gK (Nat.dvd_trans this (gL l))
  have hx:x=2*(x / 2):=by lia
  have p1:(x / 2) % 2 ^ t=0:=by
   obtain⟨q,e⟩:=gL l;apply gK;refine⟨q,?_⟩;rw[gJ]at e;have:x=2*(2 ^ t*q):=by rw[e];rw[kG (2 ^ t) 2,sC]
   lia
  have p2:¬(x / 2) % 2 ^ (t+1)=0:=fun z=>by obtain⟨q,e⟩:=gL z;apply u;apply gK;refine⟨q,?_⟩;rw[gJ,kG (2 ^ (t+1)) 2,sC,<- e];exact hx
  have:=o (x / 2) p1 p2;have e:x &&& (x - 1)=2*(x / 2 &&& (x / 2 - 1)):=by
   apply mi;intro i;rw[lB];cases i with
   | zero =>
    have a:x.testBit 0=false:=by rw[ka];simp;lia
    rw[a,lT,ka];simp
   | succ i =>
    have v:0<x / 2:=by rcases m6 (x / 2) with z|z;rw[z]at p2;simp at p2;exact z
    have b:(x - 1) / 2=x / 2 - 1:=by lia
    rw[fK,fK,fK,b,Nat.mul_div_cancel_left _ (by decide:0<2),lB]
  rw[e,gJ];have le:(x / 2 &&& (x / 2 - 1))<=x / 2:=oT;lia
theorem zqo{b:Int}(h:0<b){t:Nat}(l:b % 2 ^ t=0)(u:¬b % 2 ^ (t+1)=0):fA b (-b)=2 ^ t:=by
 have e:fA b (-b)=b - ((b.toNat &&& (b.toNat - 1):Nat):Int):=by
  have h0:decide (0<=b)=true:=decide_eq_true (by lia);have v:decide (0<=-b)=false:=decide_eq_false (by lia);show(match decide (0<=b),decide (0<=-b) with
   | true,true=>((b.toNat &&& (-b).toNat:Nat):Int)
   | true,false=>b - ((b.toNat &&& (eZ (-b)).toNat:Nat):Int)
   | false,true=>(-b) - (((-b).toNat &&& (eZ b).toNat:Nat):Int)
   | false,false=>eZ (((eZ b).toNat|||(eZ (-b)).toNat:Nat):Int))=_
  rw[h0,v];have:(eZ (-b)).toNat=b.toNat - 1:=by
   have:eZ (-b)=b - 1:=by show -(-b) - 1=b - 1;lia
   rw[this];lia
  rw[this]
 have cast:∀k:Nat,b % (2:Int) ^ k=((b.toNat % 2 ^ k:Nat):Int):=fun k=>by rw[Int.natCast_emod,eG,mL (by lia)];rfl
 rw[cast]at l u;have:=zll t b.toNat (by lia) (by lia);have le:(b.toNat &&& (b.toNat - 1))<=b.toNat:=oT;rw[e];have x:((2 ^ t:Nat):Int)=(2:Int) ^ t:=by rw[eG];rfl
 lia
theorem ztY{b:Int}(h:0<b):∃t:Nat,b % 2 ^ t=0/\¬b % 2 ^ (t+1)=0:=by obtain⟨g,G⟩:=ziX (lo:=b) (hi:=b+b+1) (by lia);refine⟨g,G.1,fun z=>?_⟩;have d:=bg z;have:=Int.le_of_dvd h d;exact G.2.2 ⟨z,by lia⟩
theorem ziR{xs:qD}{x:ab}:ixN (xs++[x]).length (-1)=some xs.length:=by unfold ixN;simp;lia
theorem znz{xs:qD}{x:ab}{Q:ab->Prop}(h:Q x):oIx (.list (xs++[x])) (.int (-1)) Q:=by
 have e:atI (xs++[x]) (-1)=some x:=by unfold atI;rw[ziR];simp
 rw[UL e];exact h
end L2
namespace Bd
open PySem L2
abbrev Deal:=Int×List ((Int×Int)×Str)×List ((Int×Int)×Str)
end Bd
namespace L2
open PySem PySem.Spec PyProof.Rows
section
variable{X:Cx}{tg iter:aQ}{d:DTE}
def iSeq(K:qF)(o:TE):TI:=fun σ H R=>o σ H fun x l=>∃a,x=.ref a/\(((∃xs,SqL K l a xs)/\R (Itl K a) l)\/((∃xs,SqT K l a xs)/\R (Itt K a) l))
theorem zri{l:aQ}{L:TE}(S:PE X l L):PI X tg l (iSeq X.K L):=by
 intro pins s σ H R I h;refine thn (S pins s σ H _ I h) fun v s1 ⟨x,J,u,N,G⟩=>?_;obtain⟨a,e,G⟩:=G;subst e;cases N;rcases G with⟨⟨xs,C⟩,q⟩|⟨⟨xs,C⟩,q⟩;obtain⟨its,U,p,hz⟩:=u.list C;refine gv p.isList ?_;refine⟨s1.heap.objs.size,[s1.heap.objs.size],_,_,J,rfl,u.kept (t':=s1.toks) fun b o e=>aj _ e,zgb a _,⟨_,aA _ rfl,rfl,rfl⟩,fun b y=>?_,q⟩;have e:b=s1.heap.objs.size:=by simpa using y
 subst e;exact u.fpOk (av _) (u.hok.fresh (av _));obtain⟨its,U,p,hz⟩:=u.tuple C;refine mV (show s1.heap.IsTuple a its.toArray from p) ?_;refine⟨s1.heap.objs.size,[s1.heap.objs.size],_,_,J,rfl,u.kept (t':=s1.toks) fun b o e=>aj _ e,zeN a _,⟨_,aA _ rfl,rfl,rfl⟩,fun b y=>?_,q⟩;have e:b=s1.heap.objs.size:=by simpa using y
 subst e;exact u.fpOk (av _) (u.hok.fresh (av _))
def dItA(d:DTE):DTA:=fun o n R=>d o n fun t l=>JW t fun ts=>R ts l
theorem zs4(h:DE X iter d):DI X tg iter (dItA d):=by
 obtain⟨N,pa,h⟩:=h;refine⟨_,zri pa,fun C J σ H n Q R S hd x=>?_⟩;refine h C J σ H n _ _ S hd fun t G v H' r I y q=>?_;cases t with
 | tuple ts =>obtain⟨p,u,rfl,o,it⟩:=zol (P:=fun a=>¬Own C J σ a) (fun _ z=>z) q;exact⟨p,rfl,.inr ⟨⟨u,o⟩,x ts G _ H' r I y it⟩⟩
 | list ts =>obtain⟨p,u,rfl,o,no,L⟩:=q.lstI;exact⟨p,rfl,.inl ⟨⟨u,SqL.of o⟩,x ts G _ H' r I y (Vm o no (fun _ z=>z) L)⟩⟩
 | _=>exact r.elim
end
section
variable{ρ:En}{n:Nat}{d:DTE}{Rl:List ab->Nat->Prop}
instance zvU:Stp (dItA d ρ n Rl) (d ρ n fun t n'=>JW t fun ts=>Rl ts n'):=⟨fun h=>h⟩
end
theorem Zs{bits:Int}{p q:Int×Int}(P:IsBk bits p.1 p.2)(Q:IsBk bits q.1 q.2){x:Int}(o:p.1<=x/\x<eB p)(u:q.1<=x/\x<eB q):(p.1<=q.1/\eB q<=eB p/\q.2<=p.2)\/(q.1<=p.1/\eB p<=eB q/\p.2<=q.2):=by unfold eB at *;rcases tU q.2.toNat p.2.toNat with l|l;rcases zhl P.n Q.n l with z|z|z;left;have:=(zhX P.n Q.n).mp z;have:=P.1;have:=Q.1;lia;lia;lia;rcases zhl Q.n P.n l with z|z|z;right;have:=(zhX Q.n P.n).mp z;have:=P.1;have:=Q.1;lia;lia;lia
theorem zmH{bits i h:Int}(B:IsBk bits i h):i % 2 ^ h.toNat=0:=by obtain⟨_,_,k,_,rfl,_⟩:=B;exact nL _ _
theorem Jn.great:∀{bs:qB}{lo hi:Int},Jn lo hi bs->∀b∈bs,Qv b.1 hi b.2.toNat/\lo<=b.1
 | [],_,_,_=>fun b u=>nomatch u
 | b::r,lo,hi,h=>by obtain⟨x,o,y,v,l⟩:=h;have p:=Bd.Uc b.2.toNat;intro c hc;rcases aC.mp hc with rfl|hc;rw[o];exact⟨v,aK _⟩;have:=Jn.great l c hc;exact⟨this.1,by lia⟩
theorem Jn.max{bits:Int}(b0:0<=bits){bs:qB}{lo hi:Int}(S:Jn lo hi bs)(l0:0<=lo)(l1:hi<=2 ^ bits.toNat){p q:Int×Int}(y:p∈bs)(Q:IsBk bits q.1 q.2)(w:lo<=q.1/\eB q<=hi)(i:q.1<=p.1/\eB p<=eB q):q=p:=by
 have B:=S.blk b0 l0 l1;have P:=B p y;have pp:=Bd.Uc p.2.toNat;have pq:=Bd.Uc q.2.toNat;have nest:=Zs P Q (x:=p.1) ⟨aK _,by unfold eB;lia⟩ ⟨i.1,by unfold eB at *;lia⟩;have hle:p.2<=q.2:=by
  rcases nest with⟨a,b,c⟩|⟨a,b,c⟩;have u:p.1=q.1:=by lia
  have e2:eB p=eB q:=by lia
  unfold eB at e2;rcases eM q.2 p.2 with z|z;have p0:=P.1;have q0:=Q.1;have:=QX (show q.2.toNat+1<=p.2.toNat by lia);rw[aY]at this;lia;exact z;exact c
 have p0:=P.1;have q0:=Q.1;by_cases e:p.2=q.2;have u:(2:Int) ^ p.2.toNat=2 ^ q.2.toNat:=by rw[e]
 have:q.1=p.1:=by unfold eB at *;lia
 exact cx this e.symm;exfalso;have v:p.2.toNat+1<=q.2.toNat:=by lia
 have dq:=zmH Q;have J:=UB v dq;have G:=(S.great p y).1;by_cases ev:p.1 % 2 ^ (p.2.toNat+1)=0;apply G.2.2;refine⟨ev,?_⟩;obtain⟨a,l⟩:=bg ev;have de:eB q % 2 ^ (p.2.toNat+1)=0:=by unfold eB;rw[nK,J,cZ (zc9 v)];simp
 obtain⟨c,I⟩:=bg de;have lt:p.1<eB q:=by have:=i.2;unfold eB at *;lia
 rw[l,I]at lt;have pos:=Bd.Uc (p.2.toNat+1);have ac:a<c:=iD lt (by lia);have:=e9 (show a+1<=c by lia) (show(0:Int)<=2 ^ (p.2.toNat+1) by lia);rw[oF,iH,<- l,<- I]at this;lia;have Z:(p.1 - 2 ^ p.2.toNat) % 2 ^ (p.2.toNat+1)=0:=by
  obtain⟨k,ek⟩:=bg (zmH P);have e2:(2:Int) ^ (p.2.toNat+1)=2 ^ p.2.toNat*2:=aY _ _;rw[e2]at ev ⊢;have odd:k % 2=1:=by rcases oS k with z|z;exfalso;obtain⟨t,et⟩:=bg z;apply ev;apply cZ;exact⟨t,by rw[ek,et,ck]⟩;exact z
  apply cZ;refine⟨(k - 1) / 2,?_⟩;have:k - 1=2*((k - 1) / 2):=by lia
  rw[ek,ck,<- this,Int.mul_sub,iH]
 have lowq:q.1<=p.1 - 2 ^ p.2.toNat:=by
  obtain⟨a,l⟩:=bg Z;obtain⟨c,I⟩:=bg J;have pos:=Bd.Uc (p.2.toNat+1);have e2:(2:Int) ^ (p.2.toNat+1)=2 ^ p.2.toNat*2:=aY _ _;have lt:q.1<p.1 - 2 ^ p.2.toNat+2 ^ (p.2.toNat+1):=by lia
  rw[l,I]at lt;have:(2:Int) ^ (p.2.toNat+1)*c<2 ^ (p.2.toNat+1)*(a+1):=by rw[oF,iH];exact lt
  have ca:=iD this (by lia);have:=e9 (show c<=a by lia) (show(0:Int)<=2 ^ (p.2.toNat+1) by lia);rw[<- l,<- I]at this;exact this
 obtain⟨c,hc,c1,c2⟩:=(S.mem (p.1 - 2 ^ p.2.toNat)).mpr ⟨by lia,by have:=S.in p y;unfold eB at this;lia⟩;have C:=B c hc;have pc:=Bd.Uc c.2.toNat;have cp:eB c<=p.1:=by obtain⟨L,h1,rfl⟩:=aW hc;obtain⟨R,h2,rfl⟩:=aW y;rcases cM L R with z|z|z;exact aV.mp S.pw L R h1 h2 z;subst z;lia;have:=aV.mp S.pw R L h2 h1 z;unfold eB at this;lia
 have LB:IsBk bits (p.1 - 2 ^ p.2.toNat) (p.2+1):=by
  have hq1:=Q.2.1;obtain⟨a,l⟩:=bg Z;have u:(p.2+1).toNat=p.2.toNat+1:=by lia
  have pos:=Bd.Uc (p.2.toNat+1);have a0:0<=a:=by rcases eM a 0 with z|z;have:=fN pos z;have:=(Q.bounds b0).1;lia;exact z
  refine⟨by lia,by lia,a,a0,by rw[u,l,bZ],?_⟩;have e:(2:Int) ^ bits.toNat=2 ^ (bits - (p.2+1)).toNat*2 ^ (p.2.toNat+1):=by rw[<- fD];congr 1;lia
  have up:a*2 ^ (p.2.toNat+1)<2 ^ (bits - (p.2+1)).toNat*2 ^ (p.2.toNat+1):=by rw[<- e,bZ,<- l];have:=(P.bounds b0).2;lia
  exact iA up (by lia)
 have u:(p.2+1).toNat=p.2.toNat+1:=by lia
 have n3:=Zs (p:=c) (q:=(p.1 - 2 ^ p.2.toNat,p.2+1)) C LB (x:=p.1 - 2 ^ p.2.toNat) ⟨c1,c2⟩ ⟨aK _,by show _<_+2 ^ (p.2+1).toNat;have:=Bd.Uc (p.2+1).toNat;lia⟩;have eL:eB (p.1 - 2 ^ p.2.toNat,p.2+1)=p.1+2 ^ p.2.toNat:=by show p.1 - 2 ^ p.2.toNat+2 ^ (p.2+1).toNat=_;rw[u,aY];lia
 rcases n3 with⟨Y,z2,U⟩|⟨Y,z2,U⟩;lia;have Y:p.1 - 2 ^ p.2.toNat<=c.1:=Y;have U:c.2<=p.2+1:=U;have cb:c.1=p.1 - 2 ^ p.2.toNat:=by lia
 have c0:=C.1;have ch:c.2<=p.2:=by
  rcases eM p.2 c.2 with z|z;have:c.2=p.2+1:=by lia
  unfold eB at cp;rw[this,u,aY]at cp;lia;exact z
 have Gc:=(S.great c hc).1;apply Gc.2.2;refine⟨?_,?_⟩;rw[cb];exact UB (show c.2.toNat+1<=p.2.toNat+1 by lia) Z;have:=QX (show c.2.toNat+1<=p.2.toNat+1 by lia);have e2:(2:Int) ^ (p.2.toNat+1)=2 ^ p.2.toNat*2:=aY _ _;have:=S.in p y;unfold eB at this;lia
theorem NR.one{rs:List Run}(l:NR rs){a b:Int}(h:a<b)(w:∀x,a<=x->x<b->mR x rs):∃r∈rs,r.1<=a/\b<=r.2:=by obtain⟨r,o,C,J⟩:=w a (aK _) h;refine⟨r,o,C,?_⟩;rcases eM r.2 b with z|z;exfalso;obtain⟨s,u,I,G⟩:=w r.2 (by lia) z;obtain⟨i,hi,rfl⟩:=aW o;obtain⟨j,v,rfl⟩:=aW u;have L:=l.1 _ o;have N:=l.1 _ u;rcases cM i j with y|y|y;have:=aV.mp l.2 i j hi v y;lia;subst y;lia;have:=aV.mp l.2 j i v hi y;lia;exact z
theorem PatS.from:∀{rs:List Run}{ps:qB},PatS rs ps->∀p∈ps,∃r∈rs,∃bs,Jn r.1 r.2 bs/\p∈bs
 | [],_,h=>by cases(show _=[] from h);exact fun b o=>nomatch o
 | s::rs,_,h=>by obtain⟨a,b,rfl,u,x⟩:=h;intro p l;rcases aT.mp l with l|l;exact⟨s,by simp,a,u,l⟩;obtain⟨r,v,bs,B,o⟩:=PatS.from x p l;exact⟨r,by simp[v],bs,B,o⟩
theorem CanP.max{bits:Int}(Z:0<=bits){S:Int->Prop}{ps:qB}(h:CanP S ps)(w:∀x,S x->0<=x/\x<2 ^ bits.toNat){p q:Int×Int}(N:p∈ps)(Q:IsBk bits q.1 q.2)(Y:∀x,q.1<=x->x<eB q->S x)(i:q.1<=p.1/\eB p<=eB q):q=p:=by
 obtain⟨rs,v,I,P⟩:=h;obtain⟨r,l,bs,B,L⟩:=P.from p N;have lt:=v.1 r l;have U:=w r.1 ((I _).mp ⟨r,l,aK _,lt⟩);have w2:=w (r.2 - 1) ((I _).mp ⟨r,l,by lia,by lia⟩);have pin:=B.in p L;have pp:=Qd p;obtain⟨s,R,s1,s2⟩:=v.one (a:=q.1) (b:=eB q) (Qd q) fun x u o=>(I x).mpr (Y x u o);have J:r=s:=by obtain⟨C,u,rfl⟩:=aW l;obtain⟨G,o,rfl⟩:=aW R;rcases cM C G with y|y|y;have:=aV.mp v.2 C G u o y;lia;subst y;rfl;have:=aV.mp v.2 G C o u y;lia
 subst J;exact B.max Z U.1 (by lia) L Q ⟨s1,s2⟩ i
theorem zgB:∀{ps bs:qB},(ps.Pairwise fun a b=>eB a<=b.1)->(∀p∈ps,∃b∈bs,p.1<=b.1/\b.1<eB p)->ps.length<=bs.length
 | [],_,_,_=>bX _
 | p::ps,bs,pw,h=>by
  obtain⟨b,o,C,y⟩:=h p (by simp);have l:=ef.mp pw;have:=zgB (ps:=ps) (bs:=bs.erase b) l.2 fun q u=>by obtain⟨c,hc,x,v⟩:=h q (by simp[u]);refine⟨c,(mj ?_).mpr hc,x,v⟩;rintro rfl;have:=l.1 q u;lia
  have e:=iN o;have:=kQ o;rw[aE];lia
theorem CanP.le{bits:Int}(C:0<=bits){bs ps:qB}(B:Bks bits bs)(h:CanP (fun x=>mB x bs) ps):ps.length<=bs.length:=by
 have w:∀x,mB x bs->0<=x/\x<2 ^ bits.toNat:=fun x ⟨b,l,G,v⟩=>by have:=(B b l).bounds C;unfold eB at v;lia
 have P:=h.ptc C w;refine zgB P.2 fun p y=>?_;have pp:=Qd p;obtain⟨b,l,G,v⟩:=(h.mem p.1).mp ⟨p,y,aK _,pp⟩;rcases Zs (P.1 p y) (B b l) (x:=p.1) ⟨aK _,pp⟩ ⟨G,v⟩ with z|z;exact⟨b,l,z.1,by have:=Qd b;lia⟩;have:=h.max C w y (B b l) (fun x J I=>⟨b,l,J,I⟩) ⟨z.1,z.2.1⟩;subst this;exact⟨b,l,aK _,pp⟩
end L2
namespace L2
open PySem PySem.Spec PyProof PyProof.Rows PySem.W
section
variable{X:Cx}{e a b c:aQ}{x:Str}{pos:Pos}{d:DTE}{ds:DTA}
def Ve(i:Nat)(d:DTE):DTS:=fun D l n=>match l[i]? with
 | some (some (.own ts))=>d l n fun t v=>lLst t fun u=>ts.length+u.length<=16777216/\D.nx (l.set i (some (.own (ts++u)))) v
 | _=>False
theorem zl0(i:Nat){p1 p2 p3:Pos}(h:DE X e d)(hN:X.N[i]?=some x:=by rfl)(hv:Vis X.env.scope x:=by walk_at "V")(hd:(x == ("__debug__":Str))=false:=by rfl)
  (Y:(x == ("__classdict__":Str))=false:=by rfl) (hs:swapsWith (.Call (.Attribute (.Name x p1) "extend" p2) [e] [] p3) none pos.line X.env=pure false:=by rfl)
  (Hh:attributeBase (.Name x p1) "extend" X.env (eval (.Name x p1) X.env)=eval (.Name x p1) X.env:=by rfl)
  (HM:((backTo p3 (starEach [e] X.env)).all (fun x=>!x.1)&&(backToKw p3 (keywordEach [] X.env)).all (fun x=>x.1.isSome)
   && decide ([e].length+([]:List gC).length+(if ([]:List gC).isEmpty then 0 else 1)<30))=true:=by rfl)
  (Hi:(p2.endLine == p3.line)=true:=by rfl) (I:starEach [e] X.env=[(false,eval e X.env)]:=by rfl):DS X (.Expr (.Call (.Attribute (.Name x p1) "extend" p2) [e] [] p3) pos) (Ve i d):=by
 obtain⟨ta,pa,h⟩:=h;refine⟨_,zhF (zpf gq iO iP zk9 (Qe hN hv hd Y) (Qh pa QI I) Hh HM Hi I rfl) hs,fun C ρ σ H n D D' S hd g=>?_⟩;unfold Ve at hd;split at hd;rename_i ts J;obtain⟨p,vs,R,h2,h3,h4⟩:=S.own i ts J;refine⟨.ref p,R,.inl ⟨rfl,_,SqL.of h2⟩,?_⟩;refine h C ρ σ H n _ _ S hd fun t n' v H' r e1 hn q=>?_;cases t with
 | list us =>have Z:=S.on e1 hn;obtain⟨p',U,o,L,G,h4'⟩:=Z.own i ts J;rw[R]at o;cases o;obtain⟨b,ws,rfl,hb,_,q⟩:=q.lstI;refine⟨p,b,U,ws,rfl,rfl,L,hb,by rw[G.length,q.length];exact r.1,?_⟩;obtain⟨S2,k2⟩:=Z.chg J R (G.append q);exact g.nx _ _ _ n' r.2 S2 (e1.keep.trans k2)
 | _=>exact r.elim
 exact hd.elim
instance ztT {i:Nat}{ρ:En}{n:Nat}{D:JH}{xs:qD}[h:GetN ρ i (some (.own xs))]:Stp (Ve i d D ρ n) (d ρ n fun t n'=>lLst t fun us=>xs.length+us.length<=16777216/\SetK i (some (.own (xs++us))) D.nx ρ n'):=⟨fun k=>by unfold Ve;rw[h.e];exact k⟩
end
end L2
namespace L2
open PySem Bd
variable{as bs cs:List Run}{a b:Nat}
end L2
namespace L2
open PySem PySem.Spec PyProof.Rows
theorem zuS{P:aO}{w:br}{k:Key}{u:ae}(r:RelV (kV k) u):(JA P w).is k u=true:=by
 cases k with
 | inl i=>obtain⟨t,e⟩:=(show ∃t,u=iS i t from r);subst e;exact zhO P w i t
 | inr x=>obtain⟨t,e⟩:=(show ∃t,u=nW x t from r);subst e;exact zhN P w x t
theorem zgP{P:aO}{w:br}:∀{ks:List Key}{u:List ae},Vals (ks.map kV) u->ItemsAre (JA P w) ks u
 | [],_,r=>by rw[dM]at r;cases r;exact .nil
 | k::ks,_,r=>by
  rw[aG]at r;cases r with
  | cons h t=>exact .cons (zuS h) (zgP t)
abbrev KT(H:Hp):List (List Key×V)->List (List Key×af×ae)->Prop:=bP fun p q=>p.1=q.1/\H q.2.1=some (.tup (p.1.map kV))/\RelV p.2 q.2.2
section
variable{X:Cx}{pins:qO}{σ:St}{H:Hp}{s:ak}{a:af}{y v:V}{u r:ae}{o:Option V}{A:bc}{E:qV}
theorem Inv.big(I:Inv X pins σ H s):sysModules<s.heap.objs.size:=by have h:mainGlobals<s.heap.objs.size:=(I.mod.glob.keeps I.bk).lt;exact kT (by decide) h
theorem zmf{h':ba}{t':Nat}{C:HO}(I:Inv X pins σ H s)(G:Mut (H a))(L:c9 a s.heap h')(he:∃q,h'.get? a=some q)(new:JI X.prog X.w (upd H a C) h' a C) :
  Inv X pins σ (upd H a C) { s with heap:=h',toks:=t' } :=
 I.write (x:=a) (e:=a) G (.inl rfl) (fun b q J z=>(L.2 b J).trans z) he new
end
def NoSl(i:aQ):Prop:=∀l o,subscripted i false l o=operate [l,o] (getItem l o)
theorem zoJ{prog:aO}{w:br}{A:bc}{E:qV}{s:ak}{env:Env}{value slice:aQ}{pos:Pos}{T id:String}{Q:qV}
  (U:typeLookup (.type T) "__getitem__" = pure (some (.builtin id))) (R:NoSl slice)
  (h:wpAny (model prog w) A (eval value env) (fun o I=>wpAny (model prog w) A (eval slice env) (fun i v=>v.TypeIs o T/\wpAny (model prog w) A (getItem o i) Q E v) E I) E s) :
  wpAny (model prog w) A (eval (.Subscript value slice pos) env) Q E s:=by
 refine pH (cJ h (fun o I L=>cJ L (fun i v C=>?_) fun _ _ x=>x) fun _ _ x=>x);obtain⟨N,C⟩:=C;unfold subscriptTail;refine aa ?_;rw[getitemInPython_of_ne N.not_modules];refine aa (wpAny_specialOf N U ?_);have fin:wpAny (model prog w) A (subscripted slice false o i) (fun r G=>wpAny (model prog w) A (letTemporaryGo value o r >>= fun _=>pure r) Q E G) E v:=by rw[R o i];exact wpAny_operating (cJ C (fun r G J=>aa (wpAny_letTemporaryGo (ag J))) fun _ _ x=>x)
 first
  | exact ag (aa fin)
  | exact aa (ag (aa fin))
  | exact aa fin
end L2
namespace L2
open PySem PySem.Spec PyProof PyProof.Rows
abbrev KD:=List (Key×ab)
section
variable{D:JH}{ρ ρ':En}{n i j:Nat}{d dk dv:DTE}{R:qN}{ks:KD}
instance{ks:KD}:CapC (some (.dct ks)) (some (.rdo ks)):=⟨rfl⟩
instance{ks:KD}:CapC (some (.rdo ks)) (some (.rdo ks)):=⟨rfl⟩
end
theorem zco:entryFor table "dict.update.loop" = some dh.«dict.update.loop»:=by kernel_rfl
theorem zlz:typeLookup (.type "list") "keys" = pure none:=by rw[hV,fu];kernel_rfl
theorem zpY:typeLookup (.type "list") "__getattr__" = pure none:=by rw[hV,fu];kernel_rfl
section
variable{prog:aO}{w:br}{A:bc}{E:qV}{s:ak}
theorem zfP{a:af}{o:Obj}{u:Tok}{P:Fin->ak->Prop}(v:s.heap.get? a=some o)(hc:o.cls=.type "list") (l:∃its n,o.data=.seq its n) (hd:o.dict=none) (G:A.handled=none)
  (h:∀h' tk e,lC s.heap h' e (.ref a) "keys" -> E (.ref e) { s with heap:=h',toks:=tk }):wpAny (model prog w) A (dh.«object.__getattribute__» ⟨[.ref a,.str "keys" u],[]⟩) P E s:=by
 obtain⟨x,g,d,tk,os⟩:=s;have I:∀(t:Nat),Shared.TypeIs ⟨x,g,d,t,os⟩ (.ref a) "list":=fun _=>⟨o,v,hc⟩;have C:=zlz;unfold dh.«object.__getattribute__»
 repeat (any_goals (first|assumption|wp_step))
 rw[hc,C]
 repeat (any_goals (first|assumption|wp_step))
 obtain⟨its,n,l⟩:=l;rw[l];dsimp only;unfold instanceDict
 repeat (any_goals (first|assumption|wp_step))
 rw[hd]
 repeat (any_goals (first|assumption|wp_step))
 simp only[hc,eX,Bool.true_or,if_true]
 repeat (any_goals (first|assumption|wp_step))
 rw[hc];dsimp only
 repeat (any_goals (first|assumption|wp_step))
 exact wpAny_raiseAttrError G h (attrMsg_fits (by decide +kernel) (by size_fits))
theorem zeG{a:af}{o:Obj}{u:Tok}{R:lW->ak->Prop}(v:s.heap.get? a=some o)(hc:o.cls=.type "list") (x:∃its n,o.data=.seq its n) (hd:o.dict=none) (C:A.handled=none)
  (h:∀h' tk e,lC s.heap h' e (.ref a) "keys" -> R (.error (.ref e)) { s with heap:=h',toks:=tk }):codeAny (model prog w) A (.call (.builtin "list.__getattribute__") ⟨[.ref a,.str "keys" u],[]⟩) R s :=
 hG eQ.plain F.entry_list_ga (eQ.check _ _ _ _ _ _ _ _ (show s.TypeIs (.ref a) "list" from⟨_,v,hc⟩) (F.args_list_getattribute_2 _ _) (zfP v hc x hd C h))
theorem zgL{a:af}{o:Obj}{u:Tok}{Q:qV}(l:s.heap.get? a=some o)(hc:o.cls=.type "list") (x:∃its n,o.data=.seq its n) (hd:o.dict=none) (G:A.handled=none)
  (h:∀h' tk e,lC s.heap h' e (.ref a) "keys" -> E (.ref e) { s with heap:=h',toks:=tk }):wpAny (model prog w) A (getAttrBy (.ref a) (.str "keys" u) false) Q E s:=by
 obtain⟨v,g,d,tk,os⟩:=s;have N:(⟨v,g,d,tk,os⟩:ak).TypeIs (.ref a) "list":=⟨o,l,hc⟩;have f2:=eQ.lookup;have L:=eQ.bind (.ref a);have f1:=m8;have J:=zpY
 repeat (any_goals (first|assumption|wp_step))
 refine zeG l hc x hd G fun h' C e hx=>?_;obtain⟨t',R,he⟩:=hx.there
 repeat (any_goals (first|assumption|wp_step))
 exact h _ _ _ hx
theorem zeH{a:af}{o:Obj}{Q:Option ae->ak->Prop}(u:s.heap.get? a=some o)(hc:o.cls=.type "list") (v:∃its n,o.data=.seq its n) (hd:o.dict=none) (C:A.handled=none)
  (h:∀h' tk,(∀b l,s.heap.get? b=some l->h'.get? b=some l)->Q none { s with heap:=h',toks:=tk }):wpAny (model prog w) A (getAttr? (.ref a) "keys") Q E s:=by
 unfold getAttr? getAttrBy?;obtain⟨G,g,d,tk,os⟩:=s;have f1:=m8
 repeat (any_goals (first|assumption|(with_reducible refine zgL u hc v hd C fun h' x e hx=>?_)|wp_step))
 obtain⟨t',I,he⟩:=hx.there
 repeat (any_goals (first|assumption|wp_step))
 exact h _ _ hx.keeps
end
section
variable{prog:aO}{w:br}{A:bc}{E:qV}{Ky:Type}[DecidableEq Ky]{knd:rL prog w Ky}
def KpH(d it:af)(h h':ba):Prop:=∀b o,b≠d->b≠it->h.get? b=some o->h'.get? b=some o
end
theorem zgq{α u:Type}{P:α->u->Prop}:∀{l:List α}{m:List u},l.length=m.length->(∀(j:Nat) a b,l[j]?=some a->m[j]?=some b->P a b)->bP P l m
 | [],[],_,_=>.nil
 | a::l,b::m,h,k=>.cons (k 0 a b rfl rfl) (zgq (by simpa using h) fun j a b v x=>k (j+1) a b v x)
 | [],_::_,h,_=>by simp at h
 | _::_,[],h,_=>by simp at h
theorem Qa{k:Nat}{A:bc}(r:Room k A):A.units+1<cLine:=by have:=r.un;lia
def Itrs(lo c:Int)(n:Nat):It:=⟨fun i _=>i<n,fun i H x H'=>H'=H/\x=.int (lo+i*c),fun i _=>n<=i⟩
theorem zhx{P:aO}{w:br}{K:qF}{R:aQ}(it:af)(lo c:Int)(n:Nat):Turn P w K R (Itrs lo c n) [it] it (fun i h=>lU h it (lo+(i:Nat)*c) ((n:Int) - (i:Nat)) c) where
 mem:=by simp
 obj:=fun i h st b l=>by
  have e:b=it:=by simpa using l
  subst e;exact⟨_,st,fun v z=>by have Y:uH _=xG v:=z;cases Y⟩
 keep:=fun i h h' st k=>k it (by simp) _ st
 item:=by intro X C hw J hc i pins s σ H E I hf st x;subst C hw J;obtain⟨f0,f1,f2,G,f4,y⟩:=hf it (by simp);have W:=uI (prog:=X.prog) (w:=X.w) (I.ok.hd hc) it lo c n;refine W.item i s _ _ x st fun v h' tk U u L=>?_;obtain⟨t,rfl⟩:=U;have S:Inv X pins σ H { s with heap:=h',toks:=tk }:=I.turned (fun b o l e=>L b o (by simpa using l) e) f0 f1 G f4 y;exact⟨_,rfl,Yp (s:={ s with heap:=h',toks:=tk }) (n:="range_iterator") u rfl rfl (by decide) ⟨.int (lo+i*c),H,S,⟨t,rfl⟩,⟨rfl,rfl⟩,u,fun b l=>(hf b l).1⟩⟩
 done:=by intro X C hw J hc i pins s σ H E I hf st x;subst C hw J;obtain⟨f0,f1,f2,G,f4,y⟩:=hf it (by simp);exact ky (I.ok.hd hc) st (by have:n<=i:=x;lia) fun h' N=>⟨rfl,I.turned (t':=s.toks) (fun b o l e=>N b o l e) f0 f1 G f4 y⟩
 self:=fun _ _ _ _ _ st h=>kB st h
def rngN(a b c:Int):Nat:=(bU a b c).toNat
def QJ(a c:Int)(n:Nat):List ab:=(bY n).map fun(i:Nat)=>bo (a+(i:Int)*c)
theorem zdh{a b c:Int}:0<=bU a b c:=by unfold bU;split;split;have:=lD (a:=b - a - 1) (b:=c) (by lia) (by lia);lia;lia;split;have:=lD (a:=a - b - 1) (b:=-c) (by lia) (by lia);lia;lia
theorem zjp{a b c:Int}(l:-(2 ^ 60)<=a)(v:a<2 ^ 60)(x:-(2 ^ 60)<=b)(y:b<2 ^ 60)(u:-(2 ^ 29)<=c)(o:c<2 ^ 29)(h0:c≠0):mM a b c=true:=by
 have G:bU a b c<2 ^ 62:=by unfold bU;split;split;have:=kb (a:=b - a - 1) c (by lia);lia;lia;split;have:=kb (a:=a - b - 1) (-c) (by lia);lia;lia
 have C:=zdh (a:=a) (b:=b) (c:=c);unfold mM;simp only[oZ,bL,oU,decide_eq_true_eq,beq_iff_eq];split <;> simp only[bL,decide_eq_true_eq] <;> lia
section
variable{X:Cx}{tg:aQ}{a b c:aQ}{ta tb tc:TE}{da db dc:DTE}{p pos:Pos}
def zvo(ta:TA):TI:=fun σ H R=>ta σ H fun o l=>∃i j k:Int,o=[.int i,.int j,.int k]/\(-(2 ^ 60)<=i/\i<2 ^ 60/\-(2 ^ 60)<=j/\j<2 ^ 60/\-(2 ^ 29)<=k/\k<2 ^ 29/\k≠0)/\R (Itrs i k (rngN i j k)) l
theorem zkM{ta:TA}(Z:Gl X "range") (hm:X.mg "range" = none) (ha:PA X [a,b,c] ta) (hs:starEach [a,b,c] X.env=[(false,eval a X.env),(false,eval b X.env),(false,eval c X.env)]) (G:starEach [b,c] X.env=[(false,eval b X.env),(false,eval c X.env)]) :
  PI X tg (.Call (.Name "range" p) [a,b,c] [] pos) (zvo ta):=by
 intro pins s σ H R I h;refine Call_ (Q4 I Z hm pf (c8 (thn (ha pos pins s σ H _ I h) fun us s1 ⟨vs,Y,I1,r1,S⟩=>?_) (by rw[hs,G]) (by rw[G];rfl)));obtain⟨lo,hi,k,e,⟨S,q2,q3,q4,q5,q6,U⟩,q⟩:=S;subst e;cases r1 with
 | cons r x =>
  cases x with
  | cons r' x =>
   cases x with
   | cons J x =>
    cases x;obtain⟨t,rfl⟩:=r;obtain⟨u,rfl⟩:=r';obtain⟨v,rfl⟩:=J;refine call_range_3 U ?_ (.inl (PyProof.noPylong_small (by lia)));refine mW (uJ ..) (zjp S q2 q3 q4 q5 q6 U) ?_;have L:Inv X pins σ Y { s1 with heap:=s1.heap.push { cls:=.type "range",data:=.fields #[.int lo t,.int hi u,.int k v] },toks:=s1.toks }:=I1.kept fun b o e=>aj _ e;refine⟨(s1.heap.push { cls:=.type "range",data:=.fields #[.int lo t,.int hi u,.int k v] }).objs.size,[(s1.heap.push { cls:=.type "range",data:=.fields #[.int lo t,.int hi u,.int k v] }).objs.size],_,_,Y,rfl,
     L.kept (t':=s1.toks) fun b o e=>aj _ e,zhx _ lo k (rngN lo hi k),?_,fun b hb=>?_,q⟩
    have e1:lo+((0:Nat):Int)*k=lo:=by simp
    have e2:((rngN lo hi k:Nat):Int) - ((0:Nat):Int)=bU lo hi k:=by have:=zdh (a:=lo) (b:=hi) (c:=k);unfold rngN;lia
    show lU _ _ (lo+((0:Nat):Int)*k) (((rngN lo hi k:Nat):Int) - ((0:Nat):Int)) k;rw[e1,e2];exact aA _ rfl;have e:b=(s1.heap.push { cls:=.type "range",data:=.fields #[.int lo t,.int hi u,.int k v] }).objs.size:=by simpa using hb
    subst e;exact L.fpOk (av _) (L.hok.fresh (av _))
theorem zlF{K:qF}{hd:Option af}{P O:af->Prop}{H:Hp}{lo c:Int}{m:Nat}:ItOk K hd P O H (Itrs lo c m) (QJ lo c m):=by intro y v _ _ _;refine⟨fun i t o=>?_,by show m<=(QJ lo c m).length;simp[QJ]⟩;unfold QJ at o;rw[aD]at o;by_cases hi:i<m;rw[dY hi]at o;cases o;refine⟨hi,fun x C u=>?_⟩;obtain⟨rfl,rfl⟩:=u;exact⟨Same.refl _,.int _⟩;rw[bp (by simp;lia)]at o;cases o
def zs8(I C x:DTE):DTA:=fun l n R=>I l n fun t y=>C l y fun u G=>x l G fun v o=>lInt t fun i=>lInt u fun j=>lInt v fun k=>(-(2 ^ 60)<=i/\i<2 ^ 60/\-(2 ^ 60)<=j/\j<2 ^ 60/\-(2 ^ 29)<=k/\k<2 ^ 29/\k≠0)/\R (QJ i k (rngN i j k)) o
theorem zgZ(hm:X.mg "range" = none) (h:DE X a da) (h':DE X b db) (x:DE X c dc) (hg:Gl X "range":=by rfl) (Y:starEach [a,b,c] X.env=[(false,eval a X.env),(false,eval b X.env),(false,eval c X.env)]:=by rfl) (o:starEach [b,c] X.env=[(false,eval b X.env),(false,eval c X.env)]:=by rfl) (I:starEach [c] X.env=[(false,eval c X.env)]:=by rfl) :
  DI X tg (.Call (.Name "range" p) [a,b,c] [] pos) (zs8 da db dc):=by
 obtain⟨ta,pa,h⟩:=h;obtain⟨tb,pb,h'⟩:=h';obtain⟨tc,pc,x⟩:=x;refine⟨_,zkM hg hm (Qh pa (Qh pb (Qh pc QI I) (by rw[o,I])) (by rw[Y,o])) Y o,fun C U σ H n Q R S hd hq=>?_⟩;refine h C U σ H n _ _ S hd fun t n' v H' r e1 hn q=>?_;have Z:=S.on e1 hn;refine h' C U σ H' n' _ _ Z r fun u n2 w H2 r2 e2 L q2=>?_;have S2:=Z.on e2 L;refine x C U σ H2 n2 _ _ S2 r2 fun y n3 w H3 G e3 J q3=>?_;cases t with
 | int i =>
  cases u with
  | int j =>
   cases y with
   | int k =>rw[q.intI,q2.intI,q3.intI];exact⟨i,j,k,rfl,G.1,hq _ n3 _ H3 G.2 (e1.trans (e2.trans e3)) J zlF⟩
   | _=>exact G.elim
  | _=>exact G.elim
 | _=>exact G.elim
instance zvD {d1 d2 d3:DTE}{ρ:En}{n:Nat}{R:List ab->Nat->Prop}:Stp (zs8 d1 d2 d3 ρ n R) (d1 ρ n fun t n1=>d2 ρ n1 fun u n2=>d3 ρ n2 fun v n3=>lInt t fun i=>lInt u fun j=>lInt v fun k=>(-(2 ^ 60)<=i/\i<2 ^ 60/\-(2 ^ 60)<=j/\j<2 ^ 60/\-(2 ^ 29)<=k/\k<2 ^ 29/\k≠0)/\R (QJ i k (rngN i j k)) n3):=⟨fun h=>h⟩
end
theorem zjt{a c:Int}{m i:Nat}{t:ab}(h:(QJ a c m)[i]?=some t):i<m/\t=.int (a+(i:Int)*c):=by unfold QJ at h;rw[aD]at h;by_cases hi:i<m;rw[dY hi]at h;cases h;exact⟨hi,rfl⟩;rw[bp (by simp;lia)]at h;cases h
theorem zjs{a c:Int}{m:Nat}:(QJ a c m).length=m:=by simp[QJ]
theorem zkz{g e:Nat}:rngN 0 (2 ^ (e+g)) (2 ^ g)=2 ^ e:=by
 unfold rngN bU;have pg:=Bd.Uc g;have pe:=Bd.Uc e;have p2:=Bd.Uc (e+g);rw[if_pos pg,if_pos p2,fD];have:((2:Int) ^ e*2 ^ g - 0 - 1) / 2 ^ g=2 ^ e - 1:=by
  have l:(2:Int) ^ e*2 ^ g - 0 - 1=(2 ^ g - 1)+(2 ^ e - 1)*2 ^ g:=by rw[oB];lia
  rw[l,kJ _ _ (by lia),kK (by lia) (by lia)];lia
 rw[this];have e2:((2:Int) ^ e - 1+1)=((2 ^ e:Nat):Int):=by rw[eG];simp
 rw[e2,dm]
theorem Yx{bits:Int}(y:0<=bits){bs:qB}(B:Bks bits bs){x:Int}(h:mB x bs):0<=x/\x<2 ^ bits.toNat:=by obtain⟨b,v,C,l⟩:=h;have:=(B b v).bounds y;unfold eB at l;lia
theorem zuN{bits:Int}(v:0<=bits)(u:bits<=64){S:Int->Prop}{rs:qB}(o:NR rs)(e:∀x,mR x rs↔S x)(w:∀x,S x->0<=x/\x<2 ^ bits.toNat):∀r∈rs,0<=r.1/\r.1<=r.2/\r.2<=2 ^ 64:=fun r l=>by have lt:=o.1 r l;have a:=w r.1 ((e _).mp ⟨r,l,aK _,lt⟩);have b:=w (r.2 - 1) ((e _).mp ⟨r,l,by lia,by lia⟩);have:=Bd.zfw (k:=bits.toNat) (by lia);lia
section
variable{prog:aO}{w:br}{A:bc}{E:qV}
def PrT(prog:aO)(w:br)(h:ba)(x:ae)(z:List Key×af×ae):Prop:=∃p:af,x=.ref p/\o6 h p #[.ref z.2.1,z.2.2]/\gX (JA prog w) h z.1 z.2.1
theorem ZN{h:ba}{k:List Key}{a b:af}{T:String}(r:gX (JA prog w) h k a)(v:∃o,h.get? b=some o/\o.cls=.type T)(u:T ≠ "tuple"):a≠b:=by
 rintro rfl;obtain⟨o,_,_,e,c,_⟩:=r;obtain⟨x,l,c'⟩:=v;rw[e]at l;cases l;rw[c]at c';injection c' with c'
 exact u c'.symm
theorem Vh{h h':ba}{k:List Key}{a:af}(r:gX (JA prog w) h k a)(kp:∀o,h.get? a=some o->h'.get? a=some o):gX (JA prog w) h' k a:=by obtain⟨o,its,n,e,c⟩:=r;exact⟨o,its,n,kp o e,c⟩
theorem tup_ne{h:ba}{a b:af}{xs:Array ae}{T:String}(r:o6 h a xs)(v:∃o,h.get? b=some o/\o.cls=.type T)(u:T ≠ "tuple"):a≠b:=by
 rintro rfl;obtain⟨o,e,c,_⟩:=r;obtain⟨x,l,c'⟩:=v;rw[e]at l;cases l;rw[c]at c';injection c' with c'
 exact u c'.symm
theorem zl8{h:ba}{d:af}{xs:List (List Key×af×ae)}(hd:h.DictOfH (tupleKind (JA prog w)) d xs):∃o,h.get? d=some o/\o.cls=.type "dict":=by obtain⟨o,es,ep,l,hc,_⟩:=hd;exact⟨o,l,hc.1⟩
theorem zkd{A:bc}{xs:List ae}{kw:List (Str×ae)}:(A.under (.builtin "dict.update.loop" ⟨xs,kw⟩)).units=A.units+1:=by first|rfl|simp[Around.under,Code.cUnits,Code.frames,Code.isFrame]
end
section
variable{X:Cx}
theorem Us{pins:qO}{σ:St}{H:Hp}{s:ak}{b:af}{k:List Key}(I:Inv X pins σ H s)(h:SqT X.K H b (k.map kV)):gX (JA X.prog X.w) s.heap k b:=by obtain⟨its,r,⟨o,e,c,n,d⟩,_⟩:=I.tuple h;exact⟨o,its.toArray,n,e,c,d,by simpa using zgP r⟩
theorem VE{α u:Type}{F:α->u->Prop}{l:List α}{o:List u}(r:bP F l o){b:u}(h:b∈o):∃a∈l,F a b:=by
 induction r with
 | nil=>cases h
 | cons f t x =>rcases aC.mp h with rfl|h;exact⟨_,dF,f⟩;obtain⟨b,v,g⟩:=x h;exact⟨b,cw _ v,g⟩
end
end L2
namespace L2
open PySem PySem.Spec PyProof PyProof.Rows PySem.W
section
variable{X:Cx}{e:aQ}{x:Str}{pos:Pos}{d:DTE}
def zm8(K:qF):V->List V->Hp->VK->Prop:=fun x u H Q=>∃l b xs zs,x=.ref l/\u=[.ref b]/\H l=some (.lst xs)/\SqT K H b zs/\xs.length+zs.length<=sizeLine/\Q .non (upd H l (.lst (xs++zs)))
theorem zjD:MtM X "list.extend" (zm8 X.K):=by
 intro pins s σ H x vs v us Q I R rv h;obtain⟨l,b,xs,zs,rfl,rfl,L,Y,hz,q⟩:=h;cases R;obtain⟨u,rfl,ru⟩:=rv.one;cases ru;obtain⟨z,its,n,r,hl,e⟩:=I.lstM L;obtain⟨y,N,⟨o,J,hc,n2,hd⟩,z2⟩:=I.tuple Y;have lr:=r.length;have S:=N.length;have hsz:its.toArray.size+y.toArray.size<=sizeLine:=by rw[aw,aw];lia
 have Z:¬(!its.toArray.isEmpty&&dN (its.toArray.size+y.toArray.size))=true:=by rw[zfH hsz,lY];exact aL
 refine cG m5 ⟨_,e,rfl⟩ mK ?_ (lZ _ _);show wpAny _ _ (d5 (.ref l) (.ref b) .none) _ _ s;unfold d5;refine aa (fI (T:="tuple") ⟨o,J,hc⟩ ?_);have U:(sD (.ref l) (.ref b)||aZ "tuple" == aZ "list" ||aZ "tuple" == aZ "tuple")=true:=by simp
 simp only[U,if_true];refine aa ?_;unfold fi;refine aa (mm J hd (ag ?_));refine aa ?_;refine aa (mm e rfl (ag ?_));rw[if_neg Z];show wpAny _ _ (updateSeq l (·++y.toArray) >>= fun _=>ret .none) _ _ s;have G:its.toArray.size<=sizeLine:=by rw[aw];lia
 have C:(its.toArray++y.toArray).size<=sizeLine+1:=by rw[nH];lia
 refine aa (wpAny_updateSeq e rfl (hz:=G) (_hz':=C) ?_);refine ag ⟨_,rfl,?_⟩;refine⟨.non,_,I.lset (its':=its++y) L e (by simp) (r.append N) ?_,rfl,q⟩;rw[bE];lia
def Vs(i:Nat)(d:DTE):DTS:=fun D l n=>match l[i]? with
 | some (some (.own ts))=>d l n fun t v=>lTup t fun u=>ts.length+u.length<=16777216/\D.nx (l.set i (some (.own (ts++u)))) v
 | _=>False
theorem zjQ(i:Nat){p1 p2 p3:Pos}(h:DE X e d)(hN:X.N[i]?=some x:=by rfl)(hv:Vis X.env.scope x:=by walk_at "V")(hd:(x == ("__debug__":Str))=false:=by rfl)
  (Y:(x == ("__classdict__":Str))=false:=by rfl) (hs:swapsWith (.Call (.Attribute (.Name x p1) "extend" p2) [e] [] p3) none pos.line X.env=pure false:=by rfl)
  (Hh:attributeBase (.Name x p1) "extend" X.env (eval (.Name x p1) X.env)=eval (.Name x p1) X.env:=by rfl)
  (HM:((backTo p3 (starEach [e] X.env)).all (fun x=>!x.1)&&(backToKw p3 (keywordEach [] X.env)).all (fun x=>x.1.isSome)
   && decide ([e].length+([]:List gC).length+(if ([]:List gC).isEmpty then 0 else 1)<30))=true:=by rfl)
  (Hi:(p2.endLine == p3.line)=true:=by rfl) (I:starEach [e] X.env=[(false,eval e X.env)]:=by rfl):DS X (.Expr (.Call (.Attribute (.Name x p1) "extend" p2) [e] [] p3) pos) (Vs i d):=by
 obtain⟨ta,pa,h⟩:=h;refine⟨_,zhF (zpf gq iO iP zjD (Qe hN hv hd Y) (Qh pa QI I) Hh HM Hi I rfl) hs,fun C ρ σ H n D D' S hd g=>?_⟩;unfold Vs at hd;split at hd;rename_i ts J;obtain⟨p,vs,R,h2,h3,h4⟩:=S.own i ts J;refine⟨.ref p,R,.inl ⟨rfl,_,SqL.of h2⟩,?_⟩;refine h C ρ σ H n _ _ S hd fun t n' v H' r e1 hn q=>?_;cases t with
 | tuple us =>have Z:=S.on e1 hn;obtain⟨p',U,o,L,G,h4'⟩:=Z.own i ts J;rw[R]at o;cases o;obtain⟨b,ws,rfl,hb,q⟩:=q.tupI;refine⟨p,b,U,ws,rfl,rfl,L,hb,by rw[G.length,q.length];exact r.1,?_⟩;obtain⟨S2,k2⟩:=Z.chg J R (G.append q);exact g.nx _ _ _ n' r.2 S2 (e1.keep.trans k2)
 | _=>exact r.elim
 exact hd.elim
instance zq3 {i:Nat}{ρ:En}{n:Nat}{D:JH}{xs:qD}[h:GetN ρ i (some (.own xs))]:Stp (Vs i d D ρ n) (d ρ n fun t n'=>lTup t fun us=>xs.length+us.length<=16777216/\SetK i (some (.own (xs++us))) D.nx ρ n'):=⟨fun k=>by unfold Vs;rw[h.e];exact k⟩
end
end L2
namespace Bd
open PySem L2
def Dq(K:qF)(mg:qM)(x:Str)(st:dE)(ps:List Str):Prop:=∃f fd,Def K mg x st ps f fd
def Fq(P:aO)(w:br)(K:qF)(mg:qM)(base:ba)(x:Str)(st:dE)(ps:List Str)(k:Nat)(l:Sp):Prop:=∃f fd,Def K mg x st ps f fd/\FnOk P w K mg base CX0 k f fd ps l
end Bd
namespace L2
open PySem PySem.Spec PyProof.Rows
section
variable{X:Cx}{x:Str}{st:dE}{ps:List Str}{k n m:Nat}{g:GD}{e:aQ}{es:List aQ}{ds:DTA}{p pos:Pos}
theorem Je(F:Bd.Fq X.prog X.w X.K X.mg X.base x st ps k (spD X.K m g))(u:Room n X.A)(h:DB X (e::es) ds)(y:k<=n:=by decide)(I:(e::es).length=m:=by rfl)(v:Gl X x:=by rfl)
  (o:(x == ("__debug__":Str))=false:=by rfl):DE X (.Call (.Name x p) (e::es) [] pos) (dFn g ds):=by
 obtain⟨f,fd,D,G⟩:=F;exact zvw D G (u.mono y) h I v o
theorem zoB(F:Bd.Fq X.prog X.w X.K X.mg X.base x st ps k (spD X.K m g))(u:Room n X.A)(h:DBL X (e::es) ds)(y:k<=n:=by decide)(I:(e::es).length=m:=by rfl)(v:Gl X x:=by rfl)
  (o:(x == ("__debug__":Str))=false:=by rfl):DE X (.Call (.Name x p) (e::es) [] pos) (dFnL g ds):=by
 obtain⟨f,fd,D,G⟩:=F;exact zs6 D G (u.mono y) h I v o
end
section
variable{X:Cx}{hx s kx x:Str}{st:dE}{ps:List Str}{k n:Nat}{p p1 p2 p3 pos pos':Pos}{sts:List dE}{u:DTS}
theorem zlX{i j:Nat}(F:Bd.Fq X.prog X.w X.K X.mg X.base hx st ps k (YC X.K))(Z:Room n X.A)(hN:X.N.Nodup)(hi:X.N[i]?=some x)(Y:Loc X.env.scope x)(hu:DSs X sts u)(hk:k<=n:=by decide)(I:i≠0:=by decide)(v:j≠0:=by decide)(L:j≠i:=by decide)
  (h0:X.N[0]?=some s:=by rfl) (hj:X.N[j]?=some kx:=by rfl) (J:Vis X.env.scope s:=by walk_at "V") (S:Vis X.env.scope kx:=by walk_at "V")
  (U:(s == ("__debug__":Str))=false:=by rfl) (Ig:(s == ("__classdict__":Str))=false:=by rfl) (y:(kx == ("__debug__":Str))=false:=by rfl) (Im:(kx == ("__classdict__":Str))=false:=by rfl) (hg:Gl X hx:=by rfl) (R:(hx == ("__debug__":Str))=false:=by rfl)
  (hs:swapsWith (.Call (.Name hx p) [.Name s p1,.Name kx p2] [] p3) (some (.Name x pos')) pos.line X.env=pure false:=by rfl) (hf:X.fn x=true\/X.env.scope.names.lookup x=some .local:=by walk_at "F") :
  DSs X (.Assign [.Name x pos'] (.Call (.Name hx p) [.Name s p1,.Name kx p2] [] p3) pos::sts) (UI i j u):=by
 obtain⟨f,fd,D,G⟩:=F;exact znM D G (Z.mono hk) hN hi Y hu I v L h0 hj J S U Ig y Im hg R hs hf
end
end L2
namespace Bd
open PySem L2
section
variable{K:qF}{h:ba}{mg:qM}{x:Str}{st:dE}{ps:List Str}
abbrev BndA(x:Str)(st:dE)(ps:List Str):Prop:=∀(kV doc pm:ae) (an:Option af) (cdv ct:ae) (us:List ae),us.length=ps.length->bindArgs (dJ x x (Qy st) (J1 st) (JE st) .none kV doc pm an cdv ct) ⟨us,[]⟩=pure (ps.zip us)
theorem lenS{l:List ae}{n:Nat}(h:l.length=n+1):∃a t,l=a::t/\t.length=n:=by
 cases l with
 | nil=>cases h
 | cons a t=>exact⟨a,t,rfl,Nat.succ.inj h⟩
theorem len1{l:List ae}(h:l.length=1):∃a,l=[a]:=by obtain⟨a,t,rfl,e⟩:=lenS h;exact⟨a,by rw[List.eq_nil_of_length_eq_zero e]⟩
theorem len2{l:List ae}(h:l.length=2):∃a b,l=[a,b]:=by obtain⟨a,t,rfl,e⟩:=lenS h;obtain⟨b,rfl⟩:=len1 e;exact⟨a,b,rfl⟩
theorem len3{l:List ae}(h:l.length=3):∃a b c,l=[a,b,c]:=by obtain⟨a,t,rfl,e⟩:=lenS h;obtain⟨b,c,rfl⟩:=len2 e;exact⟨a,b,c,rfl⟩
end
end Bd
namespace L2
open PySem PySem.Spec PyProof PyProof.Rows
section
variable{X:Cx}{es:List aQ}{pos:Pos}{t:TGs}
def zvt(K:qF)(n:Nat)(t:TGs):TG:=fun v σ H Q=>∃a xs,v=.ref a/\SqL K H a xs/\xs.length=n/\t xs σ H Q
theorem zpa{k n:Nat}(hc:X.calm=true)(h:PGs X es t)(J:(assignEach es X.env).length=n:=by rfl)(y:(assignEach es X.env).findIdx? (·.1)=none:=by rfl):PG X (.Tuple es k pos) (zvt X.K n t):=by
 intro pins s σ H v u Q I r hw;obtain⟨a,xs,rfl,G,R,hw⟩:=hw;cases r;obtain⟨its,C,L,hz⟩:=I.list G;have le:=C.length;rw[assign_Tuple];refine aa (cB ?_);unfold unpack;rw[J,y];have e:n=its.toArray.size:=by rw[aw];lia
 rw[e];refine aa (bQ (PySem.W.kun_itemsOf (I.ok.hd hc) L.isList fun h' hx=>?_));have N:Inv X pins σ H { s with heap:=h' }:=I.kept (t':=s.toks) fun b o e=>hx b o (ay (ax e)) e;exact h pins _ σ H xs _ Q N (by simpa using C) hw
end
def UM(h:ba)(d:af)(es:Array d8)(ep:Nat):Prop:=∃o,h.get? d=some o/\o.ExactDict/\o.data=.dict es ep
section
variable{prog:aO}{w:br}{A:bc}{E:qV}{s:ak}
def RlIn(h:ba)(u:ae)(r:(Int×Int)×Int):Prop:=∃(a p:af) (o:Obj) (t:Tok) (n:Nat),u=.ref a/\h.get? a=some o/\o.cls=.type "tuple" /\ o.data=.seq #[.ref p,.int r.2 t] n/\PrIn h (.ref p) r.1.1 r.1.2
def rkL:List ae->ba->Int
 | [p,.int s _],h=>rkC h p*2+s
 | _,_=>0
def rkR(h:ba)(u:ae):Int:=match u with
 | .ref a=>match h.get? a with
  | some o=>match o.data with
   | .seq xs _=>rkL xs.toList h
   | _=>0
  | none=>0
 | _=>0
def rkn(r:(Int×Int)×Int):Int:=(r.1.1*1000+r.1.2)*2+r.2
theorem RlIn.rk{h:ba}{u:ae}{r:(Int×Int)×Int}(p:RlIn h u r):rkR h u=rkn r:=by obtain⟨a,q,o,t,n,rfl,v,_,e2,l⟩:=p;simp only[rkR,v,e2,rkL,l.rk,rkn]
theorem RlIn.kept{h h':ba}{u:ae}{r:(Int×Int)×Int}(p:RlIn h u r)(kp:∀b o,h.get? b=some o->h'.get? b=some o):RlIn h' u r:=by obtain⟨a,q,o,t,n,l,x,e2,y,v⟩:=p;exact⟨a,q,o,t,n,l,kp _ _ x,e2,y,v.kept kp⟩
theorem PrIn.tk{h:ba}{p:af}{b k:Int}(x:PrIn h (.ref p) b k):gX (JA prog w) h [.inl b,.inl k] p:=by obtain⟨a,o,t,t',n,u,v,e2,y⟩:=x;cases u;exact⟨o,_,n,v,e2,y,.cons (zee b t) (.cons (zee k t') .nil)⟩
theorem zp4{p q:af}{b k o l:Int}(u:A.units<cLine)(x:PrIn s.heap (.ref p) b k)(y:PrIn s.heap (.ref q) o l):m3 A s (.ref p) (.ref q) (decide (b=o/\k=l)):=fun prog w E Q h=>by
 refine wpAny_eqBool_tuple (knd:=JA prog w) u x.tk y.tk ?_;have:decide (([g8 b,g8 k]:List Key)=[g8 o,g8 l])=decide (b=o/\k=l):=by rw[decide_eq_decide];constructor;intro z;cases z;exact⟨rfl,rfl⟩;rintro⟨rfl,rfl⟩;rfl
 rw[this];exact h
theorem zpy{p q:af}{b k v C:Int}(R:A.units<cLine)(x:PrIn s.heap (.ref p) b k)(y:PrIn s.heap (.ref q) v C):LtAt prog w A s false (.ref p) (.ref q) (HT.lexLt [b,k] [v,C]):=fun E Q h=>by obtain⟨a,o,t,t',n,U,S,e2,G⟩:=x;obtain⟨Y,I,u,Z,N,f0,f1,f2,J⟩:=y;cases U;cases f0;rw[oneLt'_eq];simp only[aI,if_false];refine aa (show wpAny (model prog w) A (compareOp .Lt (.ref p) (.ref q)) _ E s from HT.zeZ ⟨o,S,e2,n,G⟩ ⟨I,f1,f2,N,J⟩ (.cons _ _ (.cons _ _ .nil)) (.cons _ _ (.cons _ _ .nil)) R ?_);exact cK h
theorem zjJ{G:List ae}{Q:iw->ak->Prop}(h1:1<=G.length)(hp:∀v∈G,∃r,RlIn s.heap v r)(h:Q (tuples' false) s):wpAny (model prog w) A (keyKind' G.toArray) Q E s:=by
 rw[keyKind'_eq,gH,map_eq_pure_bind];refine aa (aa (Zl (P:=fun _ r=>∃(p:af) (o:Obj),r=some (.ref p)/\s.heap.get? p=some o/\o.cls=.type "tuple") G (fun v S Q' L=>?_) fun rs C=>ag ?_));obtain⟨r,a,p,o,t,n,rfl,I,e2,e3,a',o',t1,t2,n',Z,e5,e6,e7⟩:=hp v S;cases Z;rw[zi3];refine aa (fI (T:="tuple") ⟨o,I,e2⟩ ?_);rw[if_neg (by decide)];exact aa (eK I e3 (ag (L _ ⟨p,o',rfl,e5,e6⟩)));have al:∀r∈rs,∃(p:af) (o:Obj),r=some (.ref p)/\s.heap.get? p=some o/\o.cls=.type "tuple":=fun r J=>by obtain⟨_,_,h⟩:=VE C J;exact h
 have ln:rs.length=G.length:=(dI C).symm;have Ib:(rs.toArray.all fun x=>x.isSome)=true:=by rw[gW,cU];intro x hx;obtain⟨p,o,rfl,_⟩:=al x hx;rfl
 rw[if_pos Ib];refine aa (fe ?_);rw[oQ];have R:rs.toArray.filterMap id=(rs.filterMap id).toArray:=by simp
 rw[R,gH,map_eq_pure_bind];refine aa (aa (aa (Zl (P:=fun _ r=>r=aZ "tuple") _ (fun v S Q' L=>?_) fun ts N=>ag ?_)));obtain⟨x,hx,e⟩:=d9.mp S;obtain⟨p,o,rfl,g,c⟩:=al x hx;cases e;exact fI (T:="tuple") ⟨o,g,c⟩ (L _ rfl);have u:∀r∈ts,r=aZ "tuple":=fun r J=>by obtain⟨_,_,h⟩:=VE N J;exact h
 cases ts with
 | nil=>exact ag (ag h)
 | cons Y U =>
  have I:Y=aZ "tuple":=u Y (.head _);subst I;have Ih:(((aZ "tuple")::U).toArray.all fun x=>x == aZ "tuple")=true:=by rw[gW,cU];intro x hx;rw[u x hx];rfl
  have h0:((aZ "tuple")::U).toArray[0]?=some (aZ "tuple"):=by simp
  rw[h0];simp only[Ih,if_true];refine ag (ag ?_);exact h
theorem zpz{a b c d:Int}:HT.lexLt [a,b] [c,d]=decide (a<c\/(a=c/\b<d)):=by
 have e:HT.lexLt [a,b] [c,d]=if a=c then(if b=d then false else decide (b<d)) else decide (a<c):=rfl
 rw[e];split;rename_i h;subst h;split;symm;rw[decide_eq_false_iff_not];lia;rw[decide_eq_decide];lia;rw[decide_eq_decide];lia
theorem zhS{y:List ae}{h0:ba}(S:A.units<cLine)(J:∀v∈y,∃r,RlIn s.heap v r/\rkR h0 v=rkn r/\0<=r.1.2/\r.1.2<1000/\0<=r.2/\r.2<=1):Kinds prog w A s (rkR h0) y:=fun h2=>by
 refine⟨tuples' false,fun E Q q=>zjJ (by lia) (fun v hv=>?_) q,fun p q E Q mp Y h=>?_⟩;obtain⟨r,h,_⟩:=J v hv;exact⟨r,h⟩;have mem:∀z∈(pairsOf y).toList,z.1∈y:=fun z hz=>by
  have:z∈y.zip y:=by simpa[pairsOf] using hz
  exact(dW this).1
 obtain⟨⟨⟨b,k⟩,g⟩,⟨a,x,o,t,n,e0,e1,e2,Z,R⟩,r1,U,k1,g0,g1⟩:=J _ (mem p mp);obtain⟨⟨⟨l,u⟩,g'⟩,⟨a',x',o',t',n',f0,f1,f2,f3,f4⟩,r2,C,I,N,G⟩:=J _ (mem q Y);rw[r1,r2]at h;rw[e0,f0];refine zgM e1 Z f1 f3 (zp4 S R f4) (f7 g t g' t') (fun _=>zpy S R f4) (fun _=>ziL g g' t t') ?_;have lx:HT.lexLt [b,k] [l,u]=decide (b<l\/(b=l/\k<u)):=zpz;have n1:rkn ((b,k),g)=(b*1000+k)*2+g:=rfl;have n2:rkn ((l,u),g')=(l*1000+u)*2+g':=rfl;have:(if decide (b=l/\k=u)=true then(if (g == g')=true then false else decide (g<g')) else HT.lexLt [b,k] [l,u])=decide (rkn ((b,k),g)<rkn ((l,u),g')):=by rw[lx];simp only[beq_iff_eq,decide_eq_true_eq];dsimp only at U k1 C I g0 g1 N G;split;split;symm;rw[decide_eq_false_iff_not];lia;rw[decide_eq_decide];lia;rw[decide_eq_decide];lia
 rw[this];exact h
end
theorem zm4{α:Type}{P:α->ae->Prop}{rk:ae->Int}{f:α->Int}{u:List ae}{N:List α}{y:l8}(hv:bP P N u)(hr:∀a v,P a v->rk v=f a)(pm:(arrOf y).Perm (pairsOf u))(up:Up rk (arrOf y) u.length) :
  ∃bs:List α,bs.Perm N/\bs.Pairwise (fun a b=>f a<=f b)/\bP P bs ((arrOf y).map (·.2)).toList:=by
 have C:(arrOf y).toList.Perm (u.zip u):=by have:=fE.mp pm;simpa[pairsOf] using this
 have hl:N.length=u.length:=dI hv;have each:∀x∈N.zip u,P x.1 x.2:=by
  clear pm up C hl;induction hv with
  | nil=>intro x hx;simp at hx
  | cons h t R =>intro x hx;rcases aC.mp (by simpa using hx) with rfl|hx;exact h;exact R x hx
 have J:((arrOf y).toList.map (·.2)).Perm ((N.zip u).map (·.2)):=by refine(C.map _).trans ?_;rw[dH (av _),dH (by lia)]
 obtain⟨G,p1,p2⟩:=U1 J;have S:∀x∈G,P x.1 x.2:=fun x hx=>each x (p1.mem_iff.mp hx);have HS:∀z∈(arrOf y).toList,z.1=z.2:=fun z hz=>by have:z∈u.zip u:=C.mem_iff.mp hz;obtain⟨i,hi,rfl⟩:=aW this;simp
 have U:(arrOf y).size=u.length:=by have:=C.length_eq;simpa using this
 refine⟨G.map (·.1),?_,?_,?_⟩;have:=p1.map (·.1);rwa [fJ (by lia)]at this;rw[bt,aV];intro i j hi hj Y;have lw:G.length=u.length:=by have:=congrArg dA p2;simpa[U] using this
 have Z:∀k (hk:k<G.length),rkAt rk (arrOf y) k=f G[k].1:=fun k hk=>by
  have I:k<(arrOf y).size:=by lia
  have e1:(arrOf y).toList[k]'(by simpa using I)=(arrOf y)[k]:=by simp
  have e2:G[k].2=(arrOf y)[k].2:=by
   have:(G.map (·.2))[k]'(by simpa using hk)=((arrOf y).toList.map (·.2))[k]'(by simpa using I):=by simp only[p2]
   simpa using this
  have e3:(arrOf y)[k].1=(arrOf y)[k].2:=HS _ (by rw[<- e1];exact cW _);unfold rkAt;rw[eD I];simp only[eF,dG];rw[e3,<- e2];exact hr _ _ (S _ (cW _))
 have:=up i j Y (by lia);rwa [Z i hi,Z j hj]at this;rw[oe,<- p2];clear p1 p2 J pm up;induction G with
 | nil=>exact .nil
 | cons a l R=>exact .cons (S a (.head _)) (R fun x hx=>S x (.tail _ hx))
section
variable{prog:aO}{w:br}{A:bc}{E:qV}{s:ak}{rk:ae->Int}
theorem zhP{h:ba}{v:List ae}{b:af}{o:Obj}(u:h.get? b=some o):(midH (h.push (seqObj "list" v.toArray 0)) h.objs.size v).get? b=some o:=by have l:b<h.objs.size:=ax u;unfold midH;rw[bO _ _ _ (by rw[cQ,bM,cQ];lia),bO _ _ _ (by rw[bM,cQ];lia),eT _ _ _ _ (ay l),bO _ _ _ (ay l)];exact u
theorem zkl{l:List ae}{P:qV}(u:l.length<64)(G:Kinds prog w A { s with heap:=midH (s.heap.push (seqObj "list" l.toArray 0)) s.heap.objs.size l } rk l)
  (h:∀h' (y:l8) (e:Nat),(∀b o,s.heap.get? b=some o->h'.get? b=some o)->(arrOf y).Perm (pairsOf l)->Up rk (arrOf y) l.length->h'.get? s.heap.objs.size=some (seqObj "list" ((arrOf y).map (·.2)) e)->P .none { s with heap:=h' }) :
  wpAny (model prog w) A (dh.«list.sort» ⟨[.ref s.heap.objs.size],[]⟩) (fun f s'=>∃v,f=.done (.ret v)/\P v s') E { s with heap:=s.heap.push (seqObj "list" l.toArray 0) }:=by
 have x:(s.heap.push (seqObj "list" l.toArray 0)).get? s.heap.objs.size=some (seqObj "list" l.toArray 0):=aA _ rfl;refine ziM (s:={ s with heap:=s.heap.push (seqObj "list" l.toArray 0) }) x u G fun y p1 p2=>⟨_,rfl,?_⟩;obtain⟨e,he⟩:=sortedHeap_at (out:=(arrOf y).map (·.2)) x;refine h _ y e (fun b o C=>?_) p1 p2 he;have lt:=ax C;rw[sortedHeap_old (ay lt) (by rw[cQ];exact iL lt),bO _ _ _ (ay lt)];exact C
end
section
variable{prog:aO}{w:br}{A:bc}{E:qV}{s:ak}{rk:ba->ae->Int}
theorem zjn{x:ae}{C:ba->Nat->List ae->Prop}{Q:qV}(J:∀(G:bc) (U:qV) (R:List ae->ak->Prop),G.handled=A.handled->(∀h' tk v,C h' tk v->R v { s with heap:=h',toks:=tk })->wpAny (model prog w) G (collect x) R U s)
  (N:∀h' tk v,C h' tk v->v.length<64)
  (Y:∀h' tk v (G:bc),C h' tk v->G.units<=A.units+16->Kinds prog w G { s with heap:=midH (h'.push (seqObj "list" v.toArray 0)) h'.objs.size v,toks:=tk } (rk h') v)
  (h:∀h' tk v I (y:l8) (e:Nat),C h' tk v->(∀b o,h'.get? b=some o->I.get? b=some o)->(arrOf y).Perm (pairsOf v)->Up (rk h') (arrOf y) v.length->I.get? h'.objs.size=some (seqObj "list" ((arrOf y).map (·.2)) e)->Q (.ref h'.objs.size) { s with heap:=I,toks:=tk }) :
  wpAny (model prog w) A (call (.builtin "sorted") [x]) Q E s:=by
 have Z:64<=sizeLine:=by decide
 refine fM oD nI nJ (args_sorted1 _) ?_;unfold dh.«sorted»;refine aa (m:=checkCount "sorted" 1 1 _) (ag (aa (J _ _ _ rfl fun h' tk v c=>?_)));have L:=N h' tk v c;refine aa (fW (hsz:=by show v.toArray.size<=_;rw[aw];lia) ?_);have S:(h'.push (seqObj "list" v.toArray 0)).get? h'.objs.size=some (seqObj "list" v.toArray 0):=aA _ rfl;refine aa (bQ (cG mf ⟨_,S,rfl⟩ lA ?_ (pQ _)));refine zkl (s:={ s with heap:=h',toks:=tk }) L (Y h' tk v _ c (by show A.units+1+1<=_;lia)) fun I y e kp p1 p2 he=>?_;exact ag ⟨_,rfl,h h' tk v I y e c kp p1 p2 he⟩
end
section
variable{X:Cx}
theorem zt7{pins:qO}{σ:St}{H:Hp}{s:ak}{q:af}{b k:Int}(I:Inv X pins σ H s)(h:SqT X.K H q [.int b,.int k]):PrIn s.heap (.ref q) b k:=by
 obtain⟨is,rs,⟨o,f1,f2,n,v⟩,_⟩:=I.tuple h;cases rs with
 | cons a1 a2 =>
  cases a2 with
  | cons u l =>cases l;obtain⟨t,rfl⟩:=a1;obtain⟨t',rfl⟩:=u;exact⟨q,o,t,t',n,rfl,f1,f2,v⟩
end
def zput(zs:ZT)(k:Int×Int)(b:af)(v:V):ZT:=if (zs.any fun z=>decide (z.1=k))=true then zs.map (fun z=>if z.1=k then(z.1,z.2.1,v) else z) else zs++[(k,b,v)]
def putT(ks:KT2)(k:Int×Int)(t:ab):KT2:=if (ks.any fun z=>decide (z.1=k))=true then ks.map (fun z=>if z.1=k then(z.1,t) else z) else ks++[(k,t)]
def valT(ks:KT2)(k:Int×Int):Option ab:=(ks.find? fun z=>decide (z.1=k)).map (·.2)
def kL(k:Int×Int):List Key:=[.inl k.1,.inl k.2]
theorem Z5{k l:Int×Int}:kL k=kL l↔k=l:=by constructor;intro h;unfold kL at h;injection h with h1 h2;injection h2 with h2 _;injection h1 with h1;injection h2 with h2;exact cx h1 h2;rintro rfl;rfl
def ZX(z:(Int×Int)×af×V)(x:List Key×af×ae):Prop:=x.1=kL z.1/\x.2.1=z.2.1/\RelV z.2.2 x.2.2
theorem zj7{zs:ZT}{xs:List (List Key×af×ae)}(r:bP ZX zs xs)(k:Int×Int):(atKey xs (kL k)).isSome=zs.any fun z=>decide (z.1=k):=by
 induction r with
 | nil=>rfl
 | @cons z x zs xs h t ih =>
  by_cases e:z.1=k;have:x.1=kL k:=by rw[h.1,e]
  simp[atKey,cg,this,e];have:¬x.1=kL k:=fun l=>e (Z5.mp (h.1.symm.trans l));have e2:atKey (x::xs) (kL k)=atKey xs (kL k):=by simp[atKey,cg,this]
  rw[e2,ih,sE,decide_eq_false e,Bool.false_or]
theorem zj5{zs:ZT}{xs:List (List Key×af×ae)}(r:bP ZX zs xs)(k:Int×Int){b:af}{v:V}{u:ae}(y:RelV v u):bP ZX (zput zs k b v) (storedH xs (kL k) b u):=by
 unfold zput storedH;rw[zj7 r k];by_cases e:(zs.any fun z=>decide (z.1=k))=true;rw[if_pos e,if_pos e];clear e;induction r with
 | nil=>exact .nil
 | @cons z x zs xs h t ih =>refine .cons ?_ ih;unfold putAt;dsimp only;by_cases e:z.1=k;rw[if_pos e,if_pos (by rw[h.1,e])];exact⟨h.1,h.2.1,y⟩;rw[if_neg e,if_neg (fun C=>e (Z5.mp (h.1.symm.trans C)))];exact h
 rw[if_neg e,if_neg e];exact Paired.snoc r ⟨rfl,rfl,y⟩
theorem zj6{zs:ZT}{xs:List (List Key×af×ae)}(r:bP ZX zs xs):xs.map (·.1)=(zs.map (·.1)).map kL:=by
 induction r with
 | nil=>rfl
 | cons h t l=>rw[aG,aG,aG,l,h.1]
theorem ziF{l:qB}:(l.map kL).Nodup↔l.Nodup:=by
 induction l with
 | nil=>simp
 | cons a l v =>
  rw[aG,cC,cC,v];have:kL a∈l.map kL↔a∈l:=by constructor;intro h;obtain⟨b,x,e⟩:=bh.mp h;rwa [<- Z5.mp e];exact dZ
  rw[this]
theorem zfi(zs:ZT)(k:Int×Int)(b:af)(v:V):(zput zs k b v).length<=zs.length+1:=by unfold zput;split;rw[aP];exact cT _;simp
section
variable{P:aO}{w:br}
theorem zvv{z:(Int×Int)×af×V}{x:List Key×af×ae}(h:ZX z x):entZ z (entryOfKey (tupleKind (JA P w)) x):=by obtain⟨l,o,u⟩:=h;refine⟨?_,?_,u⟩;show tupleKeyHash (JA P w) x.1=_;rw[l];rfl;show aX x.2.1=_;rw[o]
theorem zmQ{zs:ZT}{es:List d8}(r:bP entZ zs es):∃xs:List (List Key×af×ae),bP ZX zs xs/\es=xs.map (entryOfKey (tupleKind (JA P w))):=by
 induction r with
 | nil=>exact⟨[],.nil,rfl⟩
 | @cons z e zs es h t ih =>obtain⟨xs,x1,x⟩:=ih;obtain⟨u,v,y⟩:=h;refine⟨(kL z.1,z.2.1,e.val)::xs,.cons ⟨rfl,rfl,y⟩ x1,?_⟩;rw[aG,<- x];congr 1;cases e;dsimp only at u v;rw[u,v];rfl
theorem zsY{zs:ZT}{xs:List (List Key×af×ae)}(r:bP ZX zs xs):bP entZ zs (xs.map (entryOfKey (tupleKind (JA P w)))):=by
 induction r with
 | nil=>exact .nil
 | cons h t u=>exact .cons (zvv h) u
end
section
variable{X:Cx}{pins:qO}{σ:St}{H:Hp}{s:ak}{a:af}{zs:ZT}{ep:Nat}{A:bc}{E:qV}
theorem Y0(I:Inv X pins σ H s)(h:H a=some (ZDO a zs ep))(C:∀z∈zs,SqT X.K H z.2.1 [.int z.1.1,.int z.1.2]):(a == sysModules)=false/\zs.length<=sizeLine/\∃xs,bP ZX zs xs/\s.heap.DictOfH (tupleKind (JA X.prog X.w)) a xs:=by obtain⟨⟨u,l,nd,o,es,g1,g2,g3,pr⟩,_⟩:=I.hok a _ h;obtain⟨xs,x1,v⟩:=zmQ (P:=X.prog) (w:=X.w) pr;refine⟨u,l,xs,x1,o,es,ep,g1,g2,g3,v,fun x hx=>?_,?_⟩;obtain⟨z,hz,y,e2,_⟩:=VE x1 hx;have:=Us (k:=kL z.1) I (C z hz);rw[y,e2];exact this;rw[zj6 x1];exact ziF.mpr nd
theorem Y1{H':Hp}{h':ba}{xs:List (List Key×af×ae)}(y:(a == sysModules)=false)(x:zs.length<=sizeLine)(r:bP ZX zs xs)(v:h'.DictOfH (tupleKind (JA X.prog X.w)) a xs):∃ep,JI X.prog X.w H' h' a (ZDO a zs ep):=by obtain⟨o,es,ep,g1,g2,g3,C,_,l⟩:=v;refine⟨ep,⟨y,x,?_,o,es,g1,g2,g3,?_⟩,⟨o,g1⟩,?_⟩;rw[zj6 r]at l;exact ziF.mp l;rw[C];exact zsY r;rintro L J ⟨x1,G,x3,o,es,I,u⟩ k;exact⟨x1,G,x3,o,es,k o I,u⟩
theorem zj9{k:Int×Int}{b:af}{v:V}{r:ae}{Q:Unit->ak->Prop}(S:A.units+1<cLine)(I:Inv X pins σ H s)(h:H a=some (ZDO a zs ep))(Y:∀z∈zs,SqT X.K H z.2.1 [.int z.1.1,.int z.1.2])(G:SqT X.K H b [.int k.1,.int k.2])(hl:zs.length<sizeLine)(U:RelV v r)
  (J:∀s' o,Inv X pins σ (upd H a (ZDO a (zput zs k b v) o)) s'->Q () s'):wpAny (model X.prog X.w) A (setItem (.ref a) (.ref b) r) Q E s:=by
 obtain⟨R,N,xs,x1,L⟩:=Y0 I h Y;have Z:xs.length<=sizeLine:=by rw[<- dI x1];exact N
 refine wpAny_setItem_heap (hsz:=Z) (gf S) (Us (k:=kL k) I G) L fun h' u y=>?_;have he:∃q,h'.get? a=some q:=let ⟨q,_,_,e,_⟩:=u;⟨q,e⟩;have C:(zput zs k b v).length<=sizeLine:=by have:=zfi zs k b v;lia
 have ok:∀H':Hp,∃o,JI X.prog X.w H' h' a (ZDO a (zput zs k b v) o):=fun H'=>Y1 R C (zj5 x1 k U) u;obtain⟨o,x⟩:=ok H;exact J _ o (zmf I (by rw[h];exact gU) y he x)
end
section
variable{K:qF}{hd:Option af}{O:af->Prop}{H:Hp}{zs:ZT}{ks:KT2}
theorem Jj.sq(r:Jj K hd O H zs ks):∀z∈zs,SqT K H z.2.1 [.int z.1.1,.int z.1.2]:=by
 intro z hz;induction zs generalizing ks with
 | nil=>cases hz
 | cons y zs x =>
  cases r with
  | cons l C r =>
   rcases aC.mp hz with rfl|hz;obtain⟨a,G,e,sq,v⟩:=l.tupI;cases e;cases v with
   | cons x1 u =>
    cases u with
    | cons x3 o =>cases o;rw[x1.intI,x3.intI]at sq;exact sq
   exact x r hz
theorem Jj.length(r:Jj K hd O H zs ks):zs.length=ks.length:=by
 induction zs generalizing ks with
 | nil=>cases r;rfl
 | cons y zs l =>
  cases r with
  | cons o u r=>rw[aE,aE,l r]
theorem Jj.keys(r:Jj K hd O H zs ks):zs.map (·.1)=ks.map (·.1):=by
 induction zs generalizing ks with
 | nil=>cases r;rfl
 | cons y zs l =>
  cases r with
  | cons o u r=>rw[aG,aG,l r]
theorem Jj.snoc{k:Int×Int}{q:af}{v:V}{d:ab}(h:Rep K hd O H (.ref q) (.tuple [.int k.1,.int k.2]))(x:Rep K hd O H v d){zs:ZT}{ks:KT2}(r:Jj K hd O H zs ks):Jj K hd O H (zs++[(k,q,v)]) (ks++[(k,d)]) :=
 r.ind (P:=fun zs ks=>Jj K hd O H (zs++[(k,q,v)]) (ks++[(k,d)])) (.cons h x .nil) fun a b _ r=>.cons a b r
theorem Jj.put(r:Jj K hd O H zs ks)(k:Int×Int){b:af}{v:V}{t:ab}(I:Rep K hd O H (.ref b) (.tuple [.int k.1,.int k.2]))(G:Rep K hd O H v t):Jj K hd O H (zput zs k b v) (putT ks k t):=by
 have x:(zs.any fun z=>decide (z.1=k))=ks.any fun z=>decide (z.1=k):=by
  have J:(zs.any fun z=>decide (z.1=k))=(zs.map (·.1)).any fun z=>decide (z=k):=by rw[hZ];rfl
  have e2:(ks.any fun z=>decide (z.1=k))=(ks.map (·.1)).any fun z=>decide (z=k):=by rw[hZ];rfl
  rw[J,e2,r.keys]
 unfold zput putT;rw[x];split;clear x;rename_i e;clear e;induction zs generalizing ks with
 | nil=>cases r;exact .nil
 | cons y zs C =>
  cases r with
  | @cons k' q v' d zs ks h1 h2 r =>rw[aG,aG];dsimp only;by_cases e:k'=k;rw[if_pos e,if_pos e];exact .cons h1 G (C r);rw[if_neg e,if_neg e];exact .cons h1 h2 (C r)
 exact Jj.snoc I G r
theorem Rep.bkI{v:V}{a b:Int}(h:Rep K hd O H v (.tuple [.int a,.int b])):∃q,v=.ref q/\SqT K H q [.int a,.int b]:=by
 obtain⟨q,C,rfl,sq,x⟩:=h.tupI;cases x with
 | cons x1 o =>
  cases o with
  | cons x3 y =>cases y;rw[x1.intI,x3.intI]at sq;exact⟨q,rfl,sq⟩
end
section
variable{X:Cx}{e e1 e2:aQ}{x:Str}{pos:Pos}{d d1 d2:DTE}
def zt1:TE:=fun _ H Q=>∀p,H p=none->∀ep,Q (.ref p) (upd H p (ZDO p [] ep))
theorem zpc:PE X (.Dict [] [] pos) zt1:=fun pins s σ H Q I h=>by have u:(s.heap.objs.size == sysModules)=false:=beq_eq_false_iff_ne.mpr (fc (ay I.big));obtain⟨ep,ok⟩:=Y1 (X:=X) (H':=H) (zs:=[]) u (bX _) .nil (kc s.heap);exact wpAny_Dict_empty ⟨.ref s.heap.objs.size,_,I.laid (a:=s.heap.objs.size) (o:=ZDO s.heap.objs.size [] ep) (t':=s.toks) (fun _ _ q=>aj _ q) (av _) ok,rfl,h _ (I.hok.fresh (av _)) ep⟩
def zq5(i:Nat):DTS:=fun D l n=>D.nx (l.set i (some (.dtt []))) n
theorem zp8{i:Nat}{u dp:Pos}(I:X.N.Nodup)(hi:X.N[i]?=some x)(hx:Loc X.env.scope x)(G:swapsWith (.Dict [] [] dp) (some (.Name x u)) pos.line X.env=pure false:=by rfl)(hf:X.fn x=true\/X.env.scope.names.lookup x=some .local:=by walk_at "F") :
  DS X (.Assign [.Name x u] (.Dict [] [] dp) pos) (zq5 i):=by
 refine⟨_,Qm I hi hx zpc G hf,fun C L σ H n D J S hd g=>?_⟩;intro p v ep;have e1:ExtE C.hd H (upd H p (ZDO p [] ep)):=ExtE.new v;have y:Hn X.K C.hd (upd H p (ZDO p [] ep)) n:=S.hnd.same (JL v);exact g.nx _ _ _ n hd (S.putNew e1 y v ⟨[],ep,JB,.nil⟩) (zct e1 v)
def zuC(K:qF)(G ty C:TE):TS:=fun D σ H=>C σ H fun v I=>G σ I fun x u=>ty σ u fun y l=>∃a zs ep k b,x=.ref a/\y=.ref b/\l a=some (ZDO a zs ep)/\(∀z∈zs,SqT K l z.2.1 [.int z.1.1,.int z.1.2])/\SqT K l b [.int k.1,.int k.2]/\zs.length<sizeLine/\∀o,D.nx σ (upd l a (ZDO a (zput zs k b v) o))
theorem zo6{o i value:aQ}{J ty G:TE}{l:Pos}(hu:X.A.units+1<cLine)(N:PE X o J)(hi:PE X i ty)(hv:PE X value G)(hs:swapsWith value (some (.Subscript o i l)) pos.line X.env=pure false) :
  PS X (.Assign [.Subscript o i l] value pos) (zuC X.K J ty G):=by
 intro pins s σ H D I h;refine wpAny_Assign_Subscript (thn (hv pins s σ H _ I h) fun r s1 ⟨v,H1,I1,rv,q1⟩=>thn (N pins s1 σ H1 _ I1 q1) fun u s2 ⟨x,L,I2,R,q2⟩=>thn (hi pins s2 σ L _ I2 q2) fun U s3 ⟨y,H3,Y,ry,a,zs,ep,k,b,ex,ey,g,hk,Z,hl,q3⟩=>?_) hs;subst ex ey;cases(show u=aX a from R);cases(show U=aX b from ry);exact zj9 hu Y g hk Z hl rv fun s4 C I4=>⟨σ,_,I4,q3 C⟩
def lBlk(y:ab)(R:Int×Int->Prop):Prop:=∃k:Int×Int,y=.tuple [.int k.1,.int k.2]/\R k
def ZQ(i:Nat)(C o:DTE):DTS:=fun D l n=>o l n fun t u=>match l[i]? with
 | some (some (.dtt ks))=>C l u fun y v=>lBlk y fun k=>ks.length<16777216/\D.nx (l.set i (some (.dtt (putT ks k t)))) v
 | _=>False
theorem zlZ(i:Nat){p1 l:Pos}(hr:X.A.units+1<cLine)(Z:DE X e1 d1)(U:DE X e2 d2)(hN:X.N[i]?=some x:=by rfl)(hv:Vis X.env.scope x:=by walk_at "V")(hd:(x == ("__debug__":Str))=false:=by rfl)
  (hcd:(x == ("__classdict__":Str))=false:=by rfl) (hs:swapsWith e2 (some (.Subscript (.Name x p1) e1 l)) pos.line X.env=pure false:=by rfl) :
  DS X (.Assign [.Subscript (.Name x p1) e1 l] e2 pos) (ZQ i d1 d2):=by
 obtain⟨t1,pa1,Z⟩:=Z;obtain⟨t2,J,U⟩:=U;refine⟨_,zo6 hr (Qe hN hv hd hcd) pa1 J hs,fun C ρ σ H n D D' S hd g=>?_⟩;refine U C ρ σ H n _ _ S hd fun t n1 v H1 r e1 I q=>?_;have S1:=S.on e1 I;split at r;rename_i ks G;obtain⟨p,zs,ep,s1,s2,s3,s4⟩:=S1.dtt i ks G;refine⟨.ref p,s1,?_⟩;refine Z C ρ σ H1 n1 _ _ S1 r fun y n2 w H2 Y e2 hn2 q2=>?_;have S2:=S1.on e2 hn2;obtain⟨p',zs',L,u1,u2,R,u4⟩:=S2.dtt i ks G;rw[s1]at u1;cases u1;obtain⟨k,rfl,hl,Y⟩:=Y;obtain⟨b,rfl,sb⟩:=q2.bkI;have q':=e2.rep S.hx q;refine⟨p,zs',L,k,b,rfl,rfl,u2,R.sq,sb,by rw[R.length];exact hl,fun e3=>?_⟩;obtain⟨S3,k3⟩:=S2.chgC (c':=.dtt (putT ks k t)) rfl rfl G s1 fun O' H' a b hp=>⟨_,_,hp,(R.put k q2 q').mono a b⟩;exact g.nx _ _ _ n2 Y S3 ((e1.keep.trans e2.keep).trans k3);exact r.elim
end
section
variable{D:JH}{ρ ρ':En}{n i j:Nat}{d dk dv:DTE}{R:qN}{ks:KT2}
instance zvA:Stp (zq5 i D ρ n) (SetK i (some (.dtt [])) D.nx ρ n):=⟨fun h=>h⟩
instance zvz [h:GetN ρ i (some (.dtt ks))]:Stp (ZQ i dk dv D ρ n) (dv ρ n fun t n1=>dk ρ n1 fun y n2=>lBlk y fun k=>ks.length<16777216/\SetK i (some (.dtt (putT ks k t))) D.nx ρ n2):=⟨fun k=>by unfold ZQ;rw[h.e];exact k⟩
instance zvW {a b:Int}{Q:Int×Int->Prop}:Stp (lBlk (.tuple [.int a,.int b]) Q) (Q (a,b)):=⟨fun h=>⟨(a,b),rfl,h⟩⟩
end
def rD(rs:List ((Int×Int)×Int)):List ab:=rs.map fun r=>.tuple [.tuple [.int r.1.1,.int r.1.2],.int r.2]
theorem QU{rs:List ((Int×Int)×Int)}:(rD rs).length=rs.length:=by simp[rD]
def RlOk(r:(Int×Int)×Int):Prop:=0<=r.1.2/\r.1.2<1000/\0<=r.2/\r.2<=1
section
variable{X:Cx}
def RlV(K:qF)(H:Hp)(z:V×((Int×Int)×Int)):Prop:=∃a q,z.1=.ref a/\SqT K H a [.ref q,.int z.2.2]/\SqT K H q [.int z.2.1.1,.int z.2.1.2]/\RlOk z.2
theorem zt6{pins:qO}{σ:St}{H:Hp}{s:ak}{a q:af}{r:(Int×Int)×Int}(I:Inv X pins σ H s)(h:SqT X.K H a [.ref q,.int r.2])(v:SqT X.K H q [.int r.1.1,.int r.1.2]):RlIn s.heap (.ref a) r:=by
 obtain⟨is,rs,⟨o,f1,f2,n,x⟩,_⟩:=I.tuple h;cases rs with
 | cons a1 a2 =>
  cases a2 with
  | cons u l =>cases l;cases(show _=aX q from a1);obtain⟨t,rfl⟩:=u;exact⟨a,q,o,t,n,rfl,f1,f2,x,zt7 I v⟩
theorem zha(hu:X.A.units+64<cLine):JQ X (.builtin "sorted") (fun xs H Q=>∃(p:af) (zs:List (V×((Int×Int)×Int))),xs=[.ref p]/\(SqL X.K H p (zs.map (·.1))\/SqT X.K H p (zs.map (·.1)))/\zs.length<64/\(∀z∈zs,RlV X.K H z) /\
  ∀J:List (V×((Int×Int)×Int)),J.Perm zs->J.Pairwise (fun a b=>rkn a.2<=rkn b.2)->∀l,H l=none->Q (.ref l) (upd H l (.lst (J.map (·.1))))):=by
 intro pins s σ H xs us Q I r h;obtain⟨p,zs,rfl,G,h64,hp,q⟩:=h;obtain⟨u,rfl,rx⟩:=vals1 r;cases rx;have hs:64<=sizeLine:=by decide
 have key:∀(its:List ae) (o:Obj) (T:String) (n:Nat),Vals (zs.map (·.1)) its->s.heap.get? p=some o->o.cls=.type T->(T = "list" \/ T = "tuple")->o.data=.seq its.toArray n ->
   wpAny (model X.prog X.w) X.A (call (.builtin "sorted") [.ref p]) (EP X pins σ Q) X.xe s:=fun its o T n rv R hc hT hd=>by
  have hlen:zs.length=its.length:=by simpa using rv.length
  have cell:bP (fun(z:V×((Int×Int)×Int)) (u:ae)=>RelV z.1 u/\RlIn s.heap u z.2/\RlOk z.2) zs its:=by
   have go:∀(zs:List (V×((Int×Int)×Int))) (its:List ae),(∀z∈zs,RlV X.K H z)->Vals (zs.map (·.1)) its->bP (fun(z:V×((Int×Int)×Int)) (u:ae)=>RelV z.1 u/\RlIn s.heap u z.2/\RlOk z.2) zs its:=by
    intro zs;induction zs with
    | nil=>intro its _ r;cases r;exact .nil
    | cons z zs ih =>
     intro its hz r;cases r with
     | cons Y r2 =>obtain⟨a,q,e1,e2,e3,ok⟩:=hz z (.head _);refine .cons ⟨Y,?_,ok⟩ (ih _ (fun y hy=>hz y (.tail _ hy)) r2);dsimp only at Y;rw[e1]at Y;cases(show _=aX a from Y);exact zt6 I e2 e3
   exact go zs its hp rv
  refine zjn (A:=X.A) (x:=.ref p) (rk:=rkR) (C:=fun h' tk N=>N=its/\(∀b o,s.heap.get? b=some o->h'.get? b=some o)/\s.heap.objs.size<=h'.objs.size) ?_ ?_ ?_ ?_;intro A' E' Q' hA G;refine zcw R hc hT hd (by lia) ?_;have hq':=G ((s.heap.push (seqObj "list" #[] 0)).update s.heap.objs.size (bJ (·++its.toArray))) s.toks its ⟨rfl,fun b ob U=>?_,?_⟩;exact hq';rw[eT _ _ _ _ (ay (ax U))];exact aj _ U;rw[bM,cQ];exact cT _;rintro h' tk N ⟨rfl,_,_⟩;lia;rintro h' tk N A' ⟨rfl,kp,_⟩ hA';refine zhS (by lia) fun u hu=>?_;obtain⟨x,_,_,rl,ok⟩:=VE cell hu;have S:=rl.kept kp;exact⟨x.2,S.kept fun b o e=>zhP e,S.rk,ok⟩;rintro h' tk N h2 y e ⟨rfl,kp,sz⟩ kp2 pm up he;have v:bP (fun(z:V×((Int×Int)×Int)) (u:ae)=>RelV z.1 u/\RlIn h' u z.2) zs N:=Paired.mapP cell fun _ _ h=>⟨h.1,h.2.1.kept kp⟩;obtain⟨ws,p1,p2,p3⟩:=zm4 (f:=fun x=>rkn x.2) v (fun x u hx=>hx.2.rk) pm up;have rv':Vals (ws.map (·.1)) ((arrOf y).map (·.2)).toList:=by
   have:∀{l:List (V×((Int×Int)×Int))} {m:List ae},bP (fun(z:V×((Int×Int)×Int)) (u:ae)=>RelV z.1 u/\RlIn h' u z.2) l m->Vals (l.map (·.1)) m:=by
    intro l m p;induction p with
    | nil=>exact .nil
    | cons h t ih=>exact .cons h.1 ih
   exact this p3
  refine⟨.ref h'.objs.size,_,I.laid (a:=h'.objs.size) (o:=.lst (ws.map (·.1))) (t':=tk) (fun b o U=>kp2 b o (kp b o U)) sz ?_,rfl,q ws p1 p2 _ (I.hok.fresh sz)⟩;refine⟨?_,_,e,rv',by rw[he]⟩;have:=p1.length_eq;rw[aP];lia
 rcases G with G|G;obtain⟨its,Z,pl,hz⟩:=I.list G;obtain⟨o,R,hc,n,hd⟩:=pl.isList;exact key its o "list" n Z R hc (.inl rfl) hd;obtain⟨its,Z,pl,hz⟩:=I.tuple G;obtain⟨o,R,hc,n,hd⟩:=pl;exact key its o "tuple" n Z R hc (.inr rfl) hd
end
def zok(t:ab)(R:List ab->Prop):Prop:=JW t fun ts=>∃rs:List ((Int×Int)×Int),ts=rD rs/\rs.length<64/\(∀r∈rs,RlOk r)/\∀l:List ((Int×Int)×Int),l.Perm rs->l.Pairwise (fun a b=>rkn a<=rkn b)->R (rD l)
def zoC(d:DTE):DTA:=fun o n R=>d o n fun t l=>zok t fun ts=>R ts l
section
variable{X:Cx}{e:aQ}{d:DTE}{pos p:Pos}{k:Nat}
theorem zkB{K:qF}{hd:Option af}{O:af->Prop}{H:Hp}:∀{v:List V}{rs:List ((Int×Int)×Int)},Reps K hd O H v (rD rs)->(∀r∈rs,RlOk r)->∀z∈v.zip rs,RlV K H z/\Rep K hd O H z.1 (.tuple [.tuple [.int z.2.1.1,.int z.2.1.2],.int z.2.2])
 | _,[],r,_=>by cases r;intro z hz;simp at hz
 | _,a::rs,r,ok=>by
  cases r with
  | cons h r =>
   intro z hz;rcases aC.mp (by simpa using hz) with rfl|hz;refine⟨?_,h⟩;obtain⟨b,J,rfl,sq,G⟩:=h.tupI;cases G with
   | cons x1 C =>
    cases C with
    | cons x3 x =>cases x;obtain⟨q,rfl,o⟩:=x1.bkI;rw[x3.intI]at sq;exact⟨b,q,rfl,sq,o,ok a (.head _)⟩
   exact zkB r (fun y I=>ok y (.tail _ I)) z hz
theorem ze9(hr:Room k X.A)(hm:X.mg "sorted" = none) (h:DL X e d) (hs:starEach [e] X.env=[(false,eval e X.env)]) (hg:Gl X "sorted":=by rfl):DN X (.Call (.Name "sorted" p) [e] [] pos) (zoC d):=by
 obtain⟨ta,pa,h⟩:=h;refine⟨_,UG (zha (by have:=hr.un;lia)) hm oE (JY pa Qk hs) hg,fun C ρ σ H n Q R S hd hq=>?_⟩;refine h C ρ σ H n _ _ S hd fun t n1 v I r1 e1 h1 q1=>?_;have S1:=S.on e1 h1;have go:∀(p:af) J ts,(SqL X.K I p J\/SqT X.K I p J)->Reps X.K C.hd (Own C ρ σ) I J ts->(∃rs:List ((Int×Int)×Int),ts=rD rs/\rs.length<64/\(∀r∈rs,RlOk r)/\∀Y:List ((Int×Int)×Int),Y.Perm rs->Y.Pairwise (fun a b=>rkn a<=rkn b)->R (rD Y) n1) ->
   ∃(p':af) (zs:List (V×((Int×Int)×Int))),[V.ref p]=[V.ref p']/\(SqL X.K I p' (zs.map (·.1))\/SqT X.K I p' (zs.map (·.1)))/\zs.length<64/\(∀z∈zs,RlV X.K I z) /\
  ∀G:List (V×((Int×Int)×Int)),G.Perm zs->G.Pairwise (fun a b=>rkn a.2<=rkn b.2)->∀l,I l=none->Q (.ref l) (upd I l (.lst (G.map (·.1)))):=fun p J ts hs rp ⟨rs,ets,l64,ok,hR⟩=>by
  subst ets;have ln:=rp.length;rw[QU]at ln;have rel:=zkB rp ok;refine⟨p,J.zip rs,rfl,?_,by simp;lia,fun z hz=>(rel z hz).1,fun G pm pw l U=>?_⟩;rw[fJ (by lia)];exact hs;have hl0:H l=none:=by
   cases z:H l with
   | none=>rfl
   | some o =>by_cases y:C.hd=some l;obtain⟨J,q⟩:=h1.lst y;rw[U]at q;cases q;rw[e1 l o z y]at U;cases U
  have pr:(G.map (·.2)).Perm rs:=by have:=pm.map (·.2);rwa [dH (by lia)]at this
  have rp':∀zs:List (V×((Int×Int)×Int)),(∀z∈zs,Rep X.K C.hd (Own C ρ σ) I z.1 (.tuple [.tuple [.int z.2.1.1,.int z.2.1.2],.int z.2.2]))->Reps X.K C.hd (Own C ρ σ) I (zs.map (·.1)) (rD (zs.map (·.2))):=by
   intro zs;induction zs with
   | nil=>intro _;exact .nil
   | cons a l ih=>intro h;exact .cons (h a (.head _)) (ih fun x hx=>h x (.tail _ hx))
  refine hq _ n1 l _ _ (hR _ pr (by rw[bt];exact pw)) (e1.trans (ExtE.new U)) (h1.same (JL U)) hl0 JB ?_;refine(rp' G fun z hz=>(rel z (pm.mem_iff.mp hz)).2).mono (fun b o Z z=>z.elim id fun z=>?_) fun b o _ Z=>JL U b o Z;subst z;rw[U]at Z;cases Z
 cases t with
 | list ts =>obtain⟨p,J,rfl,L,h2⟩:=q1.lstI;exact go p J ts (.inl (.of L)) h2 r1
 | tuple ts =>obtain⟨p,J,rfl,L,h2⟩:=q1.tupI;exact go p J ts (.inr L) h2 r1
 | _=>exact r1.elim
end
instance zt9 {d:DTE}{ρ:En}{n:Nat}{R:List ab->Nat->Prop}:Stp (zoC d ρ n R) (d ρ n fun t n1=>zok t fun ts=>R ts n1):=⟨fun h=>h⟩
section
variable{prog:aO}{w:br}{A:bc}{E:qV}
theorem PrT.keepL{h h':ba}{x:ae}{z:List Key×af×ae}(d it:af)(hd:∃o,h.get? d=some o/\o.cls=.type "dict") (hi:∃o,h.get? it=some o/\o.cls=.type "list_iterator") (r:PrT prog w h x z) (kp:KpH d it h h'):PrT prog w h' x z:=by obtain⟨p,e,l,tk⟩:=r;refine⟨p,e,?_,Vh tk fun o=>kp _ o (ZN tk hd (by decide)) (ZN tk hi (by decide))⟩;have v:=tup_ne l hd (by decide);have u:=tup_ne l hi (by decide);obtain⟨o,g,c⟩:=l;exact⟨o,kp p o v u g,c⟩
theorem zi6{h h':ba}{d it:af}{xs:List (List Key×af×ae)}(hd:h.DictOfH (tupleKind (JA prog w)) d xs)(hi:∃o,h.get? it=some o/\o.cls=.type "list_iterator") (kp:∀b o,b≠it->h.get? b=some o->h'.get? b=some o) (u:d≠it):h'.DictOfH (tupleKind (JA prog w)) d xs:=by obtain⟨o,es,ep,v,hc,hd,he,l,C⟩:=hd;exact⟨o,es,ep,kp d o u v,hc,hd,he,fun x hx=>Vh (l x hx) fun o e=>kp _ o (ZN (l x hx) hi (by decide)) e,C⟩
def mkX(xs ps:List (List Key×af×ae)):List (List Key×af×ae):=ps.foldl (fun l z=>storedH l z.1 z.2.1 z.2.2) xs
theorem zhA(xs:List (List Key×af×ae))(k:List Key)(a:af)(v:ae):(storedH xs k a v).length<=xs.length+1:=by unfold storedH;split;rw[aP];exact cT _;simp
theorem zf7{d it l:af}{items:Array ae}{res:ae}(hA:A.handled=none)(hu:A.units+1<cLine)(G:d≠it)(nl:l≠d)(nli:l≠it):∀(ps:List (List Key×af×ae)) (i:Nat) (xs:List (List Key×af×ae)) (s:ak) (t:Tok) {R:lW->ak->Prop},
  s.heap.IsList l items->s.heap.IsListIter it l i->s.heap.DictOfH (tupleKind (JA prog w)) d xs->xs.length+ps.length<=sizeLine->bP (PrT prog w s.heap) (items.toList.drop i) ps ->
  (∀h' tk,KpH d it s.heap h'->h'.DictOfH (tupleKind (JA prog w)) d (mkX xs ps)->R (.ok (.ret res)) { s with heap:=h',toks:=tk }) ->
  codeAny (model prog w) A (.builtin "dict.update.loop" ⟨[.ref d,.ref it,.int i t,res],[]⟩) R s
 | [],i,xs,s,t,R,hl,hi,hd,hz,hp,h=>by
  have e:items[i]?=none:=by generalize hq:items.toList.drop i=q at hp;cases hp;have:=List.drop_eq_nil_iff.mp hq;exact kU (by simpa using this)
  refine f6 zco ?_;show wpAny _ _ (pyNext (.ref it) >>= _) _ _ s;refine aa (lH hA hi hl e fun h' hx=>?_);show wpAny _ _ (iQ d [] >>= fun _=>ret res) _ _ _;unfold iQ;rw[iy];obtain⟨Z,gi,ci,_⟩:=id hi;exact aa (ag (ag (h h' s.toks (fun b o _ n ho=>hx b o n ho) (zi6 hd ⟨Z,gi,ci⟩ (fun b o n e=>hx b o n e) G))))
 | (k,a,v)::ps,i,xs,s,t,R,hl,hi,hd,hz,hp,h=>by
  generalize hq:items.toList.drop i=q at hp;cases hp with
  | cons r rs =>
   rename_i x xs';have N:∃o,s.heap.get? it=some o/\o.cls=.type "list_iterator":=by obtain⟨Z,gi,ci,_⟩:=id hi;exact⟨Z,gi,ci⟩
   obtain⟨p,rfl,tp,ki⟩:=r;have np:=tup_ne tp (zl8 hd) (by decide);have npi:=tup_ne tp N (by decide);obtain⟨o,ho,oc,n,od⟩:=id tp;have Y:i<items.toList.length:=by by_cases z:i<items.toList.length;exact z;rw[List.drop_of_length_le (by lia)]at hq;cases hq
   rw[bf Y]at hq;obtain⟨e1,e2⟩:=eR hq;have e:items[i]?=some (.ref p):=by rw[<- e1,<- gS];exact ah Y
   refine f6 zco ?_;show wpAny _ _ (pyNext (.ref it) >>= _) _ _ s;refine aa (kv hi hl e fun S hi1 J=>?_);refine aa (bQ ?_);have ho1:S.get? p=some o:=(J.2 p npi).trans ho;have hT:(⟨S,s.gens,s.drawn,s.toks,s.os⟩:ak).TypeIs (.ref p) "tuple":=⟨o,ho1,oc⟩;refine aa (wpAny_tryCatch ?_);unfold tY;refine aa (fI hT ?_);rw[if_pos (by rfl)];refine aa (mm ho1 od (ag ?_));show wpAny _ _ (holding [.ref a,v] (dictSet d (.ref a) v)) _ _ _;have kp1:KpH d it s.heap S:=fun b L _ n C=>(J.2 b n).trans C;have hd1:=zi6 hd N (fun b L n C=>(J.2 b n).trans C) G;have ki1:gX (JA prog w) S k a:=Vh ki fun L C=>(J.2 a (ZN ki N (by decide))).trans C;rw[aE]at hz;refine bQ (m9 (s:=⟨S,s.gens,s.drawn,s.toks,s.os⟩) (knd:=tupleKind (JA prog w)) (by show Around.units _<cLine;rw[zkd];exact hu) ki1 hd1 (fun h2 hd2 U=>?_) (by lia));have kp2:KpH d it S h2:=fun b L n _ C=>(U.2 b n).trans C;refine ag ⟨f9 _ (by decide +kernel),?_⟩;have kp:KpH d it s.heap h2:=fun b L n1 n2 C=>kp2 b L n1 n2 (kp1 b L n1 n2 C);refine zf7 (items:=items) hA hu G nl nli ps (i+1) (storedH xs k a v) _ 0 ?_ ?_ hd2 ?_ ?_ fun h' tk kp' hd'=>?_;obtain⟨ol,hol,r⟩:=hl;exact⟨ol,kp l ol nl nli hol,r⟩;obtain⟨Z,hoi,r⟩:=hi1;exact⟨Z,(U.2 it (fc G)).trans hoi,r⟩;have:=zhA xs k a v;lia;rw[e2];exact Paired.mapP rs fun _ _ r=>r.keepL d it (zl8 hd) N kp;exact h h' tk (fun b L n1 n2 C=>kp' b L n1 n2 (kp b L n1 n2 C)) hd'
theorem zeu{s:ak}{l:af}{o:Obj}{its:Array ae}{n:Nat}{ps:List (List Key×af×ae)}{Q:qV}(ho:s.heap.get? l=some o)(hc:o.cls=.type "list") (L:o.data=.seq its n) (hd:o.dict=none) (hA:A.handled=none) (hu:A.units+64<cLine)
  (hp:bP (PrT prog w s.heap) its.toList ps) (hz:ps.length<=sizeLine)
  (h:∀h' tk,(∀b u,s.heap.get? b=some u->h'.get? b=some u)->h'.DictOfH (tupleKind (JA prog w)) s.heap.objs.size (mkX [] ps)->Q (.ref s.heap.objs.size) { s with heap:=h',toks:=tk }) :
  wpAny (model prog w) A (call (.type "dict") [.ref l]) Q E s:=by
 refine callType_codes (Q₁:=fun obj v=>obj=.ref s.heap.objs.size/\v={ s with heap:=s.heap.push { cls:=.type "dict",data:=.dict #[] } }) F.kt_called_dict (F.kt_typeCall_dict_1 _) F.entry_dict_init (kt_code_dict_new _ ⟨rfl,rfl⟩) ?_;rintro obj v ⟨rfl,rfl⟩;have Ii:(s.heap.push { cls:=.type "dict",data:=.dict #[] }).DictOfH (tupleKind (JA prog w)) s.heap.objs.size []:=kc s.heap;have G:(s.heap.push { cls:=.type "dict",data:=.dict #[] }).get? l=some o:=aj _ ho;have I:=Ii.typeIs (s:={ s with heap:=s.heap.push { cls:=.type "dict",data:=.dict #[] } });refine⟨I,F.args_dict_init_2 _ _,?_⟩;unfold dh.«dict.__init__»;refine aa ?_;unfold sG;refine aa (lL I ?_);show wpAny _ _ (pure (s.heap.objs.size,[aX l])) _ _ _;refine ag ?_;show wpAny _ _ (kf "dict.__init__" s.heap.objs.size (.ref l) [] .none) _ _ _;unfold kf;refine aa (fI (T:="list") ⟨o,G,hc⟩ ?_);rw[if_pos (by rfl)];refine aa (zeH G hc ⟨its,n,L⟩ hd hA fun h1 tk1 Y=>?_);rw[if_pos (show(none:Option ae).isNone=true from rfl)];refine aa (fe ?_);have C:=Y l o G;have hl1:h1.IsList l its:=⟨o,C,hc,n,L⟩;refine aa (gv hl1 ?_);refine ag ⟨f9 _ (by decide +kernel),?_⟩;obtain⟨od,es,ep,Z,U⟩:=Ii;have Iz:=Y _ od Z;have l1:=ax Iz;have l2:=ax ho;have l3:=ax C;have S:∀b u,s.heap.get? b=some u->(h1.push { cls:=.type "list_iterator",data:=.fields #[.ref l,.int 0 0] }).get? b=some u:=fun b u J=>aj _ (Y b u (aj _ J));refine zf7 (A:=A.in1) (items:=its) (xs:=[]) (i:=0) (ps:=ps) (show A.in1.handled=none from hA) (show A.units+1+1<cLine by lia) (ay l1) (ay l2) (ay l3) _ 0 ?_ ?_ ?_ (by simpa using hz) ?_ fun h' tk kp R=>?_;exact⟨o,aj _ C,hc,n,L⟩;exact⟨_,aA _ rfl,rfl,rfl⟩;exact⟨od,es,ep,aj _ Iz,U.1,U.2.1,U.2.2.1,by simp,by simp⟩;rw[List.drop_zero];refine Paired.mapP hp fun x z ⟨p,e,tp,tk⟩=>⟨p,e,?_,Vh tk fun u=>S _ u⟩;obtain⟨u,hob,r⟩:=tp;exact⟨u,S p u hob,r⟩;exact⟨rfl,h h' tk (fun b u J=>kp b u (ay (ax J)) (ay (kT (ax J) l1)) (S b u J)) R⟩
theorem zoV{s:ak}{d:af}{es:Array d8}{ep:Nat}{Q:qV}(x:(d == sysModules)=false)(v:UM s.heap d es ep)(hz:es.size<=sizeLine)(h:∀t tk,Q (.int es.size t) { s with toks:=tk }):wpAny (model prog w) A (call (.builtin "len") [.ref d]) Q E s:=by obtain⟨o,g1,g2,g3⟩:=v;have ty:s.TypeIs (.ref d) "dict":=⟨o,g1,g2.1⟩;have y:sizeLine=16777216:=dP;refine fM kind_len plain_len entry_len (args_len1 _) ?_;unfold dh.«len»;refine aa (m:=oneArg "len" _) (ag (aa (m:=callSpecial? (.ref d) (aN "__len__")) ?_));refine dU (name:=aN "__len__") ty lM ?_;refine cG lM ty PySem.F.entry_dict_len ?_ (PySem.F.args_dict_len_1 _);show wpAny _ _ (dictSize d >>= _) _ _ s;unfold dictSize;refine aa (aa (gM g1 g3 (ag ?_)));show wpAny _ _ (rF d >>= _) _ _ s;refine aa (wpAny_pendingCount_other x (wpAny_ret_mkInt ?_));rw[show((es.size:Int)+((0:Nat):Int))=(es.size:Int) from by simp];refine aa (bQ (ag (aa (wpAny_letGo ?_))));show wpAny _ _ (if ((es.size:Nat):Int)<0 then _ else _) _ _ _;rw[if_neg (by lia)];show wpAny _ _ (if ((es.size:Nat):Int)>=2 ^ 63 then _ else _) _ _ _;rw[if_neg (by lia)];exact aa (wpAny_mkInt (ag ⟨_,rfl,h _ _⟩))
end
def mkZ(zs:ZT):ZT:=zs.foldl (fun l z=>zput l z.1 z.2.1 z.2.2) []
def mkT(ks:KT2):KT2:=ks.foldl (fun l z=>putT l z.1 z.2) []
def KZp(K:qF)(H:Hp)(x:V)(z:(Int×Int)×af×V):Prop:=∃a,x=.ref a/\SqT K H a [.ref z.2.1,z.2.2]/\SqT K H z.2.1 [.int z.1.1,.int z.1.2]
section
variable{X:Cx}
theorem zoG{zs l:ZT}{ps xs:List (List Key×af×ae)}(r:bP ZX zs ps)(a:bP ZX l xs):bP ZX (zs.foldl (fun o z=>zput o z.1 z.2.1 z.2.2) l) (mkX xs ps):=by
 induction r generalizing l xs with
 | nil=>exact a
 | @cons z x zs ps h t ih =>
  unfold mkX;rw[fZ,fZ];have:bP ZX (zput l z.1 z.2.1 z.2.2) (storedH xs x.1 x.2.1 x.2.2):=by rw[h.1,h.2.1];exact zj5 a z.1 h.2.2
  exact ih this
theorem zpv(zs:ZT):(mkZ zs).length<=zs.length:=by
 have key:∀(zs o:ZT),(zs.foldl (fun o z=>zput o z.1 z.2.1 z.2.2) o).length<=o.length+zs.length:=by
  intro zs;induction zs with
  | nil=>intro o;simp
  | cons z zs u =>intro o;have:=u (zput o z.1 z.2.1 z.2.2);have:=zfi o z.1 z.2.1 z.2.2;rw[fZ,aE];lia
 simpa[mkZ] using key zs []
theorem zkV{pins:qO}{σ:St}{H:Hp}{s:ak}(I:Inv X pins σ H s):∀{x:List V}{its:List ae}{zs:ZT},Vals x its->bP (KZp X.K H) x zs ->
  ∃ps:List (List Key×af×ae),bP ZX zs ps/\bP (PrT X.prog X.w s.heap) its ps
 | [],_,_,r,h=>by cases r;cases h;exact⟨[],.nil,.nil⟩
 | v::x,_,_,r,h=>by
  cases r with
  | cons R N =>
   cases h with
   | @cons _ z _ zs h1 h2 =>
    obtain⟨a,rfl,sq,G⟩:=h1;obtain⟨ps,L,C⟩:=zkV I N h2;obtain⟨y,U,it,_⟩:=I.tuple sq;cases U with
    | cons Z S =>
     cases S with
     | cons Y J =>cases J;rename_i u w;cases(show _=aX a from R);cases(show _=aX z.2.1 from Z);exact⟨(kL z.1,z.2.1,w)::ps,.cons ⟨rfl,rfl,Y⟩ L,.cons ⟨a,rfl,it,Us (k:=kL z.1) I G⟩ C⟩
theorem zjY(hc:X.calm=true)(R:X.A.units+64<cLine):JQ X (.type "dict") (fun xs H Q=>∃(p:af) (v:List V) (zs:ZT),xs=[.ref p]/\H p=some (.lst v)/\bP (KZp X.K H) v zs/\∀l ep,H l=none->Q (.ref l) (upd H l (ZDO l (mkZ zs) ep))):=by
 intro pins s σ H xs Z Q I r h;obtain⟨p,v,zs,rfl,G,pr,q⟩:=h;obtain⟨u,rfl,S⟩:=r.one;cases(show u=aX p from S);obtain⟨U,its,n,rel,g⟩:=I.hok p _ G;obtain⟨ps,x,C⟩:=zkV I rel pr;have Y:zs.length=v.length:=(dI pr).symm;have l2:ps.length=zs.length:=(dI x).symm;refine zeu (A:=X.A) (its:=its.toArray) (ps:=ps) g rfl rfl rfl (I.ok.hd hc) R (by simpa using C) (by lia) fun h' tk kp J=>?_;have L:(s.heap.objs.size == sysModules)=false:=beq_eq_false_iff_ne.mpr (fc (ay I.big));have N:(mkZ zs).length<=sizeLine:=by have:=zpv zs;lia
 obtain⟨ep,ok⟩:=Y1 (X:=X) (H':=H) L N (zoG x .nil) J;exact⟨.ref s.heap.objs.size,_,I.laid (a:=s.heap.objs.size) (o:=ZDO s.heap.objs.size (mkZ zs) ep) (t':=tk) kp (av _) ok,rfl,q _ ep (I.hok.fresh (av _))⟩
theorem zmx:JQ X (.builtin "len") (fun xs H Q=>∃a zs ep,xs=[.ref a]/\H a=some (ZDO a zs ep)/\Q (.int zs.length) H):=by
 intro pins s σ H xs J Q I r h;obtain⟨a,zs,ep,rfl,y,q⟩:=h;obtain⟨u,rfl,v⟩:=vals1 r;cases v;obtain⟨⟨x,G,nd,o,es,g1,g2,g3,pr⟩,_⟩:=I.hok a _ y;have C:es.size=zs.length:=by have:=dI pr;simpa using this.symm
 refine zoV (es:=es) (ep:=ep) x ⟨o,g1,g2,g3⟩ (by lia) fun t tk=>⟨.int zs.length,H,I.tok tk,⟨t,by rw[C]⟩,q⟩
end
def prT(q:(Int×Int)×ab):ab:=.tuple [.tuple [.int q.1.1,.int q.1.2],q.2]
theorem ziv{K:qF}{hd:Option af}{O:af->Prop}{H:Hp}:∀{v:List V}{ks:KT2},Reps K hd O H v (ks.map prT)->∃zs:ZT,bP (KZp K H) v zs/\Jj K hd O H zs ks
 | _,[],r=>by cases r;exact⟨[],.nil,.nil⟩
 | _,a::ks,r=>by
  cases r with
  | cons h r =>
   obtain⟨zs,G,I⟩:=ziv r;obtain⟨b,J,rfl,sq,C⟩:=h.tupI;cases C with
   | cons x1 y =>
    cases y with
    | cons x3 x =>cases x;obtain⟨q,rfl,u⟩:=x1.bkI;exact⟨(a.1,q,_)::zs,.cons ⟨b,rfl,sq,u⟩ G,.cons x1 x3 I⟩
theorem zjr{K:qF}{hd:Option af}{O:af->Prop}{H:Hp}{zs:ZT}{ks:KT2}{u:ZT}{o:KT2}(r:Jj K hd O H zs ks):Jj K hd O H u o->Jj K hd O H (zs.foldl (fun l z=>zput l z.1 z.2.1 z.2.2) u) (ks.foldl (fun l z=>putT l z.1 z.2) o) :=
 r.ind (P:=fun(zs:ZT) (ks:KT2)=>∀(u:ZT) (o:KT2),Jj K hd O H u o->Jj K hd O H (zs.foldl (fun l (z:(Int×Int)×af×V)=>zput l z.1 z.2.1 z.2.2) u) (ks.foldl (fun l (z:(Int×Int)×ab)=>putT l z.1 z.2) o)) (fun _ _ a=>a) (fun v x _ r _ _ a=>r _ _ (a.put _ v x)) _ _
section
variable{X:Cx}{e:aQ}{d:DTA}{pos p p2 cp:Pos}{k:Nat}
def zs9(d:DTA):DTE:=fun o n R=>d o n fun ts u=>∃ks:KT2,ts=ks.map prT/\R (.int (mkT ks).length) u
theorem zqc(hc:X.calm=true)(I:Room k X.A)(Y:X.mg "len" = none) (v:X.mg "dict" = none) (h:DN X e d) (Z:starEach [.Call (.Name "dict" p2) [e] [] cp] X.env=[(false,eval (.Call (.Name "dict" p2) [e] [] cp) X.env)]:=by rfl) (o:starEach [e] X.env=[(false,eval e X.env)]:=by rfl) (J:Gl X "len":=by rfl) (y:Gl X "dict":=by rfl) :
  DE X (.Call (.Name "len" p) [.Call (.Name "dict" p2) [e] [] cp] [] pos) (zs9 d):=by
 obtain⟨ta,pa,h⟩:=h;have hu:X.A.units+64<cLine:=by have:=I.un;lia
 refine⟨_,UG zmx Y Qp (JY (zgp (zjY hc hu) y v rfl (Qh pa QI o) (he:=o)) Qk Z) J,fun C ρ σ H n Q R S hd L=>?_⟩;refine h C ρ σ H n _ _ S hd fun ts n1 p vs H1 ⟨ks,x,r⟩ e1 u hp0 U rp=>?_;subst x;obtain⟨zs,z1,z2⟩:=ziv rp;refine⟨p,vs,zs,rfl,U,z1,fun l ep G=>⟨l,_,ep,rfl,JB,?_⟩⟩;have el:(mkZ zs).length=(mkT ks).length:=(zjr z2 .nil).length;rw[el];exact L _ n1 _ _ r (e1.trans (ExtE.new G)) (u.same (JL G)) (.int _)
end
instance zvG {d:DTA}{ρ:En}{n:Nat}{R:qN}:Stp (zs9 d ρ n R) (d ρ n fun ts n1=>∃ks:KT2,ts=ks.map prT/\R (.int (mkT ks).length) n1):=⟨fun h=>h⟩
end L2
namespace L2
open PySem
abbrev RL:=List ((Int×Int)×Int)
def kR(rs:RL):KT2:=rs.map fun r=>(r.1,.int r.2)
def putR(rs:RL)(k:Int×Int)(s:Int):RL:=if (rs.any fun z=>decide (z.1=k))=true then rs.map (fun z=>if z.1=k then(z.1,s) else z) else rs++[(k,s)]
theorem zo2{rs:RL}{k:Int×Int}{s:Int}:putT (kR rs) k (.int s)=kR (putR rs k s):=by
 have l:((kR rs).any fun z=>decide (z.1=k))=rs.any fun z=>decide (z.1=k):=by unfold kR;rw[hZ];rfl
 unfold putT putR;rw[l];split;unfold kR;rw[bR,bR];refine dX fun z _=>?_;dsimp only[sI];split <;> rfl;unfold kR;rw[cP];rfl
theorem zrX{rs:RL}:(kR rs).length=rs.length:=by simp[kR]
def Rls0(bits:Int)(rs:RL):Prop:=(∀r∈rs,IsBk bits r.1.1 r.1.2/\0<=r.2/\r.2<=1)/\(rs.map (·.1)).Nodup
theorem zd4{rs:RL}{k:Int×Int}{s:Int}:(putR rs k s).map (·.1)=if (rs.any fun z=>decide (z.1=k))=true then rs.map (·.1) else rs.map (·.1)++[k]:=by unfold putR;split;rw[bR];refine dX fun z _=>?_;dsimp only[sI];split <;> rfl;rw[cP];rfl
def bkLt(a b:Int×Int):Prop:=a.1<b.1\/(a.1=b.1/\a.2<b.2)
def Rls(bits:Int)(rs:RL):Prop:=(∀r∈rs,IsBk bits r.1.1 r.1.2/\0<=r.2/\r.2<=1)/\rs.Pairwise fun a b=>bkLt a.1 b.1
theorem Rls0.ok{bits:Int}{rs:RL}(v:bits<=64)(h:Rls0 bits rs):∀r∈rs,RlOk r:=fun r o=>by have:=h.1 r o;have l:=this.1.1;have u:=this.1.2.1;exact⟨l,by lia,this.2⟩
theorem Rls0.sort{bits:Int}{rs l:RL}(G:bits<=64)(h:Rls0 bits rs)(pm:l.Perm rs)(pw:l.Pairwise fun a b=>rkn a<=rkn b):Rls bits l:=by refine⟨fun r v=>h.1 r (pm.mem_iff.mp v),?_⟩;have nd:(l.map (·.1)).Nodup:=(pm.map _).nodup_iff.mpr h.2;rw[eh,bt]at nd;have al:∀r∈l,RlOk r:=fun r v=>h.ok G r (pm.mem_iff.mp v);refine(pw.and nd).imp_of_mem fun {a b} ha hb ⟨h1,h2⟩=>?_;have y:=al a ha;have x:=al b hb;unfold rkn at h1;unfold RlOk at y x;obtain⟨a1,a2,J,I⟩:=y;obtain⟨C,R,S,L⟩:=x;unfold bkLt;have ne:¬(a.1.1=b.1.1/\a.1.2=b.1.2):=fun z=>h2 (cx z.1 z.2);by_cases e:a.1.1=b.1.1;right;refine⟨e,?_⟩;have:a.1.2≠b.1.2:=fun z=>ne ⟨e,z⟩;lia;left;lia
theorem zpw{rs:RL}:(mkT (kR rs)).length=rs.length↔(rs.map (·.1)).Nodup:=by
 have R:∀(rs v:RL),(kR rs).foldl (fun v z=>putT v z.1 z.2) (kR v)=kR (rs.foldl (fun v z=>putR v z.1 z.2) v):=by
  intro rs;induction rs with
  | nil=>intro v;rfl
  | cons a l C =>intro v;show(kR l).foldl _ (putT (kR v) a.1 (.int a.2))=_;rw[zo2,C];rfl
 have Y:mkT (kR rs)=kR (rs.foldl (fun v z=>putR v z.1 z.2) []):=R rs [];rw[Y,zrX];have key:∀(rs v:RL),(v.map (·.1)).Nodup->((rs.foldl (fun v z=>putR v z.1 z.2) v).length<=v.length+rs.length/\((rs.foldl (fun v z=>putR v z.1 z.2) v).length=v.length+rs.length↔(v.map (·.1)++rs.map (·.1)).Nodup)):=by
  intro rs;induction rs with
  | nil=>intro v h;simp[h]
  | cons a l C =>
   intro v h;rw[fZ];by_cases e:(v.any fun z=>decide (z.1=a.1))=true;have J:putR v a.1 a.2=v.map (fun z=>if z.1=a.1 then(z.1,a.2) else z):=by unfold putR;rw[if_pos e]
   have e2:(putR v a.1 a.2).map (·.1)=v.map (·.1):=by rw[zd4,if_pos e]
   have L:(putR v a.1 a.2).length=v.length:=by rw[J,aP]
   have:=(C (putR v a.1 a.2) (by rw[e2];exact h)).1;rw[L]at this;refine⟨by rw[aE];lia,⟨fun z=>by rw[aE]at z;lia,fun z=>?_⟩⟩;exfalso;obtain⟨y,G,I⟩:=gY.mp e;have I:y.1=a.1:=by simpa using I
   rw[aG,gN]at z;exact z.2.2 y.1 (dZ G) a.1 (by simp) I;have J:putR v a.1 a.2=v++[(a.1,a.2)]:=by unfold putR;rw[if_neg e]
   have nd:((putR v a.1 a.2).map (·.1)).Nodup:=by rw[zd4,if_neg e,gN];refine⟨h,by simp,fun x hx y G=>?_⟩;cases aJ.mp G;rintro rfl;obtain⟨z,hz,U⟩:=bh.mp hx;exact e (gY.mpr ⟨z,hz,by simp[U]⟩)
   have i:=C (putR v a.1 a.2) nd;rw[zd4,if_neg e]at i;have S:(putR v a.1 a.2).length=v.length+1:=by rw[J];simp
   rw[S]at i;refine⟨by rw[aE];lia,?_⟩;rw[aE,aG];have:v.length+1+l.length=v.length+(l.length+1):=by lia
   rw[<- this,i.2];simp
 have:=(key rs [] (by simp)).2;simpa using this
theorem zoh{rs:RL}:Okd (.list (rD rs))/\Okd (.tuple (rD rs)):=by
 have:∀rs:RL,bB (rD rs)=true/\cf (rD rs)<=2:=by
  intro rs;induction rs with
  | nil=>exact⟨by simp[rD,bB],by simp[rD,cf]⟩
  | cons b l v =>refine⟨?_,?_⟩;have:=v.1;simp only[rD,aG,bB,cz,iM,g9]at this ⊢;exact this;have:=v.2;simp only[rD,aG,cf,d4]at this ⊢;lia
 have o:=(this rs).1;have x:=(this rs).2;exact⟨⟨by simp only[cz];exact o,by simp only[d4];lia⟩,by simp only[cz];exact o,by simp only[d4];lia⟩
theorem zsX{rs o:RL}:cq (.list (rD rs)) (.list (rD o))=decide (rs=o):=by
 have key:∀rs o:RL,cE (rD rs) (rD o)=decide (rs=o):=by
  intro rs;induction rs with
  | nil =>
   intro o;cases o with
   | nil=>simp[rD,cE]
   | cons b l=>simp[rD,cE]
  | cons a l v =>
   intro o;cases o with
   | nil=>simp[rD,cE]
   | cons b u =>have i:=v u;obtain⟨⟨a1,a2⟩,x⟩:=a;obtain⟨⟨G,y⟩,C⟩:=b;unfold rD at i ⊢;rw[aG,aG,cE,i,cO];simp only[cq,cE,iM,bL,beq_iff_eq,decide_eq_true_eq,ly,mS]
 rw[cq];exact key rs o
theorem zoS{a b:(Int×Int)×Int}(o:RlOk a)(l:RlOk b)(h:rkn a=rkn b):a=b:=by
 obtain⟨⟨a1,a2⟩,u⟩:=a;obtain⟨⟨x,v⟩,y⟩:=b;unfold RlOk at o l;unfold rkn at h;dsimp only at o l h;have:a1=x:=by lia
 have:a2=v:=by lia
 have:u=y:=by lia
 simp[*]
theorem zn2{a b:(Int×Int)×Int}(o:RlOk a)(l:RlOk b)(h:bkLt a.1 b.1):rkn a<rkn b:=by unfold RlOk at o l;unfold bkLt at h;unfold rkn;lia
theorem zjm{rs v:RL}(ok:∀r∈rs,RlOk r)(pm:v.Perm rs)(pw:v.Pairwise fun a b=>rkn a<=rkn b):(rs=v/\(rs.map (·.1)).Nodup)↔rs.Pairwise fun a b=>bkLt a.1 b.1:=by constructor;rintro⟨rfl,nd⟩;rw[eh,bt]at nd;refine(pw.and nd).imp_of_mem fun {a b} y x ⟨G,C⟩=>?_;obtain⟨a1,a2,J,I⟩:=ok a y;obtain⟨U,R,S,L⟩:=ok b x;unfold rkn at G;unfold bkLt;have ne:¬(a.1.1=b.1.1/\a.1.2=b.1.2):=fun z=>C (cx z.1 z.2);by_cases e:a.1.1=b.1.1;have:a.1.2≠b.1.2:=fun z=>ne ⟨e,z⟩;exact .inr ⟨e,by lia⟩;exact .inl (by lia);intro h;have lt:rs.Pairwise fun a b=>rkn a<rkn b:=h.imp_of_mem fun {a b} y x z=>zn2 (ok a y) (ok b x) z;refine⟨?_,?_⟩;refine List.Perm.eq_of_pairwise (le:=fun a b=>rkn a<=rkn b) (fun a b y x G C=>zoS (ok a y) (ok b (pm.mem_iff.mp x)) (by lia)) (lt.imp fun z=>fh z) pw pm.symm;rw[eh,bt];refine h.imp fun {a b} z e=>?_;unfold bkLt at z;rw[e]at z;lia
theorem zrW{rs:RL}:(kR rs).map prT=rD rs:=by unfold kR rD prT;rw[bR];rfl
end L2
namespace Bd
open PySem PySem.W PySem.Calls L2 PyProof.Rows
structure ZZ where
 P:aO
 w:br
 K:qF
 mg:Str->Option ae
 base:ba
def FQ(Z:ZZ)(x:Str)(st:dE)(ps:List Str)(k:Nat)(l:Sp):Prop:=Fq Z.P Z.w Z.K Z.mg Z.base x st ps k l
theorem okQ{Z:ZZ}{x:Str}{st:dE}{ps N:List Str}{k m:Nat}{g:GD}(D:Dq Z.K Z.mg x st ps)(S:Qs N ps (JE st))(y:m=ps.length)
  (v:∀(f:af) (l:ae) (A:bc) (outer:List Env) (s:ak) (H:Hp) (E:XK),Room k (A.deeper (envOfC x (JE st) s.heap.objs.size f l))->∃d,DSs (cxOf CX0 Z.P Z.w Z.K Z.mg Z.base N x (JE st) f l A outer s H E).nox (J1 st) d /\
   ∀ts n R,ts.length=m->g ts n R->d { nx:=fun _ C=>R .none C,rt:=R } (JV N ts) n):FQ Z x st ps (k+1) (spD Z.K m g):=by
 obtain⟨f,fd,D⟩:=D;exact⟨f,fd,D,D.okD S y fun l A outer s H E u=>v f l A outer s H E u⟩
theorem bnd1{x:Str}{st:dE}{a:Str}(h:∀(kV doc pm:ae) (an:Option af) (l ct u:ae),bindArgs (dJ x x (Qy st) (J1 st) (JE st) .none kV doc pm an l ct) ⟨[u],[]⟩=pure [(a,u)]):BndA x st [a]:=fun _ _ _ _ _ _ y v=>by obtain⟨_,rfl⟩:=len1 v;exact h ..
theorem bnd2{x:Str}{st:dE}{a b:Str}(h:∀(kV doc pm:ae) (an:Option af) (l ct u v:ae),bindArgs (dJ x x (Qy st) (J1 st) (JE st) .none kV doc pm an l ct) ⟨[u,v],[]⟩=pure [(a,u),(b,v)]):BndA x st [a,b]:=fun _ _ _ _ _ _ C y=>by obtain⟨_,_,rfl⟩:=len2 y;exact h ..
theorem bnd3{x:Str}{st:dE}{a b c:Str}(h:∀(kV doc pm:ae) (an:Option af) (l ct u v y:ae),bindArgs (dJ x x (Qy st) (J1 st) (JE st) .none kV doc pm an l ct) ⟨[u,v,y],[]⟩=pure [(a,u),(b,v),(c,y)]):BndA x st [a,b,c]:=fun _ _ _ _ _ _ G C=>by obtain⟨_,_,_,rfl⟩:=len3 C;exact h ..
def JU(h:ba):qF:=(bY h.objs.size).filterMap fun a=>(h.get? a).map fun o=>(a,o)
theorem zlf{h:ba}:∀{x:List af}{a:af},a∈x->(x.filterMap fun a=>(h.get? a).map fun o=>(a,o)).lookup a=h.get? a\/h.get? a=none
 | [],_,m=>nomatch m
 | b::x,a,m=>by
  by_cases e:a=b;subst e;cases g:h.get? a with
  | none=>exact .inr rfl
  | some o=>exact .inl (by rw[cI];simp[g,cF])
  have y:a∈x:=(aC.mp m).resolve_left e;rcases zlf (h:=h) y with z|z;refine .inl ?_;rw[cI];cases g:h.get? b with
  | none=>exact z
  | some o =>
   have:(a == b)=false:=by simpa using e
   simp only[eF];rw[cF,this];exact z
  exact .inr z
theorem ZA{h:ba}{a:af}{o:Obj}(e:h.get? a=some o):(JU h).lookup a=some o:=by have m:a∈bY h.objs.size:=dO.mpr (ax e);rcases zlf (h:=h) m with z|z;exact z.trans e;rw[e]at z;cases z
theorem zf4{h:ba}:(JU h).In h:=fun a o e=>by
 have key:∀(v:List af),(v.filterMap fun a=>(h.get? a).map fun o=>(a,o)).lookup a=some o->h.get? a=some o:=by
  intro v;induction v with
  | nil=>intro z;cases z
  | cons b v x =>
   intro z;rw[cI]at z;cases g:h.get? b with
   | none=>rw[g]at z;exact x z
   | some y =>
    rw[g]at z;simp only[eF,cF]at z;cases q:a == b with
    | true=>rw[q]at z;cases z;rw[eq_of_beq q];exact g
    | false=>rw[q]at z;exact x z
 exact key _ e
def Z4:dE->Bool
 | .FunctionDef ..=>true
 | _=>false
def defName:dE->Str
 | .FunctionDef n _ _ _ _ _ _ _ _ _=>n
 | _=>aN ""
def zs5:dE->Pos
 | .FunctionDef _ _ _ _ _ _ _ _ _ p=>p
 | _=>⟨0,0,0,0⟩
def recD(st:dE):DefRec:=⟨defName st,Qy st,J1 st,JE st,zs5 st⟩
theorem getD_mem{l:List dE}{i:Nat}(h:Z4 (l.getD i (.Pass ⟨0,0,0,0⟩))=true):l.getD i (.Pass ⟨0,0,0,0⟩)∈l:=by
 rw[aM]at h ⊢;cases e:l[i]? with
 | none=>rw[e]at h;cases h
 | some s=>exact aB e
section
variable{q:aO}{loose:List Str}{HN:nM->Option ae}{mg mb:qM}{h:ba}{x:Str}{st:dE}{ps:List Str}
theorem zmt{cd:ae}{n:Str}(c:h.CodeRec cd n):gy (JU h) cd n=true:=by
 obtain⟨a,o,l,t,rfl,g,d,e⟩:=c;unfold gy;dsimp only;rw[ZA g];obtain⟨C,v,u,y⟩:=o;cases(show u=_ from d);have l2:l.toList[1]?=some (.str n t):=by simpa using e
 dsimp only;match hv:l.toList,l2 with
 | [],l2=>simp at l2
 | [_],l2=>simp at l2
 | a::b::r,l2 =>
  have:b=.str n t:=by simpa using l2
  subst this;simp
end
end Bd
namespace L2
open PySem PySem.Spec PyProof PyProof.Rows
theorem zj8{a:af}{ep:Nat}:ZDO a [] ep=KDO a [] ep:=by unfold ZDO KDO;congr 1;funext h;have e:∀l:List d8,bP entZ [] l↔bP entI [] l:=fun l=>⟨fun h=>by cases h;exact .nil,fun h=>by cases h;exact .nil⟩;simp only[e,dM,bK,List.nodup_nil]
theorem zp_{ks:KT2}{l:List (Int×ab)}(e:Jq ks=Yq l):ks=[]/\l=[]:=by
 cases ks with
 | nil=>cases l with
  | nil=>exact⟨rfl,rfl⟩
  | cons _ _=>cases e
 | cons a ks=>cases l with
  | nil=>cases e
  | cons b l =>have h:=(mn (eR (show(blkT a.1,a.2)::Jq ks=(bo b.1,b.2)::Yq l from e)).1).1;cases h
theorem ziE{α:Type}[DecidableEq α]:∀{xs ys:List α},xs.Nodup->(∀x∈xs,x∈ys)->xs.length<=ys.length
 | [],_,_,_=>bX _
 | x::xs,ys,nd,h=>by have l:=cC.mp nd;have:=ziE (xs:=xs) (ys:=ys.erase x) l.2 fun y o=>(mj (by rintro rfl;exact l.1 o)).mpr (h y (by simp[o]));have hx:=h x (by simp);have e:=iN hx;have:=kQ hx;rw[aE];lia
abbrev BL:=List (Int×Int)
theorem zr8{xs:qD}{k:Nat}{x:ab}{R:ab->Prop}(e:xs[k]?=some x)(h:R x):oIx (.list xs) (.int (k:Int)) R:=by
 have o:k<xs.length:=by rcases bw k xs.length with z|z;exact z;rw[bp z]at e;cases e
 rw[UL (x:=x)];exact h;unfold atI ixN;have:((0:Int)<=(k:Int)):=by lia
 have:((k:Int)<(xs.length:Int)):=by lia
 have e2:xs[k]=x:=by rw[ah o]at e;exact au e
 simp[o,e2]
section
variable{prog:aO}{w:br}{A:bc}{E:qV}{s:ak}
theorem zkE{d:af}{es:Array d8}{ep:Nat}{Q:qV}(I:(d == sysModules)=false)(G:UM s.heap d es ep)
  (C:Q (.ref s.heap.objs.size) { s with heap:=s.heap.push { cls:=.type "dict_keyiterator",data:=.fields #[.ref d,.int 0 0,.int es.size 0,.int ep 0] } }):wpAny (model prog w) A (pyIter (.ref d)) Q E s:=by
 obtain⟨x,o,v,u⟩:=G;have ty:s.TypeIs (.ref d) "dict":=⟨x,o,v.1⟩;refine nN ty kW (cG kW ty PySem.F.entry_dict_iter ?_ (PySem.F.args_dict_iter_1 _));unfold dh.«dict.__iter__»;refine aa ?_;unfold rG;refine aa (lL ty ?_);show wpAny _ _ (pure (aX d)) _ _ s;refine ag ?_;show wpAny _ _ (lN d >>= _) _ _ s;unfold lN;have ns:¬((d == sysModules)=true):=by rw[I];exact aL
 rw[if_neg ns];refine aa (ag (aa (gM o u (aa (lE o u ?_)))));exact aa (df (ag ⟨_,rfl,"dict_keyiterator",_,⟨_,aA _ rfl,rfl⟩,cc.lookup,by simpa[rawInt] using C⟩))
theorem zkF{it d:af}{i ep:Nat}{es:Array d8}{e:d8}{Q:Option ae->ak->Prop}(hi:s.heap.IsKeyIter it d i es.size ep)(J:UM s.heap d es ep)(hx:es[i]?=some e)
  (N:∀h',h'.IsKeyIter it d (i+1) es.size ep->c9 it s.heap h'->Q (some e.key) { s with heap:=h' }):wpAny (model prog w) A (pyNext (.ref it)) Q E s:=by
 obtain⟨o,C,hc,hd⟩:=id hi;obtain⟨R,v,L,x⟩:=J;have ty:=hi.typeIs;have lt:i<es.size:=(Array.getElem?_eq_some_iff.mp hx).1;unfold pyNext;refine aa (fV ?_);refine dU (name:=aN "__next__") ty cc ?_;refine cG cc ty fY ?_ (fP _);refine aa (ag (aa (aa ?_)));refine aa (dR ty (ag (aa (pT C hd ?_))));have G:hW "dict_keyiterator" = false:=by decide
 simp only[G,aI,if_false];show wpAny _ _ (if (aX d == fz)=true then _ else _) _ _ s;have nd:¬((aX d == fz)=true):=aL;rw[if_neg nd];refine aa (ag (aa (gM v x ?_)));rw[if_neg (by simp)];refine aa (ag (aa (lE v x ?_)));rw[if_neg (by simp)];refine ag ?_;simp only[show ¬((i:Int)<0) from by lia,if_false,dm,hx];refine aa (aa (dR ty (ag (aa (lO ty ?_)))));show wpAny _ _ (setField (.ref it) 1 (rawInt ((i:Int)+1)) >>= _) _ _ s;refine aa (mo C hd (by simp) ?_);have l:(s.heap.update it (mU (·.setIfInBounds 1 (rawInt ((i:Int)+1))))).IsKeyIter it d (i+1) es.size ep :=
  ⟨_,gR _ C (lP (gh hd _)),(nQ ..).trans hc,by rw[gh hd];simp[rawInt]⟩
 refine aa (bQ (aa (lO (s:={ s with heap:=s.heap.update it (mU (·.setIfInBounds 1 (rawInt ((i:Int)+1)))) }) l.typeIs ?_)));show wpAny _ _ (pure e.key) _ _ _;exact ag (ag ⟨_,rfl,ag (N _ l (eV ..))⟩)
theorem zm7{it d:af}{i ep:Nat}{es:Array d8}{Q:Option ae->ak->Prop}(R:A.handled=none)(hi:s.heap.IsKeyIter it d i es.size ep)(J:UM s.heap d es ep)(hx:es.size<=i)
  (N:∀h',oH it s.heap h'->Q none { s with heap:=h' }):wpAny (model prog w) A (pyNext (.ref it)) Q E s:=by
 obtain⟨o,G,hc,hd⟩:=id hi;obtain⟨S,l,L,v⟩:=J;have ty:=hi.typeIs;unfold pyNext;refine aa (fV ?_);refine dU (name:=aN "__next__") ty cc ?_;refine cG cc ty fY ?_ (fP _);refine aa (ag (aa (aa ?_)));refine aa (dR ty (ag (aa (pT G hd ?_))));have I:hW "dict_keyiterator" = false:=by decide
 simp only[I,aI,if_false];show wpAny _ _ (if (aX d == fz)=true then _ else _) _ _ s;have nd:¬((aX d == fz)=true):=aL;rw[if_neg nd];refine aa (ag (aa (gM l v ?_)));rw[if_neg (by simp)];refine aa (ag (aa (lE l v ?_)));rw[if_neg (by simp)];refine ag ?_;simp only[show ¬((i:Int)<0) from by lia,if_false,dm,kU hx];refine aa (aa (dR ty (ag ?_)));show wpAny _ _ (setField (.ref it) 0 .none >>= _) _ _ s;refine aa (mo G hd (by simp) ?_);show wpAny _ _ (newExc (.type "StopIteration") [] >>= _) _ _ _;refine aa ?_;simp only[newExc,newTuple];refine aa (df ?_ (by size_fits));refine aa (m:=firstArgMember _ _) (mh (a:=fz) (by first|rfl|(simp only[firstArgMember];rfl)) ?_);refine df ?_ (by size_fits);simp only[raiseNew];refine aa (wpAny_handled ?_);have C:A.in1.handled=none:=R;rw[C];refine aa (ag (wpAny_throw ?_));refine aa (kg (T:="StopIteration") (b:=true) ⟨_,aA _ rfl,rfl⟩ pU (ag (N _ ?_)));exact(((eV ..).extBut.push _).push _)
end
theorem zep:∀{ks l:KT2},Jq ks=Jq l->ks=l
 | [],[],_=>rfl
 | [],_::_,e=>by cases e
 | _::_,[],e=>by cases e
 | (a,b)::ks,(c,d)::l,e=>by have h:=eR (show(blkT a,b)::Jq ks=(blkT c,d)::Jq l from e);have o:=mn h.1;have u:=yg o.1;have v:=pV (eR u).1;have e2:=pV (eR (eR u).2).1;rw[o.2,zep h.2,cx v e2]
section
variable{K:qF}{hd:Option af}{O:af->Prop}{H:Hp}
theorem Rep.dtI{v:V}{ks:KT2}(h:Rep K hd O H v (.dict (Jq ks))):∃a zs ep,v=.ref a/\H a=some (ZDO a zs ep)/\¬O a/\Jj K hd O H zs ks:=by
 generalize e:oA (Jq ks)=t at h;cases h with
 | @dct a ep h o =>
  have e:=cD e;cases ks with
  | nil=>exact⟨a,[],ep,rfl,by rw[zj8];exact h,o,.nil⟩
  | cons _ _=>cases e
 | @dcK a kvs ep ks' ps h o r e' =>have e:=cD e;rw[e']at e;obtain⟨rfl,rfl⟩:=zp_ e;cases r;exact⟨a,[],ep,rfl,by rw[zj8];exact h,o,.nil⟩
 | @dcT a zs ep ks' ps h o r e' =>have e:=cD e;rw[e']at e;rw[zep e];exact⟨a,zs,ep,rfl,h,o,r⟩
 | hand _=>exact(dict_noT (cD e).symm).elim
 | scr _ _=>exact(dict_noT (cD e).symm).elim
 | scrS _=>exact(dict_noT (cD e).symm).elim
 | exc _ _=>exact(dict_noT (cD e).symm).elim
 | _=>cases e
theorem RepT.dtI{v:V}{ks:KT2}(h:RepT K hd O H v (.dict (Jq ks))):∃a zs ep,v=.ref a/\H a=some (ZDO a zs ep)/\Jj K hd O H zs ks:=by rcases h with h|⟨p,C,ds,rfl,u,l,o,y⟩|⟨p,zs,ep,x,rfl,u,l,o,y⟩;obtain⟨a,zs,ep,e,l,_,o⟩:=h.dtI;exact⟨a,zs,ep,e,l,o⟩;cases u;rw[zep (cD u)];exact⟨p,zs,ep,rfl,l,o⟩
def valZ(zs:ZT)(k:Int×Int):Option V:=(zs.find? fun z=>decide (z.1=k)).map (·.2.2)
theorem Jj.val{zs:ZT}{ks:KT2}(r:Jj K hd O H zs ks){k:Int×Int}{d:ab}(h:valT ks k=some d):∃v,valZ zs k=some v/\Rep K hd O H v d:=by
 induction zs generalizing ks with
 | nil=>cases r;simp[valT]at h
 | cons y zs l =>
  cases r with
  | @cons k' q v' d' zs ks h1 h2 r =>unfold valT at h;unfold valZ;rw[cg]at h ⊢;dsimp only at h ⊢;by_cases e:k'=k;rw[decide_eq_true e]at h ⊢;cases h;exact⟨v',rfl,h2⟩;rw[decide_eq_false e]at h ⊢;exact l r h
theorem znI{ks:KT2}{k:Int×Int}:(ks.any ((fun z=>decide (z=k))∘fun x=>x.1))=(ks.find? fun z=>decide (z.1=k)).isSome:=by
 induction ks with
 | nil=>rfl
 | cons y ks l =>rw[sE,cg];show(decide (y.1=k)||_)=_;cases decide (y.1=k);exact l;rfl
theorem Jj.anyK{zs:ZT}{ks:KT2}(r:Jj K hd O H zs ks)(k:Int×Int):(zs.any fun z=>decide (z.1=k))=(valT ks k).isSome:=by
 have l:(zs.any fun z=>decide (z.1=k))=(zs.map (·.1)).any fun z=>decide (z=k):=by rw[hZ];rfl
 rw[l,r.keys,hZ];unfold valT;rw[Option.isSome_map];exact znI
end
theorem zqB{zs:ZT}{xs:List (List Key×af×ae)}(r:bP ZX zs xs){k:Int×Int}{v:V}(h:valZ zs k=some v):∃p,atKey xs (kL k)=some p/\RelV v p.2:=by
 induction r with
 | nil=>simp[valZ]at h
 | @cons z x zs xs h1 t ih =>
  unfold valZ at h;rw[cg]at h;by_cases e:z.1=k;rw[decide_eq_true e]at h;cases h;have:x.1=kL k:=by rw[h1.1,e]
  exact⟨x.2,by simp[atKey,cg,this],h1.2.2⟩;rw[decide_eq_false e]at h;have:¬x.1=kL k:=fun l=>e (Z5.mp (h1.1.symm.trans l));obtain⟨p,p1,p2⟩:=ih h;refine⟨p,?_,p2⟩;rw[<- p1];simp[atKey,cg,this]
section
variable{X:Cx}{a b iter tg:aQ}{da db dd:DTE}{pos p:Pos}{k:Nat}
def zth(K:qF)(H:Hp)(y:V)(k:Int×Int):Prop:=∃b,y=.ref b/\SqT K H b [.int k.1,.int k.2]
def zti(K:qF)(H:Hp)(x:V)(zs:ZT):Prop:=∃a ep,x=.ref a/\H a=some (ZDO a zs ep)/\∀z∈zs,SqT K H z.2.1 [.int z.1.1,.int z.1.2]
def rInT(K:qF)(neg:Bool):R2:=fun x y H Q=>∃k zs,zth K H x k/\zti K H y zs/\Q (.bl (if neg then !(zs.any fun z=>decide (z.1=k)) else zs.any fun z=>decide (z.1=k))) H
theorem zrG(L:X.A.units+1<cLine):OpR X (compareOp .In) (rInT X.K false):=by intro pins s σ H x y v u Q I o N h;obtain⟨k,zs,⟨b,rfl,sq⟩,⟨a,ep,rfl,J,G⟩,q⟩:=h;cases(show v=aX b from o);cases(show u=aX a from N);obtain⟨C,R,xs,x1,dd⟩:=Y0 I J G;refine wpAny_in_heap (gf L) (Us (k:=kL k) I sq) C dd ?_;rw[zj7 x1];exact⟨.bl _,H,I.tok _,rfl,q⟩
theorem zkX(R:X.A.units+1<cLine):OpR X (compareOp .NotIn) (rInT X.K true):=by intro pins s σ H x y v u Q I C S h;obtain⟨k,zs,⟨b,rfl,sq⟩,⟨a,ep,rfl,L,J⟩,q⟩:=h;cases(show v=aX b from C);cases(show u=aX a from S);obtain⟨G,U,xs,x1,dd⟩:=Y0 I L J;refine wpAny_notIn_heap (gf R) (Us (k:=kL k) I sq) G dd ?_;rw[zj7 x1];exact⟨.bl _,H,I.tok _,rfl,q⟩
def oInT(neg:Bool):G2:=fun x y R=>∃(k:Int×Int) (ks:KT2),x=.tuple [.int k.1,.int k.2]/\y=.dict (Jq ks)/\R (.bool (if neg then !(valT ks k).isSome else(valT ks k).isSome))
theorem RepT.bkI{K:qF}{hd:Option af}{O:af->Prop}{H:Hp}{v:V}{a b:Int}(h:RepT K hd O H v (.tuple [.int a,.int b])):∃q,v=.ref q/\SqT K H q [.int a,.int b]:=by rcases h with h|⟨p,I,ds,rfl,o,C,y,G⟩|⟨p,zs,ep,x,rfl,o,C,y,G⟩;exact h.bkI;cases o;cases o
theorem zlQ{neg:Bool}:Gp2 X (rInT X.K neg) (oInT neg):=by intro hd O H x y t u Q R dom o G h v;obtain⟨k,ks,rfl,rfl,r⟩:=h;obtain⟨a,zs,ep,rfl,C,rk⟩:=G.dtI;refine⟨k,zs,o.bkI,⟨a,ep,rfl,C,rk.sq⟩,?_⟩;rw[rk.anyK k];exact v _ _ H r (Same.refl H) (.bl _)
theorem Uh{k:Int×Int}{ks:KT2}{neg:Bool}{R:ab->Prop}(h:R (.bool (if neg then !(valT ks k).isSome else(valT ks k).isSome))):oInT neg (.tuple [.int k.1,.int k.2]) (.dict (Jq ks)) R:=⟨k,ks,rfl,rfl,h⟩
def rIxZ(K:qF):R2:=fun x y H Q=>∃k zs v,zth K H y k/\zti K H x zs/\valZ zs k=some v/\Q v H
theorem zrF(J:X.A.units+1<cLine){pins:qO}{s:ak}{σ:St}{H:Hp}{x y:V}{v u:ae}{Q:VK}{E:qV}(I:Inv X pins σ H s)(l:RelV x v)(L:RelV y u)(h:rIxZ X.K x y H Q):(∃a,v=.ref a/\s.TypeIs (.ref a) "dict")/\wpAny (model X.prog X.w) X.A (getItem v u) (EP X pins σ Q) E s:=by obtain⟨k,zs,w,⟨b,rfl,sq⟩,⟨a,ep,rfl,G,C⟩,N,q⟩:=h;cases(show v=aX a from l);cases(show u=aX b from L);obtain⟨S,R,xs,x1,dd⟩:=Y0 I G C;obtain⟨p,p1,p2⟩:=zqB x1 N;refine⟨⟨a,rfl,?_⟩,wpAny_getItem_heap (gf J) (Us (k:=kL k) I sq) dd p1 ⟨w,H,I.tok _,p2,q⟩⟩;obtain⟨o,g,c⟩:=zl8 dd;exact⟨o,g,c⟩
theorem zp5{zs:ZT}{es:List d8}(r:bP entZ zs es){i:Nat}{z:(Int×Int)×af×V}(h:zs[i]?=some z):∃e,es[i]?=some e/\e.key=.ref z.2.1:=by
 induction r generalizing i with
 | nil=>simp at h
 | @cons y e zs es h1 t ih =>
  cases i with
  | zero=>simp at h;subst h;exact⟨e,by simp,h1.2.1⟩
  | succ i=>simpa using ih (by simpa using h)
end
section
variable{X:Cx}{a b e:aQ}{da db d:DTE}{pos p:Pos}{k:Nat}{x:Str}{ta tb:TE}
theorem zrp(L:X.A.units+1<cLine)(l:PE X a ta)(hi:PE X b tb)(v:NoSl b):PE X (.Subscript a b pos) (tOp (rIxZ X.K) ta tb):=by intro pins s σ H Q I h;refine zoJ PySem.F.slot_dict_getitem.lookup v (thn (l pins s σ H _ I h) fun u s1 ⟨x,C,U,o,Y⟩=>thn (hi pins s1 σ C _ U Y) fun iv s2 ⟨y,Z,R,N,G⟩=>?_);obtain⟨⟨a,J,ty⟩,w⟩:=zrF (E:=X.xe) L R o N G;subst J;exact⟨ty,w⟩
def oIxZ:G2:=fun x y R=>∃(k:Int×Int) (ks:KT2) (d:ab),x=.dict (Jq ks)/\y=.tuple [.int k.1,.int k.2]/\valT ks k=some d/\R d
theorem zsI:Gp2 X (rIxZ X.K) oIxZ:=by intro hd O H x y t u Q R dom o J h C;obtain⟨k,ks,d,rfl,rfl,L,r⟩:=h;obtain⟨a,zs,ep,rfl,I,rk⟩:=o.dtI;obtain⟨v,G,l⟩:=rk.val L;exact⟨k,zs,v,J.bkI,⟨a,ep,rfl,I,rk.sq⟩,G,C _ _ H r (Same.refl H) l⟩
theorem QQ(hu:X.A.units+1<cLine)(o:DL X a da)(l:DL X b db)(U:NoSl b:=by intro _ _;rfl):DE X (.Subscript a b pos) (dOp oIxZ da db):=by obtain⟨ta,pa,o⟩:=o;obtain⟨tb,L,l⟩:=l;refine⟨_,zrp hu pa L U,fun C ρ σ H n Q R S h N=>?_⟩;refine two o l S h fun x y Y v w J r2 e G q1 q2=>?_;exact zsI C.hd (Own C ρ σ) J v w x y Q _ (fun p=>G.dom) q1 q2 r2 fun z u H' Z I rp=>N z Y u H' Z (e.trans I.ext) (G.hnd.same I) rp
theorem QP{k:Int×Int}{ks:KT2}{d:ab}{R:ab->Prop}(o:valT ks k=some d)(h:R d):oIxZ (.dict (Jq ks)) (.tuple [.int k.1,.int k.2]) R:=⟨k,ks,d,rfl,rfl,o,h⟩
def dDtt(i:Nat):DTE:=fun l n R=>match l[i]? with|some (some (.dtt ks))=>R (.dict (Jq ks)) n|_=>False
theorem zp9(i:Nat){J:Pos}(Y:X.N[i]?=some x:=by rfl)(Z:Vis X.env.scope x:=by walk_at "V")(hd:(x == ("__debug__":Str))=false:=by rfl)
  (v:(x == ("__classdict__":Str))=false:=by rfl):DS X (.Return (some (.Name x J)) pos) (sRet (dDtt i)):=by
 refine⟨_,YB (Qe Y Z hd v),fun C ρ σ H n D D' S h g=>?_⟩;unfold sRet dDtt at h;split at h;rename_i ks e;obtain⟨p,zs,ep,U,I,y,G⟩:=S.dtt i ks e;exact⟨.ref p,U,g.rt _ n _ H h S.hnd (fun a o L _ _=>L) (.dcT I G (y.mono (fun _ _ _ z=>.inl z) fun _ _ _ z=>z) rfl)⟩;exact h.elim
instance zvV {i:Nat}{ks:KT2}{ρ:En}{n:Nat}{R:qN}[h:GetN ρ i (some (.dtt ks))]:Stp (dDtt i ρ n R) (R (.dict (Jq ks)) n):=⟨fun k=>by unfold dDtt;rw[h.e];exact k⟩
end
abbrev PR:=List ((Int×Int)×(Int×Int))
def twoD(q:Int×Int):ab:=.tuple [.int q.1,.int q.2]
def prK(l:PR):KT2:=l.map fun q=>(q.1,twoD q.2)
def valP(l:PR)(k:Int×Int):Option (Int×Int):=(l.find? fun q=>decide (q.1=k)).map (·.2)
theorem QN{l:PR}{k:Int×Int}:valT (prK l) k=(valP l k).map twoD:=by
 unfold valT valP prK;induction l with
 | nil=>rfl
 | cons q l o =>rw[aG,cg,cg];dsimp only;cases decide (q.1=k);exact o;rfl
abbrev upH(b:Int×Int):Int×Int:=(bV b.1 (2 ^ (b.2 - 1).toNat),b.2 - 1)
abbrev loH(b:Int×Int):Int×Int:=(b.1,b.2 - 1)
def bpD(no al:Bool)(l:PR)(b:Int×Int):Option (Int×Int) :=
 if no then some (0,1) else if al then some (1,0) else match valP l (loH b),valP l (upH b) with
  | some x,some y=>some (if x.2+y.2+1<x.1+y.1 then x.2+y.2+1 else x.1+y.1,if x.1+y.1+1<x.2+y.2 then x.1+y.1+1 else x.2+y.2)
  | _,_=>none
def optD:Option (Int×Int)->ab|some q=>twoD q|none=>.none
def HasN(ps:qB)(b:Int×Int):Prop:=∀p∈ps,eB p<=b.1\/eB b<=p.1
def HasA(ps:qB)(b:Int×Int):Prop:=∃p∈ps,p.1<=b.1/\eB b<=eB p
theorem zfJ{ps:qB}{b:Int×Int}(h:b.2=0):HasN ps b\/HasA ps b:=by
 have e:eB b=b.1+1:=by unfold eB;rw[h];rfl
 by_cases q:∃p∈ps,p.1<=b.1/\b.1<eB p;obtain⟨p,o,u,v⟩:=q;exact .inr ⟨p,o,u,by lia⟩;refine .inl fun p o=>?_;by_cases z:eB p<=b.1;exact .inl z;refine .inr ?_;by_cases y:p.1<=b.1;exact absurd ⟨p,o,y,by lia⟩ q;lia
section
variable{bits:Int}{ps bs:BL}{b c:Int×Int}
theorem up_eq(B:IsBk bits b.1 b.2)(h:1<=b.2):upH b=(b.1+2 ^ (b.2 - 1).toNat,b.2 - 1):=by
 have e:=B.x1 (by lia);have p:(2:Int) ^ b.2.toNat=2*2 ^ (b.2 - 1).toNat:=by
  have:b.2.toNat=(b.2 - 1).toNat+1:=by lia
  rw[this,aY];lia
 unfold upH;rw[e,p];congr 1;lia
theorem Zh(h:1<=b.2):(2:Int) ^ b.2.toNat=2*2 ^ (b.2 - 1).toNat:=by
 have:b.2.toNat=(b.2 - 1).toNat+1:=by lia
 rw[this,aY];lia
theorem zuP(B:IsBk bits b.1 b.2)(h:1<=b.2):IsBk bits (loH b).1 (loH b).2:=by
 obtain⟨h0,l,k,u,e,v⟩:=B;refine⟨by show 0<=b.2 - 1;lia,by show b.2 - 1<=bits;lia,2*k,by lia,?_,?_⟩;show b.1=2*k*2 ^ (b.2 - 1).toNat;rw[e,Zh h,bZ 2 k,ck];show 2*k<2 ^ (bits - (b.2 - 1)).toNat;have:(bits - (b.2 - 1)).toNat=(bits - b.2).toNat+1:=by lia
 rw[this,aY];lia
theorem ztX(B:IsBk bits b.1 b.2)(h:1<=b.2):IsBk bits (upH b).1 (upH b).2:=by
 rw[up_eq B h];obtain⟨h0,l,k,u,e,v⟩:=B;refine⟨by show 0<=b.2 - 1;lia,by show b.2 - 1<=bits;lia,2*k+1,by lia,?_,?_⟩;show b.1+2 ^ (b.2 - 1).toNat=(2*k+1)*2 ^ (b.2 - 1).toNat;rw[e,Zh h,cA,bI,bZ 2 k,ck];show 2*k+1<2 ^ (bits - (b.2 - 1)).toNat;have:(bits - (b.2 - 1)).toNat=(bits - b.2).toNat+1:=by lia
 rw[this,aY];lia
theorem zkq(B:IsBk bits b.1 b.2)(C:IsBk bits c.1 c.2)(h:b.2=c.2){x:Int}(x1:b.1<=x/\x<eB b)(l:c.1<=x/\x<eB c):b=c:=by
 have e:eB b - b.1=eB c - c.1:=by unfold eB;rw[h];lia
 rcases Zs B C x1 l with z|z;exact cx (by lia) h;exact cx (by lia) h
theorem ziW(B:IsBk bits b.1 b.2)(C:IsBk bits c.1 c.2)(v:1<=b.2)(hc:1<=c.2){d:Int×Int}(l:d=loH b\/d=upH b)(u:d=loH c\/d=upH c):b=c:=by
 have G:=Zh (b:=b) v;have pc:=Zh (b:=c) hc;have L:=Bd.Uc (b.2 - 1).toNat;have I:=Bd.Uc (c.2 - 1).toNat;rw[up_eq B v]at l;rw[up_eq C hc]at u;have J:d.2=b.2 - 1:=by rcases l with rfl|rfl <;> rfl
 have e2:d.2=c.2 - 1:=by rcases u with rfl|rfl <;> rfl
 have x:b.1<=d.1/\d.1<eB b:=by unfold eB;rcases l with rfl|rfl <;> constructor <;> dsimp only <;> lia
 have y:c.1<=d.1/\d.1<eB c:=by unfold eB;rcases u with rfl|rfl <;> constructor <;> dsimp only <;> lia
 exact zkq B C (by lia) x y
def Prt(ps:BL)(b:Int×Int):Prop:=¬HasN ps b/\¬HasA ps b
theorem Prt.pos(h:Prt ps b)(B:IsBk bits b.1 b.2):1<=b.2:=by have h0:=B.1;by_cases z:b.2=0;rcases zfJ (ps:=ps) z with q|q;exact absurd q h.1;exact absurd q h.2;lia
theorem Prt.inn(h:Prt ps b)(B:IsBk bits b.1 b.2)(P:Bks bits ps):∃p∈ps,b.1<=p.1/\p.1<eB b:=by
 refine bF fun no=>h.1 fun p l=>?_;refine bF fun z=>?_;have pp:=Qd p;have o:=Qd b;have x1:b.1<eB p:=by lia
 have u:p.1<eB b:=by lia
 by_cases q:b.1<=p.1;exact no ⟨p,l,q,u⟩;rcases Zs B (P p l) (x:=b.1) ⟨aK _,o⟩ ⟨by lia,x1⟩ with z|z;lia;exact h.2 ⟨p,l,z.1,z.2.1⟩
structure PInv(bits:Int)(ps bs:BL)(k:Nat):Prop where
 bk:Bks bits bs
 nd:bs.Nodup
 root:bs[0]?=some (0,bits)
 par:∀c∈bs,c=(0,bits)\/∃(j:Nat) (b:Int×Int),j<k/\bs[j]?=some b/\Prt ps b/\(c=loH b\/c=upH b)
 kid:∀(j:Nat) (b:Int×Int),j<k->bs[j]?=some b->Prt ps b->(∃i,j<i/\bs[i]?=some (loH b))/\∃i,j<i/\bs[i]?=some (upH b)
 cnt:∃ds:BL,ds.Nodup/\(∀d∈ds,Prt ps d/\∃j,j<k/\bs[j]?=some d)/\bs.length=1+2*ds.length
theorem PInv.start(u:0<=bits):PInv bits ps [(0,bits)] 0 where
 bk:=fun b o=>by cases aJ.mp o;exact⟨u,aK _,0,aK _,by simp,Bd.Uc _⟩
 nd:=by simp
 root:=rfl
 par:=fun c hc=>.inl (aJ.mp hc)
 kid:=fun j b v=>by lia
 cnt:=⟨[],.nil,(fun d h=>nomatch h),rfl⟩
theorem PInv.no{k:Nat}(I:PInv bits ps bs k)(v:bs[k]?=some b)(h:¬Prt ps b):PInv bits ps bs (k+1) where
 bk:=I.bk
 nd:=I.nd
 root:=I.root
 par:=fun c hc=>by rcases I.par c hc with z|⟨j,b,x,r⟩;exact .inl z;exact .inr ⟨j,b,by lia,r⟩
 kid:=fun j c J hc o=>by by_cases e:j=k;subst e;rw[v]at hc;cases hc;exact absurd o h;exact I.kid j c (by lia) hc o
 cnt:=by obtain⟨ds,C,u,G⟩:=I.cnt;exact⟨ds,C,fun d hd=>by obtain⟨a,j,x,y⟩:=u d hd;exact⟨a,j,by lia,y⟩,G⟩
theorem PInv.yes{k:Nat}(b0:0<=bits)(I:PInv bits ps bs k)(v:bs[k]?=some b)(h:Prt ps b):PInv bits ps (bs++[loH b,upH b]) (k+1):=by
 have R:=(ao.mp v).1;have B:=I.bk b (aB v);have G:=h.pos B;have pb:=Zh (b:=b) G;have qb:=Bd.Uc (b.2 - 1).toNat;have old:∀{j:Nat} {c:Int×Int},bs[j]?=some c->(bs++[loH b,upH b])[j]?=some c:=fun {j c} L=>by rw[bu (ao.mp L).1];exact L
 have fresh:∀d,(d=loH b\/d=upH b)->d∉bs:=by
  intro d hd hm;rcases I.par d hm with z|⟨j,c,C,u,j3,j4⟩;have:d.2=b.2 - 1:=by rcases hd with rfl|rfl <;> rfl
  have e2:=B.2.1;rw[z]at this;have this:bits=b.2 - 1:=this;lia;have U:=I.bk c (aB u);have:=ziW B U G (j3.pos U) hd j4;subst this;have:=(fy (kT C R) I.nd).mp (u.trans v.symm);lia
 have ne:loH b≠upH b:=by rw[up_eq B G];intro e;have:=congrArg mw e;dsimp only at this;lia
 have l0:(bs++[loH b,upH b])[bs.length]?=some (loH b):=by simp
 have l1:(bs++[loH b,upH b])[bs.length+1]?=some (upH b):=by simp
 refine⟨?_,?_,?_,?_,?_,?_⟩;intro c hc;rcases aT.mp hc with hc|hc;exact I.bk c hc;simp only[aC,cV,or_false]at hc;rcases hc with rfl|rfl;exact zuP B G;exact ztX B G;rw[gN];refine⟨I.nd,by simp[ne],fun x hx y J e=>?_⟩;subst e;simp only[aC,cV,or_false]at J;exact fresh x J hx;exact old I.root;intro c hc;rcases aT.mp hc with hc|hc;rcases I.par c hc with z|⟨j,d,C,u,r⟩;exact .inl z;exact .inr ⟨j,d,by lia,old u,r⟩;simp only[aC,cV,or_false]at hc;exact .inr ⟨k,b,by lia,old v,h,hc⟩;intro j c L hc Z;by_cases e:j=k;subst e;have:c=b:=by have:=old v;rw[hc]at this;exact au this
 subst this;exact⟨⟨bs.length,R,l0⟩,bs.length+1,by lia,l1⟩;have jl:j<bs.length:=by lia
 rw[bu jl]at hc;obtain⟨⟨i1,a1,a2⟩,i2,c1,Y⟩:=I.kid j c (by lia) hc Z;exact⟨⟨i1,a1,old a2⟩,i2,c1,old Y⟩;obtain⟨ds,d1,S,d3⟩:=I.cnt;refine⟨ds++[b],?_,?_,by simp[d3];lia⟩;rw[gN];refine⟨d1,by simp,fun x hx y J e=>?_⟩;subst e;cases aJ.mp J;obtain⟨_,j,C,u⟩:=S _ hx;have:=(fy (kT C R) I.nd).mp (u.trans v.symm);lia;intro d hd;rcases aT.mp hd with hd|hd;obtain⟨a,j,C,u⟩:=S d hd;exact⟨a,j,by lia,old u⟩;cases aJ.mp hd;exact⟨h,k,by lia,old v⟩
end
theorem ziN{α o:Type}(ps:List o):∀xs:List α,(xs.flatMap fun h=>ps.map fun p=>(h,p)).length=xs.length*ps.length
 | []=>by simp
 | x::xs=>by rw[List.flatMap_cons,bE,ziN ps xs,aP,aE,tO,tP]
section
variable{bits:Int}{ps bs:BL}{b c:Int×Int}
theorem zkJ(L:bits<=64)(P:Bks bits ps){ds:BL}(nd:ds.Nodup)(h:∀d∈ds,Prt ps d/\IsBk bits d.1 d.2):ds.length<=65*ps.length:=by
 classical
 let g:Int×Int->Int×Int:=fun d=>if h:∃p∈ps,d.1<=p.1/\p.1<eB d then h.choose else(0,0)
 have y:∀d∈ds,g d∈ps/\d.1<=(g d).1/\(g d).1<eB d:=fun d hd=>by obtain⟨p,B⟩:=h d hd;have ex:=p.inn B P;have e:g d=ex.choose:=dif_pos ex;rw[e];exact ex.choose_spec
 have v:(ds.map fun d=>(d.2,g d)).Nodup:=by refine bt.mpr (fX ?_ nd);intro a c G hc n e;have I:=congrArg mw e;have e2:=congrArg pW e;dsimp only at I e2;have ga:=y a G;have C:=y c hc;rw[<- e2]at C;exact n (zkq (h a G).2 (h c hc).2 I ga.2 C.2)
 have:=ziE (ys:=((bY 65).map fun i:Nat=>(i:Int)).flatMap fun h=>ps.map fun p=>(h,p)) v fun x hx=>by obtain⟨d,hd,rfl⟩:=bh.mp hx;rw[oh];have B:=(h d hd).2;have h0:=B.1;have J:=B.2.1;exact⟨d.2,bh.mpr ⟨d.2.toNat,dO.mpr (by lia),by lia⟩,bh.mpr ⟨g d,(y d hd).1,rfl⟩⟩
 rw[ziN,aP,aP,dz]at this;exact this
theorem PInv.len{k:Nat}(u:bits<=64)(P:Bks bits ps)(I:PInv bits ps bs k):bs.length<=1+130*ps.length:=by
 obtain⟨ds,v,l,x⟩:=I.cnt;have:=zkJ u P v fun d hd=>by obtain⟨a,j,_,o⟩:=l d hd;exact⟨a,I.bk d (aB o)⟩
 lia
def msz(bs:BL):Nat:=(bs.map fun b=>2 ^ (b.2.toNat+1) - 1).sum
theorem zpu(xs ys:BL):msz (xs++ys)=msz xs+msz ys:=by simp[msz]
theorem zoi{k:Nat}(l:bs[k]?=some b):msz (bs.drop (k+1))<msz (bs.drop k):=by
 have o:=(ao.mp l).1;have e:bs.drop k=b::bs.drop (k+1):=by rw[bf o];rw[ah o]at l;rw[au l]
 rw[e];have:1<2 ^ (b.2.toNat+1):=Nat.one_lt_two_pow (by lia);simp only[msz,aG,sN];lia
theorem zpt{k:Nat}(l:bs[k]?=some b)(h:1<=b.2):msz ((bs++[loH b,upH b]).drop (k+1))<msz (bs.drop k):=by
 have u:=(ao.mp l).1;have e:bs.drop k=b::bs.drop (k+1):=by rw[bf u];rw[ah u]at l;rw[au l]
 rw[List.drop_append_of_le_length (by lia),zpu,e];have p:2 ^ (b.2.toNat+1)=2*2 ^ b.2.toNat:=by rw[gJ];lia
 have q:(b.2 - 1).toNat+1=b.2.toNat:=by lia
 have pos:1<=2 ^ b.2.toNat:=Nat.one_le_two_pow;simp only[msz,aG,sN,dM,List.sum_nil,q];lia
end
section
variable{prog:aO}{w:br}{A:bc}{E:qV}{s:ak}
theorem zeK{T newId T':String}{C:dh}{args:List ae}{Q:qV}
  (h1:(aZ T == aZ "type")=false)
  (h2:((pX T).bind (·.mro.findSome? fun t=>(pX t).bind fun b=>if b.noNew then some true else if b.attrs.any (·.1 == "__new__") then some false else none)).getD false=false)
  (J:∃c I,mroOf (.type T)=pure (c::I)) (x:Bind.madeBy (.type T)=pure (some newId)) (plain:plainId newId=true) (N:isSubtype (.type T') (.type T)=pure false)
  (Y:checkTypeCall T ⟨args,[]⟩=pure ()) (v:checkBuiltinCall newId ⟨.type T::args,[]⟩=pure ()) (L:entryFor table newId=some C)
  (h:wpAny (model prog w) A.in1.in1 (C ⟨.type T::args,[]⟩) (fun fin l=>∃obj,fin=Fin.done (Flow.ret obj)/\l.TypeIs obj T'/\Q obj l) E s) :
  wpAny (model prog w) A (call (.type T) args) Q E s:=by
 obtain⟨c,I,G⟩:=J;refine pG (oR ?_);show wpAny _ _ (callAny (.type T) _) _ _ _;refine ag ⟨f9 _ (by decide +kernel),f6 F.entry_type_call ?_⟩;rw[Around.under_plain (weight_type_call_type T args []) (units_type_call_type T args [])]
 repeat (any_goals (first|assumption|wp_step))
 refine fG (R:=wants (fun obj l=>l.TypeIs obj T'/\Q obj l) E) (hG plain L (mh v ?_)) fun r l u=>?_;exact cJ h (fun fin s1 ⟨obj,e,q⟩=>by subst e;exact q) (fun _ _ z=>z)
 ·cases r with
  | error e=>exact u
  | ok fl =>
   cases fl with
   | ret obj =>
    obtain⟨U,Z⟩:=u;show wpAny _ _ (isInstance obj (.type T) >>= _) _ _ l;refine aa (kg U N ?_)
    repeat (any_goals (first|assumption|wp_step))
   | _=>exact u.elim
theorem zgh{l:af}{its:Array ae}{n:Nat}{Q:qV}(x:s.heap.get? l=some { cls:=.type "list",dict:=none,data:=.seq its n,slots:=#[] }) (h:Q (.ref s.heap.objs.size) { s with heap:=s.heap.push { cls:=.type "list_reverseiterator",data:=.fields #[.ref l,.int (its.size - 1) 0] } }) :
  wpAny (model prog w) A (dh.«reversed.__new__» ⟨[.type "reversed",.ref l],[]⟩) (fun fin o=>∃obj,fin=Fin.done (Flow.ret obj)/\Q obj o) E s:=by
 have I:isSubtype (.type "reversed") (.type "reversed")=pure true:=by kernel_rfl
 have C:s.TypeIs (.ref l) "list":=⟨_,x,rfl⟩;have J:=eo.lookup;have G:=eo.bind (.ref l);unfold dh.«reversed.__new__»
 repeat (any_goals (first|assumption|wp_step))
 refine fG (R:=wants Q E) (hG eo.plain PySem.F.entry_list_reversed (eo.check _ _ _ _ _ _ _ _ C (PySem.F.args_list_reversed_1 _) (lQ l its n prog w A (wants Q E) s ⟨x,by simpa[rawInt,wants] using h⟩))) fun r s1 u=>?_;cases r with
 | error e=>exact u
 | ok fl =>
  cases fl with
  | ret v=>exact ag ⟨_,rfl,u⟩
  | _=>exact u.elim
theorem zfV{l:af}{its:Array ae}{n:Nat}{Q:qV}(o:s.heap.get? l=some { cls:=.type "list",dict:=none,data:=.seq its n,slots:=#[] }) (h:Q (.ref s.heap.objs.size) { s with heap:=s.heap.push { cls:=.type "list_reverseiterator",data:=.fields #[.ref l,.int (its.size - 1) 0] } }) :
  wpAny (model prog w) A (call (.type "reversed") [.ref l]) Q E s:=by
 refine zeK (T:="reversed") (newId:="reversed.__new__") (T':="list_reverseiterator") (by decide) (by decide +kernel) ⟨.type "reversed",[.type "object"],by rw[mroOf_type];kernel_rfl⟩ (by kernel_rfl) (by decide +kernel) (by kernel_rfl) ?_ ?_ (by kernel_rfl) (zgh o ⟨⟨_,aA _ rfl,rfl⟩,h⟩);kernel_rfl;kernel_rfl
end
theorem ZC:Slot "list_reverseiterator" "__next__" "list_reverseiterator.__next__" :=
 .of (owner:="list_reverseiterator") (n:="__next__") (by rw[hV,fu];kernel_rfl) (by decide +kernel) (by decide +kernel) (by decide +kernel) (by decide +kernel) (by kernel_rfl)
theorem zcz:Slot "list_reverseiterator" "__iter__" "list_reverseiterator.__iter__" :=
 .of (owner:="list_reverseiterator") (n:="__iter__") (by rw[hV,fu];kernel_rfl) (by decide +kernel) (by decide +kernel) (by decide +kernel) (by decide +kernel) (by kernel_rfl)
theorem zcp:entryFor table "list_reverseiterator.__next__" = some dh.«list_reverseiterator.__next__»:=entryFor_of_tree (by kernel_rfl)
theorem zc2(a:ae):argsOk "list_reverseiterator.__next__" ⟨[a],[]⟩:=by unfold argsOk;kernel_rfl
def IsRevIter(h:ba)(it l:af)(j:Int):Prop:=∃o,h.get? it=some o/\o.cls=.type "list_reverseiterator" /\ o.data=.fields #[.ref l,.int j 0]
section
variable{prog:aO}{w:br}{A:bc}{E:qV}{s:ak}
theorem zko{a:af}{o:Obj}{its:Array ae}{n:Nat}{Q:Option (Array ae)->ak->Prop}(l:s.heap.get? a=some o)(hd:o.data=.seq its n)(h:Q (some its) s):wpAny (model prog w) A (seqItems? (.ref a)) Q E s:=by show wpAny _ _ (load a >>= _) _ _ s;refine aa (pd l ?_);rw[hd];exact ag h
theorem zm5{it l:af}{its:Array ae}{j:Nat}{x:ae}{Q:Option ae->ak->Prop}(hi:IsRevIter s.heap it l (j:Int))(G:s.heap.IsList l its)(hx:its[j]?=some x)
  (C:∀h',IsRevIter h' it l ((j:Int) - 1)->c9 it s.heap h'->Q (some x) { s with heap:=h' }):wpAny (model prog w) A (pyNext (.ref it)) Q E s:=by
 obtain⟨o,v,hc,hd⟩:=id hi;obtain⟨J,gl,cl,n,dl⟩:=id G;have ty:s.TypeIs (.ref it) "list_reverseiterator":=⟨o,v,hc⟩;unfold pyNext;refine aa (fV ?_);refine dU (name:=aN "__next__") ty ZC ?_;refine cG ZC ty zcp ?_ (zc2 _);unfold dh.«list_reverseiterator.__next__»;refine aa (ag ?_);refine aa (oJ v hd (x:=.int (j:Int) 0) rfl ?_);have nn:¬((j:Int)<0):=by lia
 show wpAny _ _ (if (j:Int)<0 then _ else _) _ _ _;rw[if_neg nn];refine aa (oJ v hd (x:=.ref l) rfl ?_);refine aa (zko gl dl ?_);show wpAny _ _ (match its[(j:Int).toNat]? with|some x=>_|_=>_) _ _ _;rw[dm,hx];refine aa (mo v hd (by simp) ?_);have y:IsRevIter (s.heap.update it (mU (·.setIfInBounds 1 (rawInt ((j:Int) - 1))))) it l ((j:Int) - 1) :=
  ⟨_,gR _ v (lP (gh hd _)),(nQ ..).trans hc,by rw[gh hd];simp[rawInt]⟩
 exact ag ⟨_,rfl,ag (C _ y (eV ..))⟩
theorem zoT{it l:af}{Q:Option ae->ak->Prop}(G:A.handled=none)(hi:IsRevIter s.heap it l (-1))(C:∀h',oH it s.heap h'->Q none { s with heap:=h' }):wpAny (model prog w) A (pyNext (.ref it)) Q E s:=by obtain⟨o,v,hc,hd⟩:=id hi;have ty:s.TypeIs (.ref it) "list_reverseiterator":=⟨o,v,hc⟩;unfold pyNext;refine aa (fV ?_);refine dU (name:=aN "__next__") ty ZC ?_;refine cG ZC ty zcp ?_ (zc2 _);unfold dh.«list_reverseiterator.__next__»;refine aa (ag ?_);refine aa (oJ v hd (x:=.int (-1) 0) rfl ?_);show wpAny _ _ (if (-1:Int)<0 then _ else _) _ _ _;rw[if_pos (by decide)];refine aa (fe ?_);refine aa ?_;unfold nR;show wpAny _ _ (newExc (.type "StopIteration") [] >>= _) _ _ _;refine aa ?_;simp only[newExc,newTuple];refine aa (df ?_ (by size_fits));refine aa (m:=firstArgMember _ _) (mh (a:=fz) (by first|rfl|(simp only[firstArgMember];rfl)) ?_);refine df ?_ (by size_fits);simp only[raiseNew];refine aa (wpAny_handled ?_);have u:A.in1.handled=none:=G;rw[u];refine aa (ag (wpAny_throw ?_));refine aa (kg (T:="StopIteration") (b:=true) ⟨_,aA _ rfl,rfl⟩ pU (ag (C _ ?_)));have I:oH it s.heap s.heap:=fun b o _ e=>e;exact oj (oj I _) _
end
section
variable{X:Cx}{iter tg:aQ}{dd:DTE}
theorem zeI:entryFor table "list_reverseiterator.__iter__" = some dh.«dict_keyiterator.__iter__»:=entryFor_alias (id':="dict_keyiterator.__iter__") (by kernel_rfl) rfl (by decide +kernel) (by kernel_rfl)
theorem zf1(a:ae):argsOk "list_reverseiterator.__iter__" ⟨[a],[]⟩:=by unfold argsOk;kernel_rfl
theorem zit{it l:af}{j:Int}{prog:aO}{w:br}{A:bc}{E:qV}{s:ak}{Q:qV}(hi:IsRevIter s.heap it l j)(h:Q (.ref it) s):wpAny (model prog w) A (pyIter (.ref it)) Q E s:=by obtain⟨o,u,hc,hd⟩:=hi;have ty:s.TypeIs (.ref it) "list_reverseiterator":=⟨o,u,hc⟩;refine nN ty zcz (cG zcz ty zeI ?_ (zf1 _));show wpAny _ _ (ret (.ref it)) _ _ s;exact ag ⟨_,rfl,"list_reverseiterator",_,ty,ZC.lookup,h⟩
def ItV(a:af)(o:List V):It :=
 ⟨fun i H=>H a=some (.lst o)/\i<o.length,fun i H x H'=>H'=H/\o.reverse[i]?=some x,fun i H=>H a=some (.lst o)/\o.length<=i⟩
theorem zmU{P:aO}{w:br}{K:qF}{tg:aQ}(a it:af)(y:List V):Turn P w K tg (ItV a y) [it] it (fun i h=>i<=y.length/\IsRevIter h it a ((y.length:Int) - 1 - (i:Int))) where
 mem:=by simp
 obj:=fun i h st b C=>by
  have e:b=it:=by simpa using C
  subst e;obtain⟨_,o,e,c,d⟩:=st;exact⟨o,e,fun v z=>by rw[d]at z;cases z⟩
 keep:=fun i h h' st k=>by obtain⟨l,o,e,r⟩:=st;exact⟨l,o,k it (by simp) o e,r⟩
 item:=by
  intro X R hw U hc i pins s σ H E I hf st J;subst R hw U;obtain⟨Z,hi⟩:=J;obtain⟨its,rv,p,hz⟩:=I.list (.of Z);have hl:=rv.length;have hx:y.reverse[i]?=some (y.reverse[i]'(by simpa using hi)):=ah (by simpa using hi);generalize y.reverse[i]'(by simpa using hi)=x at hx;have N:y[y.length - 1 - i]?=some x:=by rw[<- hx,eC hi]
  obtain⟨u,hu,ru⟩:=rv.get N;obtain⟨f0,f1,f2,S,f4,L⟩:=hf it (by simp);have Y:(y.length:Int) - 1 - (i:Int)=((y.length - 1 - i:Nat):Int):=by lia
  obtain⟨_,st⟩:=st;rw[Y]at st;refine zm5 st p.isList (x:=u) (by simpa using hu) fun h' G sb=>?_;have I1:Inv X pins σ H { s with heap:=h' }:=I.turned (t':=s.toks) (fun b o C e=>(sb.2 b C).trans e) f0 f1 S f4 L;obtain⟨o,e,c,d⟩:=id G;exact⟨u,rfl,Yp (s:={ s with heap:=h' }) e c d (by decide) ⟨x,H,I1,ru,⟨rfl,hx⟩,⟨hi,by
   have e2:(y.length:Int) - 1 - ((i+1:Nat):Int)=((y.length - 1 - i:Nat):Int) - 1:=by lia
   rw[e2];exact G⟩,fun b C=>(hf b C).1⟩⟩
 done:=by
  intro X R hw U hc i pins s σ H E I hf st J;subst R hw U;obtain⟨Z,hi⟩:=J;obtain⟨f0,f1,f2,S,f4,L⟩:=hf it (by simp);obtain⟨l,st⟩:=st;have Y:(y.length:Int) - 1 - (i:Int)=-1:=by lia
  rw[Y]at st;exact zoT (I.ok.hd hc) st fun h' eb=>⟨rfl,I.turned (t':=s.toks) (fun b o C e=>eb b o C e) f0 f1 S f4 L⟩
 self:=fun _ _ _ _ _ st h=>zit st.2 h
end
theorem boot_reversed:bootBuiltins "reversed" = some (.type "reversed"):=by first|rfl|kernel_rfl
section
variable{X:Cx}{a tg:aQ}{d:DTE}{p pos:Pos}
def iRev(u:TA):TI:=fun σ H R=>u σ H fun v o=>∃l xs,v=[.ref l]/\o l=some (.lst xs)/\R (ItV l xs) o
theorem zrj{v:TA}(J:Gl X "reversed") (S:X.mg "reversed" = none) (Z:PA X [a] v) (U:starEach [a] X.env=[(false,eval a X.env)]:=by rfl):PI X tg (.Call (.Name "reversed" p) [a] [] pos) (iRev v):=by
 intro pins s σ H R I h;refine Call_ (Q4 I J S boot_reversed (c8 (thn (Z pos pins s σ H _ I h) fun us s1 ⟨vs,Y,u,r1,q1⟩=>?_) U rfl));obtain⟨l,xs,e,hl,q⟩:=q1;subst e;cases r1 with
 | cons r G =>
  cases G;cases(show _=aX l from r);obtain⟨z,its,n,rel,g⟩:=u.hok l _ hl;have el:=rel.length;refine zfV (its:=its.toArray) (n:=n) g ?_;have I2:=u.kept (t':=s1.toks) (h':=s1.heap.push { cls:=.type "list_reverseiterator",data:=.fields #[.ref l,.int (its.toArray.size - 1) 0] }) fun b o e=>aj _ e;have x:IsRevIter (s1.heap.push { cls:=.type "list_reverseiterator",data:=.fields #[.ref l,.int (its.toArray.size - 1) 0] }) s1.heap.objs.size l ((xs.length:Int) - 1 - ((0:Nat):Int)):=by refine⟨_,aA _ rfl,rfl,?_⟩;simp[el]
  refine zit x ?_;refine⟨s1.heap.objs.size,[s1.heap.objs.size],_,_,Y,rfl,I2,zmU l _ xs,⟨bX _,x⟩,fun b L=>?_,q⟩;have e:b=s1.heap.objs.size:=by simpa using L
  subst e;exact u.fpOk (av _) (u.hok.fresh (av _))
def dItR(d:DTE):DTA:=fun o n R=>d o n fun t l=>lLst t fun ts=>R ts.reverse l
theorem zow(hm:X.mg "reversed" = none) (h:DE X a d) (hg:Gl X "reversed":=by rfl) (J:starEach [a] X.env=[(false,eval a X.env)]:=by rfl):DI X tg (.Call (.Name "reversed" p) [a] [] pos) (dItR d):=by
 obtain⟨ta,pa,h⟩:=h;refine⟨_,zrj hg hm (Qh pa QI J) J,fun C ρ σ H n Q R S hd hq=>?_⟩;refine h C ρ σ H n _ _ S hd fun t n' v H' r e1 hn q=>?_;cases t with
 | list ts =>
  obtain⟨l,Y,rfl,U,no,L⟩:=q.lstI;refine⟨l,Y,rfl,U,hq _ n' _ H' r e1 hn ?_⟩;intro O2 H2 g1 g2 _;have u:=g1 l _ U no;have r2:Reps X.K C.hd O2 H2 Y ts:=L.mono (fun a o I z=>bF fun no=>g2 a o I no z) fun a o no I=>g1 a o I no;have Z:=L.length;refine⟨fun i t G=>?_,⟨u,by rw[d0,Z];exact av _⟩⟩;have hi:i<ts.length:=by simpa using(ao.mp G).1
  refine⟨⟨u,by lia⟩,fun x H3 y=>?_⟩;obtain⟨rfl,y⟩:=y;refine⟨Same.refl _,?_⟩;rw[eC hi]at G;rw[eC (by lia),Z]at y;exact r2.getP G y
 | _=>exact r.elim
instance zvT {d:DTE}{ρ:En}{n:Nat}{R:List ab->Nat->Prop}:Stp (dItR d ρ n R) (d ρ n fun t n'=>lLst t fun ts=>R ts.reverse n'):=⟨fun h=>h⟩
end
theorem zif{l more:PR}{k v:Int×Int}(h:valP l k=some v):valP (l++more) k=some v:=by
 unfold valP at *;rw[nS];cases e:l.find? fun q=>decide (q.1=k) with
 | none=>rw[e]at h;cases h
 | some q=>rw[e]at h;exact h
theorem zfj{l:PR}{k:Int×Int}(h:k∈l.map (·.1)):∃v,valP l k=some v:=by
 unfold valP;cases e:l.find? fun q=>decide (q.1=k) with
 | none =>obtain⟨q,o,rfl⟩:=bh.mp h;have:=gj.mp e q o;simp at this
 | some q=>exact⟨q.2,rfl⟩
theorem zmC{no al:Bool}{l more:PR}{b v:Int×Int}(h:bpD no al l b=some v):bpD no al (l++more) b=some v:=by
 unfold bpD at *;cases no;cases al;simp only[aI,if_false]at h ⊢;cases e1:valP l (loH b) with
 | none=>rw[e1]at h;cases h
 | some x =>
  cases e2:valP l (upH b) with
  | none=>rw[e1,e2]at h;cases h
  | some y =>rw[e1,e2]at h;rw[zif e1,zif e2];exact h
 exact h;exact h
theorem zn0{no al:Bool}{l:PR}{b:Int×Int}(h:no=false->al=false->loH b∈l.map (·.1)/\upH b∈l.map (·.1)):∃v,bpD no al l b=some v:=by unfold bpD;cases no;cases al;obtain⟨o,u⟩:=h rfl rfl;obtain⟨x,C⟩:=zfj o;obtain⟨y,e2⟩:=zfj u;rw[C,e2];exact⟨_,rfl⟩;exact⟨_,rfl⟩;exact⟨_,rfl⟩
theorem zo1{l:PR}{b v:Int×Int}(h:b∉l.map (·.1)):putT (prK l) b (twoD v)=prK (l++[(b,v)]):=by
 have e:((prK l).any fun z=>decide (z.1=b))=false:=by rw[iI];intro z hz e;obtain⟨q,o,rfl⟩:=bh.mp hz;exact h (bh.mpr ⟨q,o,of_decide_eq_true e⟩)
 unfold putT;rw[e];simp[prK]
section
variable{X:Cx}{pins:qO}{σ:St}{H:Hp}{s:ak}{a:af}{zs:ZT}{ep:Nat}{A:bc}{E:qV}
theorem zj_{k:Int×Int}{b:af}{v:V}{r:ae}{Q:Unit->ak->Prop}(Z:A.units+1<cLine)(I:Inv X pins σ H s)(h:H a=some (ZDO a zs ep))(U:∀z∈zs,SqT X.K H z.2.1 [.int z.1.1,.int z.1.2])(G:SqT X.K H b [.int k.1,.int k.2])(hl:zs.length<sizeLine)(S:RelV v r)
  (J:∀s' o,Inv X pins σ (upd H a (ZDO a (zput zs k b v) o)) s'->Q () s'):wpAny (model X.prog X.w) A (dictSet a (.ref b) r) Q E s:=by
 obtain⟨R,N,xs,x1,L⟩:=Y0 I h U;have Y:xs.length<=sizeLine:=by rw[<- dI x1];exact N
 refine m9 (hsz:=Y) (show A.units<cLine by lia) (Us (k:=kL k) I G) L fun h' u y=>?_;have he:∃q,h'.get? a=some q:=let ⟨q,_,_,e,_⟩:=u;⟨q,e⟩;have C:(zput zs k b v).length<=sizeLine:=by have:=zfi zs k b v;lia
 have ok:∀H':Hp,∃o,JI X.prog X.w H' h' a (ZDO a (zput zs k b v) o):=fun H'=>Y1 R C (zj5 x1 k S) u;obtain⟨o,x⟩:=ok H;exact J _ o (zmf I (by rw[h];exact gU) y he x)
end
noncomputable def zbk (ps:BL):Nat->Int×Int->Int×Int
 | 0,b=>open Classical in if HasN ps b then(0,1) else(1,0)
 | h+1,b=>open Classical in if HasN ps b then(0,1) else if HasA ps b then(1,0) else
  ((if (zbk ps h (loH b)).2+(zbk ps h (upH b)).2+1<(zbk ps h (loH b)).1+(zbk ps h (upH b)).1 then(zbk ps h (loH b)).2+(zbk ps h (upH b)).2+1 else(zbk ps h (loH b)).1+(zbk ps h (upH b)).1),
   if (zbk ps h (loH b)).1+(zbk ps h (upH b)).1+1<(zbk ps h (loH b)).2+(zbk ps h (upH b)).2 then(zbk ps h (loH b)).1+(zbk ps h (upH b)).1+1 else(zbk ps h (loH b)).2+(zbk ps h (upH b)).2)
structure PrsI(bits:Int)(ps bs:BL)(k:Nat)(qs:PR):Prop where
 keys:qs.map (·.1)=bs.reverse.take k
 pos:∀q∈qs,0<=q.2.1/\0<=q.2.2
 rgt:∀q∈qs,∀no al:Bool,(no=true↔HasN ps q.1)->(al=true↔HasA ps q.1)->bpD no al qs q.1=some q.2
theorem Q7{o:PR}{k v:Int×Int}(h:valP o k=some v):(k,v)∈o:=by unfold valP at h;obtain⟨q,l,u⟩:=dr.mp h;have e:=oW l;have m:=iE l;have x:q.1=k:=of_decide_eq_true e;rw[<- x,<- u];exact m
theorem zoH{l:PR}(nd:(l.map (·.1)).Nodup){q:(Int×Int)×(Int×Int)}(h:q∈l):valP l q.1=some q.2:=by
 induction l with
 | nil=>cases h
 | cons x xs v =>rw[aG,cC]at nd;unfold valP;rw[cg];by_cases e:x.1=q.1;rw[decide_eq_true e];rcases aC.mp h with rfl|h;rfl;exact absurd (dZ (f:=(·.1)) h) (e▸nd.1);rw[decide_eq_false e];rcases aC.mp h with rfl|h;exact absurd rfl e;exact v nd.2 h
theorem zgz{α:Type}{l:List α}(h:l.Nodup):l.reverse.Nodup:=List.pairwise_reverse.mpr (xq (fun h=>fc h) h)
section
variable{bits:Int}{ps bs:BL}{b:Int×Int}{qs:PR}{k:Nat}
theorem zq8{α:Type}{l:List α}{k:Nat}{x:α}(h:l.reverse[k]?=some x):k<l.length/\l[l.length - 1 - k]?=some x:=by
 have o:k<l.length:=by simpa using(ao.mp h).1
 rw[eC o]at h;exact⟨o,h⟩
theorem zis{α:Type}{l:List α}{i k:Nat}{x:α}(h:l[i]?=some x)(o:l.length - 1 - k<i):x∈l.reverse.take k:=by
 have hi:=(ao.mp h).1;have e:l.reverse[l.length - 1 - i]?=some x:=by rw[eC (by lia)];rw[<- h];congr 1;lia
 refine aB (i:=l.length - 1 - i) ?_;rw[fT (by lia)];exact e
theorem PrsI.start:PrsI bits ps bs 0 []:=⟨rfl,(fun q h=>nomatch h),(fun q h=>nomatch h)⟩
theorem PrsI.step(I:PInv bits ps bs bs.length)(J:PrsI bits ps bs k qs)(R:bs.reverse[k]?=some b){no al:Bool}(U:no=true↔HasN ps b)(Y:al=true↔HasA ps b):∃v,bpD no al qs b=some v/\b∉qs.map (·.1)/\PrsI bits ps bs (k+1) (qs++[(b,v)]):=by
 obtain⟨hk,S⟩:=zq8 R;have kids:no=false->al=false->loH b∈qs.map (·.1)/\upH b∈qs.map (·.1):=fun u e2=>by have pr:Prt ps b:=⟨(fun z=>by rw[U.mpr z]at u;cases u),(fun z=>by rw[Y.mpr z]at e2;cases e2)⟩;obtain⟨⟨i1,a1,a2⟩,i2,c1,Z⟩:=I.kid _ b (by lia) S pr;rw[J.keys];exact⟨zis a2 (by lia),zis Z (by lia)⟩
 obtain⟨v,l⟩:=zn0 kids;have nd:bs.reverse.Nodup:=zgz I.nd;have fresh:b∉qs.map (·.1):=by
  rw[J.keys];intro m;obtain⟨i,hi⟩:=lR.mp m;have il:i<k:=by have:=(ao.mp hi).1;rw[eW]at this;lia
  rw[fT il]at hi;have:=(fy (by rw[d0];lia) nd).mp (hi.trans R.symm);lia
 have pv:0<=v.1/\0<=v.2:=by
  unfold bpD at l;cases no;cases al;simp only[aI,if_false]at l;cases u:valP qs (loH b) with
  | none=>rw[u]at l;cases l
  | some x =>
   cases e2:valP qs (upH b) with
   | none=>rw[u,e2]at l;cases l
   | some y =>rw[u,e2]at l;have px:=J.pos _ (Q7 u);have py:=J.pos _ (Q7 e2);dsimp only at px py;cases l;dsimp only;constructor <;> split <;> lia
  cases l;decide;cases l;decide
 refine⟨v,l,fresh,?_,?_,?_⟩;rw[cP,J.keys,eY,R];rfl;intro q o;rcases aT.mp o with o|o;exact J.pos q o;cases aJ.mp o;exact pv;intro q o L N G C;rcases aT.mp o with o|o;exact zmC (J.rgt q o L N G C);cases aJ.mp o;have u:L=no:=by rw[cO,G,U]
 have e2:N=al:=by rw[cO,C,Y]
 rw[u,e2];exact zmC l
def PrOk(bits:Int)(ps:BL)(qs:PR):Prop:=∃bs:BL,PInv bits ps bs bs.length/\PrsI bits ps bs bs.length qs
theorem PrOk.bk(h:PrOk bits ps qs):∀q∈qs,IsBk bits q.1.1 q.1.2:=fun q l=>by obtain⟨bs,I,J⟩:=h;have:=dZ (f:=(·.1)) l;rw[J.keys]at this;exact I.bk _ (fL.mp (List.mem_of_mem_take this))
theorem PrOk.nd(h:PrOk bits ps qs):(qs.map (·.1)).Nodup:=by obtain⟨bs,I,J⟩:=h;rw[J.keys,<- d0,cX];exact zgz I.nd
theorem PrOk.root(h:PrOk bits ps qs):∃v,valP qs (0,bits)=some v:=by obtain⟨bs,I,J⟩:=h;refine zfj ?_;rw[J.keys,<- d0,cX];exact fL.mpr (aB I.root)
theorem PrOk.rgt(h:PrOk bits ps qs):∀q∈qs,∀no al:Bool,(no=true↔HasN ps q.1)->(al=true↔HasA ps q.1)->bpD no al qs q.1=some q.2:=by obtain⟨bs,I,J⟩:=h;exact J.rgt
theorem PrOk.val(h:PrOk bits ps qs):∀(n:Nat),∀q∈qs,q.1.2.toNat=n->q.2=zbk ps n q.1:=by
 classical
 intro n;induction n with
 | zero =>
  intro q u e;have:=h.rgt q u (decide (HasN ps q.1)) (decide (HasA ps q.1)) (by rw[decide_eq_true_eq]) (by rw[decide_eq_true_eq]);unfold bpD at this;unfold zbk;by_cases hn:HasN ps q.1;rw[decide_eq_true hn]at this;rw[if_pos hn];exact(au this).symm;have l:HasA ps q.1:=by have h0:=(h.bk q u).1;rcases zfJ (ps:=ps) (b:=q.1) (by lia) with z|z;exact absurd z hn;exact z
  rw[decide_eq_false hn,decide_eq_true l]at this;rw[if_neg hn];exact(au this).symm
 | succ n G =>
  intro q u e;have:=h.rgt q u (decide (HasN ps q.1)) (decide (HasA ps q.1)) (by rw[decide_eq_true_eq]) (by rw[decide_eq_true_eq]);unfold bpD at this;unfold zbk;by_cases hn:HasN ps q.1;rw[decide_eq_true hn]at this;rw[if_pos hn];exact(au this).symm;rw[if_neg hn];rw[decide_eq_false hn]at this;by_cases l:HasA ps q.1;rw[decide_eq_true l]at this;rw[if_pos l];exact(au this).symm;rw[decide_eq_false l]at this;rw[if_neg l];simp only[aI,if_false]at this;cases e1:valP qs (loH q.1) with
  | none=>rw[e1]at this;cases this
  | some x =>
   cases e2:valP qs (upH q.1) with
   | none=>rw[e1,e2]at this;cases this
   | some y =>rw[e1,e2]at this;have v:=G _ (Q7 e1) (show(q.1.2 - 1).toNat=n by lia);have C:=G _ (Q7 e2) (show(q.1.2 - 1).toNat=n by lia);dsimp only at v C;rw[<- v,<- C];exact(au this).symm
noncomputable def zcs (bits:Int) (ps:BL):Int:=(zbk ps bits.toNat (0,bits)).1
theorem PrOk.many(h:PrOk bits ps qs){v:Int×Int}(l:valP qs (0,bits)=some v):v.1=zcs bits ps:=by unfold zcs;rw[<- h.val _ _ (Q7 l) rfl]
end
instance zvF {i:Nat}{ks:KT2}{ρ:En}{n:Nat}{R:qN}[h:GetN ρ i (some (.dtt ks))]:Stp (ZI i ρ n R) (R (.dict (Jq ks)) n):=⟨fun k=>by unfold ZI;rw[h.e];exact k⟩
theorem Vn{l:BL}{b:Int×Int}:HasN l b↔∀x,b.1<=x->x<eB b->¬mB x l:=by constructor;rintro h x x0 x1 ⟨p,o,hx⟩;rcases h p o with z|z <;> omega;intro h p o;have pp:=Qd p;have u:=Qd b;refine bF fun z=>?_;exact h (max b.1 p.1) (by omega) (by omega) ⟨p,o,by omega,by omega⟩
abbrev NP:=(Int×Int)×Str
end L2
namespace L2
open PySem PySem.Spec PyProof.Rows
def ndup:List Str->Bool
 | []=>true
 | x::l=>!l.any (fun y=>decide (x=y))&&ndup l
theorem ndB{l:List Str}(h:ndup l=true):l.Nodup:=by
 induction l with
 | nil=>exact .nil
 | cons x l o =>simp only[ndup,bL,gO,iI,decide_eq_true_eq]at h;exact cC.mpr ⟨fun m=>h.1 x m rfl,o h.2⟩
def fnB(N P:List Str)(sc:dD):Bool:=(match sc.kind with|.function=>true|_=>false)&&!sc.isCoroutine&&!sc.isGenerator&&ndup N&&decide (N.take P.length=P)&&P.all (fun x=>decide (sc.names.lookup x=some .local\/sc.names.lookup x=some .cell))&&sc.names.all fun y=>decide (y.2≠.free)
theorem fnS{N P:List Str}{sc:dD}(h:fnB N P sc=true):Qs N P sc:=by simp only[fnB,bL,gO,decide_eq_true_eq,cU]at h;obtain⟨⟨⟨⟨⟨⟨a,b⟩,c⟩,d⟩,e⟩,f⟩,g⟩:=h;exact⟨(by cases q:sc.kind <;> rw[q]at a <;> first|rfl|(exact nomatch a)),b,c,ndB d,e,f,g⟩
section
variable{X:Cx}{x:Str}{e:aQ}{es:List aQ}{d:DTE}{ds:DTA}{pos pos':Pos}
theorem dlv(i:Nat)(u:X.N[i]?=some x:=by rfl)(o:Vis X.env.scope x:=by walk_at "V")(hd:(x == ("__debug__":Str))=false:=by rfl)
  (l:(x == ("__classdict__":Str))=false:=by rfl):DL X (.Name x pos) (dVar i):=dl (Jo i u o hd l)
theorem dli{i j}:DL X (.Constant (.int i) j pos) (dC (.int i)):=dl Jf
theorem dbc(h:DE X e d)(l:DB X es ds)(o:starEach (e::es) X.env=(false,eval e X.env)::starEach es X.env:=by rfl):DB X (e::es) (Qf d ds):=zme h l o
theorem dbv(i:Nat)(o:DB X es ds)(v:X.N[i]?=some x:=by rfl)(u:Vis X.env.scope x:=by walk_at "V")(hd:(x == ("__debug__":Str))=false:=by rfl)
  (l:(x == ("__classdict__":Str))=false:=by rfl):DB X (.Name x pos::es) (Qf (dVar i) ds):=zme (Jo i v u hd l) o rfl
theorem dsv(i:Nat)(v:X.N.Nodup)(h:DE X e d)(hi:X.N[i]?=some x:=by rfl)(hx:Loc X.env.scope x:=by first|exact d6 rfl|exact og rfl)(u:swapsWith e (some (.Name x pos')) pos.line X.env=pure false:=by rfl)
  (hf:X.fn x=true\/X.env.scope.names.lookup x=some .local:=by walk_at "F"):DS X (.Assign [.Name x pos'] e pos) (sSet i d):=zsZ v hi hx h u hf
theorem dgv(i:Nat)(u:X.N.Nodup)(hi:X.N[i]?=some x:=by rfl)(hx:Loc X.env.scope x:=by first|exact d6 rfl|exact og rfl)(hf:X.fn x=true\/X.env.scope.names.lookup x=some .local:=by walk_at "F"):DG X (.Name x pos) [i] (Qb i):=zqa u hi hx hf
end
section
variable{X:Cx}{scope:dD}{iter elt:aQ}{ifs:List aQ}{tg:aQ}{pos:Pos}{is:List Nat}{di:DTA}{g:DTG}{tt:DTT}{te:DTE}
theorem dnc(own:List Str)(capt:List Nat)(hi:DIL X tg iter di)(v:∀C s₀ H₀ l,DG (Jd X scope own capt C s₀ H₀ l) tg is g)(he:∀C s₀ H₀ l,DE (Jd X scope own capt C s₀ H₀ l) elt te)
  (hc:X.calm=true:=by rfl) (h:Vz scope X.env.scope X.N capt=true:=by rfl) (u:∀i∈is,i<own.length:=by decide) (y:∀x,foldedSetIterable iter X.env x=pure x:=by intro _;rfl):DN X (.ListComp elt [⟨tg,iter,[],0⟩] scope pos) (dComp own.length capt di g dYes te) :=
 zl4 hc (JO.of h) hi v u (fun _ _ _ _=>UW) he y
theorem dnf(own:List Str)(capt:List Nat)(hi:DIL X tg iter di)(y:∀C s₀ H₀ l,DG (Jd X scope own capt C s₀ H₀ l) tg is g)(v:∀C s₀ H₀ l,DTs (Jd X scope own capt C s₀ H₀ l) ifs tt)(he:∀C s₀ H₀ l,DE (Jd X scope own capt C s₀ H₀ l) elt te)
  (hc:X.calm=true:=by rfl) (h:Vz scope X.env.scope X.N capt=true:=by rfl) (u:∀i∈is,i<own.length:=by decide) (G:∀x,foldedSetIterable iter X.env x=pure x:=by intro _;rfl):DN X (.ListComp elt [⟨tg,iter,ifs,0⟩] scope pos) (dComp own.length capt di g tt te) :=
 zl4 hc (JO.of h) hi y u v he G
end
end L2
namespace Bd
open PySem PySem.W PySem.Calls L2 PyProof.Rows
abbrev PLs:=List (Str×List (Str×List Str))
abbrev FLs:=List (Str×List Str)
end Bd
namespace Bd
open PySem PySem.W PySem.Calls L2 PyProof.Rows
def Q8(o:String->Option dh)(p:aO)(w:br)(l:Nat)(ann:Option ae):Nat->t4->Thread->Option t4
 | 0,_,_=>none
 | n+1,s,t=>match through t with
  | true=>some s
  | false=>match stepOk l ann t with
   | false=>none
   | true=>match stepT (denote o) p w s t with
    | some (s',t')=>Q8 o p w l ann n s' t'
    | none=>none
theorem zeO{o:String->Option dh}{p:aO}{w:br}{l:Nat}{ann:Option ae}:∀{n:Nat}{s s':t4}{t:Thread},Q8 o p w l ann n s t=some s'->topRun o p w l ann n s.abs t=some s'.abs
 | 0,_,_,_,h=>by cases h
 | n+1,s,s',t,h=>by
  unfold Q8 at h;unfold topRun;cases he:through t with
  | true=>rw[he]at h;cases h;rfl
  | false =>
   rw[he]at h;cases hk:stepOk l ann t with
   | false=>rw[hk]at h;cases h
   | true =>
    rw[hk]at h;cases hs:stepT (denote o) p w s t with
    | none=>rw[hs]at h;cases h
    | some r=>obtain⟨u,v⟩:=r;rw[hs]at h;dsimp only at h ⊢;rw[stepT_spec hs];exact zeO h
def zom:List Obj->Nat->BT->BT
 | [],_,t=>t
 | o::r,i,t=>zom r (i+1) (t.ins i o)
noncomputable def zqk (P:pK):BT:=zom (cN P).objs.toList 0 .nil
noncomputable def zj2 (w:br) (os:nT):t4:=⟨zqk w.params,11,(cN w.params).life,#[],kX,mH,os⟩
theorem boot_abs(P:pK):absHeap (zqk P) 11 (cN P).life=cN P:=by kernel_rfl
theorem zmE(P:pK):(cN P).objs.size=11:=by kernel_rfl
theorem zqj(P:pK):(cN P).isNs mainGlobals=true:=by kernel_rfl
def ZJ(p:aO)(h₀:ba)(l:ak):Bool:=staticsOk (importedModules p.main.body) h₀ l.heap&&namesBound p l.heap&&gensDone l&&laidKept h₀ l.heap
theorem zli{p q:aO}{loose:List Str}{x:ak->Bool}{α:Type}{o:ak->α}{v:br->α}{N:Nat}(e:opening p=plainProg p.main.scope.names)(I:Nat.ble 600 N=true)(y:∀s,fenceModules? p s=some s)
  (run:∀(w:br) (os:nT),(Q8 treeTable p w 11 ((cN w.params).nsMap mainGlobals "__annotations__") N (zj2 w os) (topStub p)).map (fun s=>(ZJ p (cN w.params) s.abs,openSeen q loose (importedModules p.main.body) x true s.abs,o s.abs))=some (true,openGood q loose,v w)) :
  LeftO p q loose x o v N true:=fun w=>by
 obtain⟨⟨h,J,d,k,os⟩,L,e2⟩:=dr.mp (boot_open e I y w);obtain⟨rfl,rfl,rfl,rfl⟩:h=cN w.params/\J=#[]/\d=kX/\k=mH:=by simpa using e2
 obtain⟨u,r,l⟩:=dr.mp (run w os);have G:(zj2 w os).abs=⟨cN w.params,#[],kX,mH,os⟩:=by show(⟨absHeap (zqk w.params) 11 (cN w.params).life,#[],kX,mH,os⟩:ak)=_;rw[boot_abs]
 have r:=zeO r;rw[G]at r;obtain⟨C,l2⟩:=mn l;obtain⟨l2,R⟩:=mn l2;have t:topFrom treeTable p w N ⟨cN w.params,#[],kX,mH,os⟩=some u.abs:=by unfold topFrom;dsimp only;rw[zqj,zmE,r];show(match ZJ p (cN w.params) u.abs with|true=>_|false=>_)=_;rw[C]
 unfold openEnds;rw[L];show(topFrom treeTable p w N _).map _=_;rw[t];exact congrArg some (cx l2 R)
theorem map3{α C u v l:Type}{o:Option α}{f:α->C×u}{g:α->v×l}{a:C}{y:u}{b:v×l}(h:o.map f=some (a,y))(I:o.map (fun s=>(g s).1)=some b.1)(G:o.map (fun s=>(g s).2)=some b.2):o.map (fun s=>((f s).1,g s,(f s).2))=some (a,b,y):=by
 cases o with
 | none=>cases h
 | some x =>have e:=au h;have J:(g x).1=b.1:=au I;have e2:(g x).2=b.2:=au G;show some ((f x).1,g x,(f x).2)=_;rw[e,show g x=b from cx J e2]
end Bd
namespace L2
open PySem PySem.Spec PyProof.Rows
abbrev GX:=List ab->Nat->(ab->Nat->Prop)->(Str->Nat->Prop)->Prop
end L2
namespace L2
open PySem PySem.Spec PySem.W PyProof.Rows
theorem zj3{pos o:Pos}{c cv:ae}(l:List ae)(h:sS l)(e:codeAmong o (l++[rawInt pos.line,rawInt pos.col,c])=some cv):codeAmong o l=some cv\/cv=c:=by
 fun_induction sS l with
 | case1 =>simp only[dB,codeAmong,rawInt]at e;split at e;exact .inr (au e).symm;cases e
 | case2 a t b u x rest v =>simp only[cY,codeAmong]at e ⊢;split at e;rename_i hc;rw[if_pos hc];exact .inl e;rename_i hc;rw[if_neg hc];exact v h e
 | case3 l C G=>exact h.elim
structure zqt(mg:qM)(base:ba)(c P:af):Prop where
 code:CodeHd base c P
 bm:∃bm ob,mg "__builtins__" = some (.ref bm)/\bm≠builtinsNs/\base.get? bm=some ob/\ob.cls=.type "module" /\ ob.dict=some builtinsNs/\ob.data=.plain
def ZK(H:Hp)(cv:ae)(q:Str):Prop:=∃(c:af) (o:Obj) (u:HO) (v:Array ae) (t:Tok),cv=.ref c/\H c=some (.frz o u)/\o.data=.fields v/\v[1]?=some (.str q t)
theorem ZK.rec{P:aO}{w:br}{H:Hp}{h:ba}{cv:ae}{q:Str}(x:ZK H cv q)(ok:HOk P w H h):h.CodeRec cv q:=by obtain⟨c,o,u,l,t,e,hc,hd,v⟩:=x;exact⟨c,o,l,t,e,(ok c _ hc).1,hd,v⟩
abbrev lamO(q:Str)(params:iT)(body:aQ)(scope:dD)(pm cv ctv:ae):Obj:={ cls:=.type "function",data:=.func (kla_fn "<lambda>" q params body scope [] pm cv ctv) }
theorem zsW{X:Cx}{pins:qO}{σ:St}{H:Hp}{s:ak}{M:sU}{A:bc}{E:qV}{c P:af}{q:Str}{params:iT}{body:aQ}{scope:dD}{pos:Pos}{Q:qV}(I:Inv X pins σ H s)
  (L:zqt X.mg X.base c P) (hP:X.H₀ P=some (.tbl q)) (H0:X.env.code=.ref c) (hcl:closureFor scope X.env=pure []) (Ir:defaultsOf params X.env=([],[])) (hq:X.env.qual ++ "<lambda>" = q)
  (h:∀f cv C pm H' s',Inv X pins σ H' s'->(∀b o,H b=some o->H' b=some o)->s.heap.objs.size<=f->s'.heap.get? f=some (lamO q params body scope pm cv C)->H' f=none->ZK H' cv q->Q (.ref f) s') :
  wpAny M A (eval (.Lambda params body scope pos) X.env) Q E s:=by
 have hH:H P=some (.tbl q):=I.base.tbls P q hP;obtain⟨ps,hps,ht,R⟩:=I.hok P _ hH;have S:=I.bk;have hgs:s.heap.Ns mainGlobals X.mg:=I.ok.mod.glob.keeps S;obtain⟨bm,ob,b1,b2,b3,b4,b5,b6⟩:=L.bm;have nP:∀b o,X.base.get? b=some o->b≠P:=fun b o e z=>by have:=(I.bs b o e).2;rw[z,hH]at this;cases this
 have hgP:mainGlobals≠P:=by obtain⟨o,es,ep,e,_⟩:=I.ok.mod.glob;exact nP _ _ e
 have hbG:bm≠mainGlobals:=fun z=>by obtain⟨o,es,ep,e,hd,_⟩:=I.ok.mod.glob;rw[z,e]at b3;cases b3;rw[hd]at b6;cases b6
 have hb:s.heap.BuiltinsAt X.mg P:=⟨bm,ob,b1,b2,hbG,nP _ _ b3,S _ _ b3,b4,b5,b6⟩;refine kla_eval Ir ?_;rw[hq];cases hf:codeAmong pos ps.toList with
 | some cv =>obtain⟨c',o,u,vs,t,rfl,hc',N,hv'⟩:=R pos cv hf;refine kla_makeFunctionHit hcl I.ok.glob hgs H0 (L.code.keeps S) hps ht hf hb fun C h' tk hk hsz=>?_;have G:∀b o,s.heap.get? b=some o->(h'.push (lamO q params body scope ((X.mg "__name__").getD .none) (.ref c') C)).get? b=some o:=fun b o e=>aj _ (hk b o e);have J:=I.un (h':=h'.push (lamO q params body scope ((X.mg "__name__").getD .none) (.ref c') C)) (t':=tk) (Un.kept G) (I.hok.kept G);refine h h'.objs.size (.ref c') C _ H _ J (fun _ _ e=>e) hsz (aA _ rfl) (I.hok.fresh hsz) ?_;exact⟨c',o,u,vs,t,rfl,hc',N,hv'⟩
 | none =>
  refine kla_makeFunction hcl I.ok.glob hgs H0 (L.code.keeps S) hps ht hf hgP hb fun c' C h' tk hx U Y hrec htb=>?_;obtain⟨c2,oc,vs,t,e2,hoc,hd,hv⟩:=hrec;cases e2;have hcn:H c'=none:=I.hok.fresh U;have G:∀b o,b≠P->s.heap.get? b=some o->(h'.push (kla_obj "<lambda>" q params body scope [] ((X.mg "__name__").getD .none) c' C)).get? b=some o:=fun b o n e=>aj _ (hx b o n e);have hne:∀b,H b=none->b≠P:=fun b n z=>by rw[z,hH]at n;cases n
  have up:∀b o,H b=some o->upd H c' (.frz oc (.own c')) b=some o:=fun b o e=>by rw[Jg (Qq e hcn)];exact e
  have J:Inv X pins σ (upd H c' (.frz oc (.own c'))) { s with heap:=h'.push (kla_obj "<lambda>" q params body scope [] ((X.mg "__name__").getD .none) c' C),toks:=tk }:=by refine I.un ⟨fun b o e n _ _=>G b o (hne b n) e,fun b o e n _ _=>⟨o.slots,G b o (hne b n) e⟩,fun b o e n _=>?_,fun b o e _=>?_,fun b xs e=>up b _ e,fun b o xs e=>up b _ e,fun b x e=>up b _ e⟩ ?_;rw[Jg (ay (aq (ax e) U))];exact n;by_cases hb:b=P;subst hb;exact⟨_,aj _ htb⟩;exact⟨o,G b o hb e⟩;intro b o e;by_cases hbc:b=c';subst hbc;rw[JB]at e;cases e;exact⟨aj _ hoc,_,aj _ hoc⟩;rw[Jg hbc]at e;by_cases hbP:b=P;subst hbP;rw[hH]at e;cases e;refine⟨_,aj _ htb,?_,fun pos' cv ec=>?_⟩;rw[mN];exact TriplesOk_snoc _ _ _ _ ht;rw[mN]at ec;rcases zj3 _ ht ec with z|rfl;obtain⟨c3,o3,u3,vs3,t3,z1,z2,z3⟩:=R pos' cv z;exact⟨c3,o3,u3,vs3,t3,z1,up _ _ z2,z3⟩;exact⟨c',oc,.own c',vs,t,rfl,JB,hd,hv⟩;refine(I.hok b o e).stay (fun d v N Z=>G d v ?_ Z) (fun d Z=>up d _ Z) (fun d xs Z=>up d _ Z) fun d ob xs Z=>up d _ Z;rcases N with rfl|N;exact hbP;rintro rfl;rw[hH]at N;cases N
  refine h h'.objs.size (.ref c') C _ _ _ J up (bA U (hY Y)) (aA _ rfl) ?_ ⟨c',oc,.own c',vs,t,rfl,JB,hd,hv⟩;rw[Jg (fF Y)];exact I.hok.fresh (bA U (hY Y))
end L2
namespace L2
open PySem PySem.Spec PySem.W PySem.Calls PyProof.Rows
theorem znr{P:aO}{w:br}{K:qF}{mg:qM}{base:ba}{A:bc}{outer:List Env}{s:ak}{H:Hp}{f:af}{q x:Str}{params:iT}{body:aQ}{scope:dD}{pm cv C u:ae}{v:V}{k:Nat}{U:TE}{Q:VK}
  (S:Qs [x] [x] scope) (R:Room (k+1) A) (N:Env0 P w K mg base A outer s H) (Z:s.heap.get? f=some (lamO q params body scope pm cv C)) (L:s.heap.CodeRec cv q)
  (hb:bindArgs (kla_fn "<lambda>" q params body scope [] pm cv C) ⟨[u],[]⟩=pure [(x,u)]) (r:RelV v u)
  (HV:PE (cxOf CX0 P w K mg base [x] q scope f cv A outer s H E0).nox body U) (ht:U (start [x] [v]) H Q) :
  codeAny (model P w) A (.call (.ref f) ⟨[u],[]⟩) (CR CX0 outer P w H s Q E0) s:=by
 have lim:s.heap.NoLimit:=N.mod.nolimit.keeps fun b o e=>(N.bs b o e).1;have HH:∀y∈[x].zip [u],scope.names.lookup y.1=some .local\/(scope.names.lookup y.1=some .cell/\((cellsFrom (s.heap.objs.size+1) scope.names []).lookup y.1).isSome=true):=fun⟨n,v⟩ hy=>by rcases S.par n (dW hy).1 with q|q;exact .inl q;exact .inr ⟨q,gx _ _ _ (.inl q)⟩
 refine kla_callFunE R.depth Z rfl S.co S.gen rfl L ?_;rw[hb];refine ag (ik (binds:=[x].zip [u]) S.kind HH fun env he s1 y=>?_);subst he;refine⟨lim.keeps y.toInCall.keep,kla_codeExpr ?_⟩;have I:Inv (cxOf CX0 P w K mg base [x] q scope f cv A outer s H E0) [] (start [x] [v]) H s1:=zgQ S R.hd N rfl (.cons r .nil) y;refine cJ (HV [] s1 (start [x] [v]) H Q (I.wish _) ht) (fun u' s' G=>?_) fun e s' G=>G.elim;obtain⟨Y,H',J,rv,hq⟩:=G;have J:=J.unwish;exact⟨Y,H',J.os,J.bare,J.base,J.hok,rv,hq⟩
end L2
namespace L2
open PySem PySem.Spec PySem.W PySem.Calls PyProof.Rows Att
theorem zpq{h:ba}{a:af}{m u:qM}(x:h.Ns a m)(y:h.Ns a u):m=u:=by obtain⟨o,es,ep,e,d,_,r⟩:=x;obtain⟨I,G,C,l,d',_,v⟩:=y;rw[e]at l;cases l;rw[d]at d';cases d';funext n;rw[<- r n,v n]
section
variable{X:Cx}{pins:qO}{σ:St}{H:Hp}{s:ak}{A:bc}{E:qV}{f a kS:af}{fo:Obj}{e1:Nat}{vs:List ae}{kz:List Int}{G:Hp->Prop}
theorem zh8{u:Array ae}{e:Nat}(I:Inv X pins σ H s)(h:s.heap.get? kS=some (seqObj "list" u e)):∀x c,X.env.cells.lookup x=some c->c≠kS:=fun x c hc z=>by obtain⟨v,o,l,hd⟩:=I.cell x c hc;rw[z,h]at l;cases l;cases hd
theorem znu{P:PySem.Fin->ak->Prop}(I:Inv X ((kS,seqObj "list" #[] 0)::(a,seqObj "list" #[] e1)::(f,fo)::pins) σ H s) (g:G H)
  (hk:∀p∈X.pn++((a,seqObj "list" #[] e1)::(f,fo)::pins),p.1≠kS) (hka:∀p∈X.pn++pins,p.1≠a) (h0k:X.s₀.heap.objs.size<=kS) (h0a:X.s₀.heap.objs.size<=a) (hlen:kz.length=vs.length) (h64:vs.length<64)
  (turn:∀(i:Nat) (u:ae) (k:Int),vs[i]?=some u->kz[i]?=some k->∀(E7:qO) (H':Hp) (s':ak),(f,fo)∈E7->Inv X E7 σ H' s'->G H' ->
   wpAny (model X.prog X.w) A (call (.ref f) [u]) (fun u' R=>∃t Y,u'=.int k t/\Inv X E7 σ Y R/\G Y) (fun _ _=>False) s')
  (h:∀H' s' out,G H'->H' a=none->KskOut false kz vs out->(∀ys,Vals ys out->ys.length<=sizeLine->Inv X pins σ (upd H' a (.lst ys)) s')->P (.done (.ret .none)) s') :
  wpAny (model X.prog X.w) A (ve a (.ref f) false vs.toArray e1 (.ref kS)) P E s:=by
 have hak:a≠kS:=hk (a,seqObj "list" #[] e1) (aH _ (.head _));unfold ve;refine aa (fe ?_);rw[List.forIn_toArray];refine aa (ksk_fold (fun i s'=>∃H' kA e,Inv X ((kS,seqObj "list" kA e)::(a,seqObj "list" #[] e1)::(f,fo)::pins) σ H' s'/\G H'/\fg kA.toList (kz.take i)) vs 0 s
  ⟨H,#[],0,I,g,by simpa using IntsAre.nil⟩ ?step ?done)
 case step =>
  rintro j x s' hx ⟨H',kA,e,J,g',Z⟩;simp only[eJ]at Z ⊢;have hj:j<vs.length:=(ao.mp hx).1;obtain⟨k,hkj⟩:∃k,kz[j]?=some k:=⟨_,ah (by omega)⟩;have hz:kA.size<=vs.length:=by have h1:=Z.length;rw[fO,eW]at h1;omega
  refine aa (fV (cJ (turn j x k hx hkj _ H' s' (.tail _ (.tail _ (.head _))) J g') (fun v R he=>?_) fun _ _ hF=>hF.elim));obtain⟨t,Y,rfl,J2,g2⟩:=he;dsimp only;have U:=J2.pin (kS,seqObj "list" kA e) (aH _ (.head _));have s1:=eV R.heap kS (bJ (·.push (.int k t)));obtain⟨c2,hc2⟩:∃c2,(R.heap.update kS (bJ (·.push (.int k t)))).get? kS=some (seqObj "list" (kA.push (.int k t)) c2):=⟨_,hU U.1 (·.push (.int k t))⟩;have ek:kz.take (j+1)=kz.take j++[k]:=by rw[List.take_add_one,hkj];simp
  have ea:(kA.push (iS k t)).toList=kA.toList++[iS k t]:=by simp
  refine aa (hE U.1 rfl ?_ (by rw[dP];omega) (bA (t5 (Array.size_push ..)) (by rw[dP];omega)));have J3:Inv X ((a,seqObj "list" #[] e1)::(f,fo)::pins) σ Y R:=J2.pins_of fun p C=>J2.pin p (aH _ (.tail _ C));have J4:Inv X ((a,seqObj "list" #[] e1)::(f,fo)::pins) σ Y { R with heap:=R.heap.update kS (bJ (·.push (.int k t))),toks:=R.toks } :=
   J3.turned (fun b o hb e=>(s1.2 b hb).trans e) U.2.1 U.2.2.1 (.inr h0k) (zh8 J2 U.1) hk
  refine ag ⟨rfl,Y,kA.push (.int k t),c2,J4.pins_of fun p C=>?_,g2,by rw[ea,ek];exact ksk_snoc Z⟩;rcases aC.mp C with rfl|C;exact⟨hc2,U.2.1,U.2.2.1,U.2.2.2.1,fun v z=>by cases z⟩;exact J4.pin p (aH _ C)
 case done =>
  rintro s' ⟨H',kA,e,J,g',Z⟩;have hk':fg kA.toList kz:=by have e3:kz.take (0+vs.length)=kz:=kO (by omega);rw[e3]at Z;exact Z
  have U:=J.pin (kS,seqObj "list" kA e) (aH _ (.head _));have na:=J.pin (a,seqObj "list" #[] e1) (aH _ (.tail _ (.head _)));refine aa (eK U.1 rfl ?_);obtain⟨m,hm,_⟩:=id J.loc;have mem:∀b o,(b,o)∈(ledger s'.heap X.env.locals kS).filter (fun p=>decide (p.1≠a))↔(b≠X.env.locals/\b≠kS/\s'.heap.get? b=some o)/\b≠a:=fun b o=>by rw[fj,zjF,decide_eq_true_eq]
  refine ksk_end_ (h₀:=Z8 s'.heap) (L:=X.env.locals) (m:=m) (news:=(ledger s'.heap X.env.locals kS).filter fun p=>decide (p.1≠a)) (e:=e) (zsO hm) (fun p C=>?_) hak.symm (fun⟨b,o⟩ C=>((mem b o).mp C).1.2.1) (fun⟨b,o⟩ C=>((mem b o).mp C).2) hk' hlen h64 fun h' tk out c F N ko=>?_;rcases aT.mp C with C|C;obtain⟨b,o⟩:=p;obtain⟨⟨n1,n2,e⟩,n3⟩:=(mem b o).mp C;exact⟨e,n1,Vy _ _⟩;rcases aC.mp C with rfl|C;exact⟨U.1,U.2.2.1,Vy _ _⟩;cases aJ.mp C;exact⟨na.1,na.2.2.1,Vy _ _⟩;have kp:∀b o,b≠X.env.locals->b≠kS->b≠a->s'.heap.get? b=some o->h'.get? b=some o:=fun b o n1 n2 n3 e=>(N (b,o) (.tail _ ((mem b o).mpr ⟨⟨n1,n2,e⟩,n3⟩))).1;have hq:h'.get? a=some (seqObj "list" out c):=(N _ (.head _)).1;refine h H' _ out.toList g' na.2.1 ko fun ys r hz=>?_;have J0:Inv X pins σ H' s':=J.pins_of fun p C=>J.pin p (aH _ (.tail _ (.tail _ (.tail _ C))));have S:∀{b:af},b∉[kS,a]->b≠kS/\b≠a:=fun {b} z=>⟨fun y=>z (by simp[y]),fun y=>z (by simp[y])⟩;have up:∀b o,H' b=some o->upd H' a (.lst ys) b=some o:=fun b o e=>by rw[Jg (Qq e na.2.1)];exact e
  refine J0.step (g':=s'.gens) (d':=s'.drawn) (ch:=[kS,a]) (fun b hb=>?_) (fun b o n1 _ hc e _=>kp b o n1 (S hc).1 (S hc).2 e) (fun b o n1 _ hc e _=>⟨o.slots,kp b o n1 (S hc).1 (S hc).2 e⟩) (fun b o hc _ n=>by rw[Jg (S hc).2];exact n)
   (fun b o hc e=>?_) (fun b xs e=>up b _ e) (fun b o xs e=>up b _ e) (fun b x e=>up b _ e) (fun m' hm'=>by rw[zpq hm' hm];exact F.ns) (fun b u e=>?_) J0.bare
  rcases aC.mp hb with rfl|hb;exact⟨.inr h0k,U.2.2.1,zh8 J U.1,fun p C=>hk p ((aT.mp C).elim (fun z=>eH _ z) fun z=>aH _ (.tail _ (.tail _ z)))⟩;cases aJ.mp hb;exact⟨.inr h0a,na.2.2.1,zh8 J na.1,hka⟩;by_cases n1:b=X.env.locals;subst n1;obtain⟨o',_,_,z,_⟩:=F.ns;exact⟨o',z⟩;exact⟨o,kp b o n1 (S hc).1 (S hc).2 e⟩;by_cases hb:b=a;subst hb;rw[JB]at e;cases e;exact⟨hz,out.toList,c,r,by rw[my];exact hq⟩;rw[Jg hb]at e;have ne:∀d v,H' d=some v->d≠X.env.locals/\d≠kS/\d≠a:=fun d v z=>⟨fun y=>(by rw[y,J.free]at z;cases z),fun y=>(by rw[y,U.2.1]at z;cases z),fun y=>(by rw[y,na.2.1]at z;cases z)⟩;refine(J.hok b u e).stay (fun d v hd z=>?_) (fun d z=>up d _ z) (fun d xs z=>up d _ z) fun d o xs z=>up d _ z;have:=hd.elim (fun y=>ne d u (y▸e)) fun y=>ne d _ y;exact kp d v this.1 this.2.1 this.2.2 z
theorem zjl{Q:qV}{l:af}{o:Obj}{T:String}{n:Nat}(I:Inv X ((f,fo)::pins) σ H s)(g:G H)(ho:s.heap.get? l=some o)(hc:o.cls=.type T)(hT:T = "list" \/ T = "tuple") (hd:o.data=.seq vs.toArray n) (Z:kz.length=vs.length) (h64:vs.length<64)
  (turn:∀(i:Nat) (u:ae) (k:Int),vs[i]?=some u->kz[i]?=some k->∀(E7:qO) (H':Hp) (s':ak),(f,fo)∈E7->Inv X E7 σ H' s'->G H' ->
   wpAny (model X.prog X.w) A.in1.in1 (call (.ref f) [u]) (fun u' s''=>∃t Y,u'=.int k t/\Inv X E7 σ Y s''/\G Y) (fun _ _=>False) s')
  (h:∀H' s' out a,G H'->H a=none->H' a=none->KskOut false kz vs out->(∀ys,Vals ys out->ys.length<=sizeLine->Inv X pins σ (upd H' a (.lst ys)) s')->Q (.ref a) s') :
  wpAny (model X.prog X.w) A (call (.builtin "sorted") [.ref l] [(aN "key",.ref f)]) Q E s:=by
 refine call_function_entry_kw oD nI nJ (ksk_s1 _ _) ?_;unfold dh.«sorted»;refine aa (m:=checkCount "sorted" 1 1 _) (ag ?_);refine aa (zcw ho hc hT hd (by rw[dP];omega) (aa (fW ?_ (by rw[dP];omega))));have z:((s.heap.push (seqObj "list" #[] 0)).update s.heap.objs.size (bJ (·++vs.toArray))).objs.size=s.heap.objs.size+1:=by rw[bM,cQ]
 have L:(preH s.heap vs).get? (s.heap.objs.size+1)=some (seqObj "list" vs.toArray 0):=by unfold preH;rw[<- z];exact aA _ rfl
 have keep:∀b o,s.heap.get? b=some o->(preH s.heap vs).get? b=some o:=fun b o q=>by have C:b<s.heap.objs.size:=ax q;unfold preH;rw[bO _ _ _ (by rw[z];exact ay (iL C)),eT _ _ _ _ (ay C),bO _ _ _ (ay C)];exact q
 have zp:(preH s.heap vs).objs.size=s.heap.objs.size+2:=by unfold preH;rw[cQ,z]
 show wpAny (model X.prog X.w) _ _ _ _ { s with heap:=preH s.heap vs };rw[z];generalize preH s.heap vs=h1 at L keep zp ⊢;generalize ha:s.heap.objs.size+1=a at L ⊢;refine aa (bQ (wpAny_call_entry_kw mf ⟨_,L,rfl⟩ lA ?body (ksk_l1 _ _)));show wpAny (model X.prog X.w) A.in1.in1 (dh.«list.sort» ⟨[.ref a],[(aN "key",.ref f)]⟩) _ _ _;rw[ksk_t1];unfold ksk_tree;obtain⟨e1,R⟩:∃e1,(h1.update a (bJ fun _=>(#[]:Array ae))).get? a=some (seqObj "list" #[] e1):=⟨_,hU L fun _=>#[]⟩;refine aa (eK L rfl ?_);refine aa (hE L rfl ?_ (by rw[aw,dP];omega) (bX _));refine aa (oC R rfl ?_);refine aa (pP ?_ (by show vs.length<=_;rw[dP];omega));refine aa (fW ?_ (bX _));refine bQ ?_;have s1:=eV h1 a (bJ fun _=>(#[]:Array ae));have IA:∀b o,s.heap.get? b=some o->(((h1.update a (bJ fun _=>(#[]:Array ae))).push (seqObj "tuple" vs.toArray 0)).push (seqObj "list" #[] 0)).get? b=some o:=fun b o q =>
  aj _ (aj _ ((s1.2 b (ay (aq (ax q) (ha▸cT _)))).trans (keep b o q)))
 have U:((h1.update a (bJ fun _=>(#[]:Array ae))).push (seqObj "tuple" vs.toArray 0)).objs.size=s.heap.objs.size+3:=by rw[cQ,bM,zp]
 have hkN:(((h1.update a (bJ fun _=>(#[]:Array ae))).push (seqObj "tuple" vs.toArray 0)).push (seqObj "list" #[] 0)).get? (s.heap.objs.size+3)=some (seqObj "list" #[] 0):=by rw[<- U];exact aA _ rfl
 have haN:(((h1.update a (bJ fun _=>(#[]:Array ae))).push (seqObj "tuple" vs.toArray 0)).push (seqObj "list" #[] 0)).get? a=some (seqObj "list" #[] e1):=aj _ (aj _ R);show wpAny (model X.prog X.w) _ (ve a (.ref f) false vs.toArray e1 (.ref ((h1.update a (bJ fun _=>(#[]:Array ae))).push (seqObj "tuple" vs.toArray 0)).objs.size)) _ _ { s with heap:=((h1.update a (bJ fun _=>(#[]:Array ae))).push (seqObj "tuple" vs.toArray 0)).push (seqObj "list" #[] 0) };rw[U];have low:∀p∈X.pn++((f,fo)::pins),p.1<s.heap.objs.size:=fun p x=>ax (I.pin p x).1;have J:=I.kept (t':=s.toks) IA;have S:s.heap.objs.size<=a:=ha▸cT _;have N:s.heap.objs.size<=s.heap.objs.size+3:=Nat.le_add_right _ _;have na:H a=none:=I.hok.fresh S;refine znu (G:=G) (kS:=s.heap.objs.size+3) (J.pins_of fun p x=>?_) g (fun p x=>?_) (fun p x=>?_) (bA I.sz N) (bA I.sz S) Z h64 turn fun H' s' out g' hn' ko hi=>⟨_,rfl,ag ⟨_,rfl,h H' s' out a g' na hn' ko hi⟩⟩;rcases aC.mp x with rfl|x;exact⟨hkN,I.hok.fresh N,fF (aq I.lt N),I.nofs N,fun v z=>by cases z⟩;rcases aC.mp x with rfl|x;exact⟨haN,na,fF (aq I.lt S),I.nofs S,fun v z=>by cases z⟩;exact J.pin p (aH _ x);rcases aT.mp x with x|x;exact ay (aq (low p (eH _ x)) N);rcases aC.mp x with rfl|x;exact ay (show a<_ by rw[<- ha];exact Nat.add_lt_add_left (by decide) _);exact ay (aq (low p (aH _ x)) N);exact ay (aq (low p (aT.mp x|>.elim (fun z=>eH _ z) fun z=>aH _ (.tail _ z))) S)
end
end L2
namespace L2
open PySem PySem.Spec PySem.W PySem.Calls PyProof.Rows
def zi_(d y:DTE):DTA:=fun C n R=>d C n fun t u=>JW t fun ts=>ts.length<64/\∃key:ab->Int,(∀t∈ts,∀x:ab->Nat->Prop,x (.int (key t)) u->y [some (.val t)] u x) /\
 ∀o:List ab,o.Perm ts->o.Pairwise (fun a b=>key a<=key b)->R o u
theorem zly{xs:List V}{ts:qD}{y out:List ae}{key:ab->Int}(r:Vals xs y)(ln:xs.length=ts.length)(L:KskOut false (ts.map key) y out) :
  ∃zs:List (V×ab),zs.Perm (xs.zip ts)/\Vals (zs.map (·.1)) out/\zs.Pairwise (fun a b=>key a.2<=key b.2):=by
 obtain⟨ps,pm,rfl,pw⟩:=L;have lv:=r.length;have G:ps.Perm (((xs.zip ts).zip ((ts.map key).zip y)).map (·.2)):=by rw[dH (by simp;omega)];exact pm
 obtain⟨v,p1,p2⟩:=U1 G;have each:∀w∈(xs.zip ts).zip ((ts.map key).zip y),RelV w.1.1 w.2.2/\w.2.1=key w.1.2:=fun w hw=>by
  obtain⟨i,hi,rfl⟩:=aW hw;have hx:i<xs.length:=by simp at hi;omega
  obtain⟨u,I,N⟩:=r.get (ah hx);have R:i<y.length:=by omega
  rw[ah R]at I;cases I;simpa using N
 have C:=fun w hw=>each w (p1.mem_iff.mp hw);refine⟨v.map (·.1),?_,?_,?_⟩;have:=p1.map (·.1);rwa [fJ (by simp;omega)]at this;rw[<- p2];have:∀v:List ((V×ab)×(Int×ae)),(∀x∈v,RelV x.1.1 x.2.2)->Vals ((v.map (·.1)).map (·.1)) ((v.map (·.2)).map pW):=by
  intro v;induction v with
  | nil=>intro _;exact .nil
  | cons a l J=>intro h;exact .cons (h a (.head _)) (J fun x hx=>h x (.tail _ hx))
 exact this v fun x hx=>(C x hx).1;rw[<- p2,bt]at pw;rw[bt];refine pw.imp_of_mem fun {a b} ha hb h=>?_;rw[<- (C a ha).2,<- (C b hb).2];exact h
section
variable{X:Cx}{e:aQ}{d dk:DTE}{pos p kp lp:Pos}{k':Nat}{q x:Str}{params:iT}{body:aQ}{scope:dD}{c P:af}
theorem zjR(hr:Room (k'+3) X.A)(hm:X.mg "sorted" = none) (h:DL X e d) (hs:starEach [e] X.env=[(false,eval e X.env)]) (L:zqt X.mg X.base c P) (hP:X.H₀ P=some (.tbl q)) (H0:X.env.code=.ref c) (hq:X.env.qual ++ "<lambda>" = q)
  (S:Qs [x] [x] scope) (hcl:closureFor scope X.env=pure []) (Ir:defaultsOf params X.env=([],[])) (hb:∀pm cv ctv u,bindArgs (kla_fn "<lambda>" q params body scope [] pm cv ctv) ⟨[u],[]⟩=pure [(x,u)])
  (hk:∀(f:af) (cv:ae) (A:bc) (s:ak) (H:Hp),DE (cxOf CX0 X.prog X.w X.K X.mg X.base [x] q scope f cv A X.stack s H E0).nox body dk)
  (hg:Gl X "sorted":=by rfl) :
  DN X (.Call (.Name "sorted" p) [e] [⟨some "key",.Lambda params body scope lp,kp⟩] pos) (zi_ d dk):=by
 obtain⟨ta,pa,h⟩:=h;refine⟨fun σ H Q=>∀pins s,Inv X pins σ H s->wpAny (model X.prog X.w) X.A (eval (.Call (.Name "sorted" p) [e] [⟨some "key",.Lambda params body scope lp,kp⟩] pos) X.env) (EP X pins σ Q) X.xe s,fun pins s σ H Q I h=>h pins s I,fun C ρ σ H n Q R S0 hd hQ pins s I=>?_⟩;refine ff (Q4 I hg hm oE ?_);have hsb:backTo pos (starEach [e] X.env)=[(false,eval e X.env)]:=by rw[hs];rfl
 refine callWith_kw ?_ (by rw[hsb];rfl) (by rw[hsb];rfl);rw[hsb];refine mY (thn (pa pins s σ H (fun v H1=>∃t U,(JW t fun ts=>ts.length<64/\∃key:ab->Int,(∀t∈ts,∀R':ab->Nat->Prop,R' (.int (key t)) U->dk [some (.val t)] U R') /\
  ∀Y:List ab,Y.Perm ts->Y.Pairwise (fun a b=>key a<=key b)->R Y U)/\ExtE C.hd H H1/\Hn X.K C.hd H1 U/\RepT X.K C.hd (Own C ρ σ) H1 v t) I (h C ρ σ H n _ _ S0 hd fun t U v H1 r1 e1 h1 q1=>⟨t,U,r1,e1,h1,q1⟩)) fun u s1 hu=>nt ?_)
 obtain⟨v,H1,I1,rv,t,U,r1,e1,h1,q1⟩:=hu;have S1:=S0.on e1 h1;show wpAny (model X.prog X.w) X.A (evalAll [do let v <- eval (.Lambda params body scope lp) X.env;standAt pos;pure v]) _ _ s1;refine wpAny_evalAll_cons (aa (zsW I1 L hP H0 hcl Ir hq fun f cv ctv pm H2 s2 I2 up hf0 hfo hfn hcr=>aa (cB (ag ?_))));refine wpAny_evalAll_nil ?_;show wpAny (model X.prog X.w) X.A (call (.builtin "sorted") [u] [(aN "key",.ref f)]) _ _ s2;have e2:ExtE C.hd H1 H2:=fun a o ha _=>up a o ha;have h2:Hn X.K C.hd H2 U:=h1.same up;have I2f:Inv X ((f,lamO q params body scope pm cv ctv)::pins) σ H2 s2:=I2.pins_of fun p hp=>by rcases aC.mp hp with rfl|hp;exact⟨hfo,hfn,fF (aq I1.lt hf0),I1.nofs hf0,fun v z=>by cases z⟩;exact I2.pin p (aH _ hp)
 have go:∀(l:af) (xs:List V) (ts:qD) (its:List ae) (o:Obj) (T:String) (m:Nat),Reps X.K C.hd (Own C ρ σ) H1 xs ts->Vals xs its->s2.heap.get? l=some o->o.cls=.type T->(T = "list" \/ T = "tuple")->o.data=.seq its.toArray m ->
   (ts.length<64/\∃key:ab->Int,(∀t∈ts,∀R':ab->Nat->Prop,R' (.int (key t)) U->dk [some (.val t)] U R')/\∀Y:List ab,Y.Perm ts->Y.Pairwise (fun a b=>key a<=key b)->R Y U) ->
   wpAny (model X.prog X.w) X.A (call (.builtin "sorted") [.ref l] [(aN "key",.ref f)]) (EP X pins σ Q) X.xe s2:=fun l xs ts its o T m rp rx ho hc hT hd' hh=>by
  obtain⟨l64,key,hkey,hR⟩:=hh;have ln:=rp.length;have lx:=rx.length;refine zjl (G:=fun H'=>ExtE C.hd H2 H'/\Hn X.K C.hd H' U) (kz:=ts.map key) I2f ⟨.refl,h2⟩ ho hc hT hd' (by rw[aP];omega) (by omega) (fun i u k hu hki E7 H' s' hm J g=>?_) fun H' s' out a g na na' ko hinv=>?_
  ·have hi:i<ts.length:=by
    have:=(ao.mp hki).1;simpa using this
   have ek:k=key ts[i]:=by rw[aD,ah hi]at hki;exact(au hki).symm
   obtain⟨v,hv,rv⟩:=rp.get (ah hi);obtain⟨u',hu',ru⟩:=rx.get hv;rw[hu]at hu';cases hu';have S':=(S1.on e2 h2).on g.1 g.2;have rv':=g.1.rep S'.hx (e2.rep S'.hx rv);obtain⟨te,pe,hte⟩:=hk f cv X.A.in1.in1 s' H';have hcr':ZK H' cv q:=by obtain⟨c',o',u',vs',t',z1,z2,z3⟩:=hcr;refine⟨c',o',u',vs',t',z1,g.1 c' _ z2 fun z=>?_,z3⟩;obtain⟨_,y⟩:=h2.lst z;rw[z2]at y;cases y
   obtain⟨S0',no⟩:=zdS (N:=[x]) (.cons rv' .nil) g.2 (fun a=>S'.lst) fun a z=>.inl (S'.hx a z);refine pG (fG (znr (k:=k') S (hr.in1).in1 J.env0.in1.in1 (J.pin _ (aH _ hm)).1 (hcr'.rec J.hok) (hb _ _ _ _) ru pe (hte ⟨C.hd,Own C ρ σ⟩ _ _ H' U (fun v Z=>v=.int k/\ExtE C.hd H2 Z/\Hn X.K C.hd Z U) (fun t n'=>t=.int k/\n'=U) S0' (hkey _ (cW hi) _ ⟨by rw[ek],rfl⟩)
    fun t n' v Z hr e h q=>?_)) fun r s' hq=>?_)
   obtain⟨rfl,rfl⟩:=hr;exact⟨q.intI,g.1.trans e,h⟩
   ·cases r with
    | error e=>exact hq.elim
    | ok fl =>
     cases fl with
     | ret u =>obtain⟨v',Z,J',rv,rfl,g'⟩:=J.after hq;obtain⟨t,rfl⟩:=rv;exact⟨t,Z,rfl,J',g'⟩
     | next=>exact cm hq
     | brk=>exact cm hq
     | cont=>exact cm hq
  obtain⟨zs,zp,zv,zw⟩:=zly rx ln ko;have S':=(S1.on e2 h2).on g.1 g.2;have rel:∀z∈zs,Rep X.K C.hd (Own C ρ σ) H' z.1 z.2:=fun z hz=>by
   obtain⟨i,hi,rfl⟩:=aW (zp.mem_iff.mp hz);have hi2:i<ts.length:=by simp at hi;omega
   obtain⟨v,h1,h2⟩:=rp.get (ah hi2);have hi1:i<xs.length:=by omega
   rw[ah hi1]at h1;cases h1;have:=g.1.rep S'.hx (e2.rep S'.hx h2);simpa using this
  have rp':Reps X.K C.hd (Own C ρ σ) H' (zs.map (·.1)) (zs.map (·.2)):=by
   have:∀zs:List (V×ab),(∀z∈zs,Rep X.K C.hd (Own C ρ σ) H' z.1 z.2)->Reps X.K C.hd (Own C ρ σ) H' (zs.map (·.1)) (zs.map (·.2)):=by
    intro zs;induction zs with
    | nil=>intro _;exact .nil
    | cons a l ih=>intro h;exact .cons (h a (.head _)) (ih fun x hx=>h x (.tail _ hx))
   exact this zs rel
  have lz:zs.length<=sizeLine:=by have:=zp.length_eq;simp at this;rw[dP];omega
  have ee:ExtE C.hd H H':=e1.trans (e2.trans g.1);refine⟨.ref a,_,hinv _ zv (by rw[aP];exact lz),rfl,hQ (zs.map (·.2)) U a _ _ (hR _ ?_ ?_) (ee.trans (ExtE.new na')) (g.2.same (JL na')) (Uw ee g.2 na') JB (ziw na' rp')⟩;have:=zp.map (·.2);rwa [dH (by omega)]at this;rw[bt];exact zw
 have q2:=q1;cases t with
 | list ts =>obtain⟨l,xs,rfl,h1',hrp⟩:=q1.lstI;cases rv;obtain⟨its,r',pl,hz⟩:=I2.list (.of (up _ _ h1'));obtain⟨o,ho,hc,m,hd'⟩:=pl.isList;exact go l xs ts its o "list" m hrp r' ho hc (.inl rfl) hd' r1
 | tuple ts =>obtain⟨l,xs,rfl,h1',hrp⟩:=q1.tupI;cases rv;obtain⟨its,r',pl,hz⟩:=I2.tuple (h1'.imp (fun r=>r.imp (up _ _) fun⟨o,z⟩=>⟨o,up _ _ z⟩) id);obtain⟨o,ho,hc,m,hd'⟩:=pl;exact go l xs ts its o "tuple" m hrp r' ho hc (.inr rfl) hd' r1
 | _=>exact r1.elim
end
end L2
namespace L2
open PySem PySem.Spec PySem.W PySem.Calls PyProof.Rows Att
def spT(P:af)(q:Str)(o:Sp):Sp:=fun u H Q E=>H P=some (.tbl q)/\o u H Q E
section
variable{X:Cx}{CX:CXT}{k:Nat}{f P:af}{fd:cH}{ps:List Str}{sp:Sp}{dvs:List V}{ds:List ae}{E:XK}{x q:Str}{p pos:Pos}{e:aQ}{es:List aQ}{t:TA}
theorem zni(F:FnOk X.prog X.w X.K X.mg X.base CX k f fd ps (spT P q sp))(S:X.H₀ P=some (.tbl q))(G:Room k X.A)(J:Gl X x)(R:X.mg x=some (.ref f))(Z:fB X.K (.ref f)=true)(L:Binds X.K fd ps ds)(hd:Vals dvs ds)(hx:ZR CX X E)
  (U:PA X (e::es) t) (u:(x == ("__debug__":Str))=false:=by decide) (he:starEach (e::es) X.env=(false,eval e X.env)::starEach es X.env:=by rfl) (o:(backTo pos (starEach es X.env)).any (·.1)=false:=by rfl) :
  PE X (.Call (.Name x p) (e::es) [] pos) (zoI sp dvs E t):=by
 intro pins s σ H Q I h;refine ff (zlj I J R ?_ u);refine mZ (h₀:=X.base) I.ok.mod.kin Z (thn (U pos pins s σ H _ I h) fun us s1 Y=>?_) he o;obtain⟨vs,H1,v,r,z⟩:=Y;exact⟨v.kIn,zoa F G L hd hx v r ⟨v.base.tbls P q S,z⟩⟩
end
end L2
namespace Bd
open PySem PySem.Spec PySem.W PySem.Calls PyProof.Rows L2
def FQT(Z:ZZ)(P:af)(q x:Str)(st:dE)(ps:List Str)(k m:Nat)(g:GD):Prop:=∃f fd,Def Z.K Z.mg x st ps f fd/\FnOk Z.P Z.w Z.K Z.mg Z.base CX0 k f fd ps (spT P q (spD Z.K m g))
def LamZ(Z:ZZ)(x:Str)(c P:af):Prop:=(∀st ps f fd,Def Z.K Z.mg x st ps f fd->fd.code=.ref c)/\zqt Z.mg Z.base c P
theorem Def.okT{P:aO}{w:br}{K:qF}{mg:qM}{base:ba}{x q:Str}{st:dE}{ps N:List Str}{f Pt:af}{fd:cH}{k m:Nat}{g:GD}(D:Def K mg x st ps f fd)(S:Qs N ps (JE st))(hm:m=ps.length)
  (hb:∀(u:ae) (A:bc) (outer:List Env) (s:ak) (H:Hp) (E:XK),fd.code=u->Room k (A.deeper (envOfC x (JE st) s.heap.objs.size f u))->H Pt=some (.tbl q)->∃d,DSs (cxOf CX0 P w K mg base N x (JE st) f u A outer s H E).nox (J1 st) d /\
   ∀ts n R,ts.length=m->g ts n R->d { nx:=fun _ y=>R .none y,rt:=R } (JV N ts) n):FnOk P w K mg base CX0 (k+1) f fd ps (spT Pt q (spD K m g)):=by
 obtain⟨oc,od,kV,doc,pm,an,u,ct,osl,rfl,lk,U⟩:=D.F.ex;refine zsV lk U S (fun vs H Q E h=>?_) fun A outer s H vs Q E hr h=>?_;obtain⟨_,hd,O,ts,n,R,r,_,_,_,L,_⟩:=h;rw[r.length,L,hm];obtain⟨hP,hd,O,ts,n,R,r,hn,dom,hx,L,hg,Z⟩:=h;obtain⟨d,⟨t,pt,ht⟩,C⟩:=hb u A outer s H E rfl hr hP;obtain⟨S0,no⟩:=zdS (N:=N) r hn dom hx;refine⟨t,pt.nox,ht ⟨hd,O⟩ _ _ H n _ _ S0 (C ts n R L hg) ⟨fun ρ' σ' H' y h S' J=>?_,fun t y v H' h G J rp=>?_,fun _ _ _ _ h=>h.elim,fun _ _ _ _ h=>h.elim,fun _ _ _ h=>h.elim⟩⟩;exact Z .none y .non H' h (fun a o I Y=>(J a o I Y (no a)).1) S'.hnd .non;exact Z t y v H' h (fun a o I Y=>J a o I Y (no a)) G rp
theorem okQT{Z:ZZ}{c P:af}{x q:Str}{st:dE}{ps N:List Str}{k m:Nat}{g:GD}(I:LamZ Z x c P)(D:Dq Z.K Z.mg x st ps)(S:Qs N ps (JE st))(C:m=ps.length)
  (y:∀(f:af) (A:bc) (outer:List Env) (s:ak) (H:Hp) (E:XK),Room k (A.deeper (envOfC x (JE st) s.heap.objs.size f (.ref c)))->H P=some (.tbl q)->∃d,DSs (cxOf CX0 Z.P Z.w Z.K Z.mg Z.base N x (JE st) f (.ref c) A outer s H E).nox (J1 st) d /\
   ∀ts n R,ts.length=m->g ts n R->d { nx:=fun _ J=>R .none J,rt:=R } (JV N ts) n):FQT Z P q x st ps (k+1) m g:=by
 obtain⟨f,fd,D⟩:=D;refine⟨f,fd,D,D.okT S C fun u A outer s H E hc v G=>?_⟩;obtain rfl:u=.ref c:=hc.symm.trans (I.1 _ _ _ _ D);exact y f A outer s H E v G
section
variable{X:Cx}{x q:Str}{st:dE}{ps:List Str}{k n m:Nat}{g:GD}{p pos:Pos}{e:aQ}{es:List aQ}{ds:DTA}{P:af}
theorem YU(F:FQT ⟨X.prog,X.w,X.K,X.mg,X.base⟩ P q x st ps k m g)(hP:X.H₀ P=some (.tbl q))(J:Room n X.A)(h:DB X (e::es) ds)(hk:k<=n:=by decide)(Y:(e::es).length=m:=by rfl)(L:Gl X x:=by rfl)
  (o:(x == ("__debug__":Str))=false:=by rfl):DE X (.Call (.Name x p) (e::es) [] pos) (dFn g ds):=by
 obtain⟨f,fd,D,G⟩:=F;obtain⟨ta,pa,h⟩:=h;refine⟨_,zni G hP (J.mono hk) L D.m D.F.kp D.b .nil zru pa.pa o pa.hd.1 (pa.hd.2 pos),fun C I σ H n Q R S hd U=>?_⟩;refine h C I σ H n _ _ S hd fun ts n1 vs H1 r1 y u q1 l1=>?_;have S1:=S.on y u;rw[bS];exact⟨C.hd,Own C I σ,ts,n1,R,q1,u,fun a=>S1.lst,fun a z=>.inl (S.hx a z),l1.trans Y,r1,fun t n' v H' rt e2 Z q2=>U t n' v H' rt (y.trans e2) Z q2⟩
end
end Bd
namespace L2
open PySem PySem.Spec PySem.W PySem.Calls PyProof.Rows Att
theorem zlk{P:aO}{w:br}{K:qF}{mg mb:qM}{CX:CXT}{k:Nat}{fa a I:af}{fd:cH}{x q:Str}{sp:Sp}{C:ak}{R:List ae}{ns:List Int}
  (KX:K.In C.heap) (hT:C.heap.get? I=some (tabObj #[])) (hct:isCodeTable C.heap I) (hKP:K.lookup I=none) (hns:C.heap.Ns mainGlobals mg) (G:C.heap.Ns builtinsNs mb) (hbb:∀x:Str,x ≠ "__name__" -> mb x=bootBuiltins x) (hlim:C.heap.NoLimit) (hg:C.gens=#[])
  (U:C.heap.get? a=some { cls:=.type "list",data:=.seq R.toArray }) (hi:fg R ns) (hl:ns.length<=sizeLine) (hr:Room k callerA)
  (F:∀base:ba,K.In base->base.Ns mainGlobals mg->FnOk P w K mg base CX k fa fd [x] (spT I q sp)) (IB:∀(s:ak) (u:ae),oY s fd ⟨[u],[]⟩ [(x,u)])
  (hsp:∀H:Hp,SqL K H a (ns.map V.int)->sp [.ref a] H (fun v _=>v=.bl true) fun _ _ _=>False)
  (hCX:∀H e s',CX [] H C (fun _ _ _=>False) e s'->False) :
  codeAny (model P w) callerA (.call (.ref fa) ⟨[.ref a],[]⟩) (fun r s'=>r=.ok (.ret (.bool true))/\OldK C.heap s'.heap/\s'.os=C.os/\hX s'.gens) C:=by
 have rv:=zf6 hi;have lenV:=hi.length;have naP:a≠I:=fun z=>by rw[z,hT]at U;cases U
 have core:∀H:Hp,H I=some (.tbl q)->(∀b u,H b=some u->b≠I->b=a/\u=.frz { cls:=.type "list",data:=.seq R.toArray } (.lst (ns.map V.int)))->SqL K H a (ns.map V.int)->(H a≠none->K.lookup a=none) ->
   codeAny (model P w) callerA (.call (.ref fa) ⟨[.ref a],[]⟩) (fun r s'=>r=.ok (.ret (.bool true))/\OldK C.heap s'.heap/\s'.os=C.os/\hX s'.gens) C:=by
  intro H hP hA hS hK;have hok:HOk P w H C.heap:=fun b u e=>by by_cases G:b=I;subst G;rw[hP]at e;cases e;exact⟨#[],hT,trivial,fun pos cv z=>by cases z⟩;obtain⟨rfl,rfl⟩:=hA b u e G;exact⟨U,by rw[aP];exact hl,R,_,rv,U⟩
  have Ia:∀{b:af} {o:Obj},C.heap.get? b=some o->H b=none->(hidT C.heap H).get? b=some o:=fun e n=>znG e n;have noA:∀{b:af} {o:Obj} {es:Array d8} {ep:Nat},C.heap.get? b=some o->o.data=.dict es ep->H b=none:=fun {b o es ep} e d=>by
   cases z:H b with
   | none=>rfl
   | some u =>by_cases G:b=I;subst G;rw[hT]at e;cases e;cases d;obtain⟨rfl,_⟩:=hA b u z G;rw[U]at e;cases e;cases d
  have J:∀{b:af} {m:qM},C.heap.Ns b m->(hidT C.heap H).Ns b m:=fun {b m} ⟨o,es,ep,e,d,r⟩=>⟨o,es,ep,Ia e (noA e d),d,r⟩;have Y:K.In (hidT C.heap H):=fun b o e=>Ia (KX b o e) (by
   cases z:H b with
   | none=>rfl
   | some u =>by_cases G:b=I;subst G;rw[hKP]at e;cases e;obtain⟨rfl,_⟩:=hA b u z G;rw[hK (by rw[z];simp)]at e;cases e)
  have hM:Mod K mg (hidT C.heap H):=⟨Y,J hns,⟨mb,J G,hbb⟩,let ⟨mc,h1,h2⟩:=hlim;⟨mc,J h1,h2⟩⟩;have e0:Env0 P w K mg (hidT C.heap H) callerA [] C H:=⟨rfl,hM,fun b o e=>zpp e,t5 (zlL _ _),trivial,fun b G=>absurd (show b∈([]:List af) from G) (by simp),hok,.of_eq hg⟩;refine fG ((F _ Y (J hns)).run callerA [] C H ⟨[.ref a],[]⟩ [.ref a] [.ref a] _ _ hr e0 (IB C (.ref a)) (.cons rfl .nil) ⟨hP,hsp H hS⟩) fun r s' h=>?_;cases r with
  | error e=>exact(hCX H e s' h).elim
  | ok fl =>
   cases fl with
   | next=>exact cm h
   | brk=>exact cm h
   | cont=>exact cm h
   | ret u =>
    obtain⟨v,H',os,bare,un,L,r',z⟩:=h;have S:v=.bl true:=z;subst S;obtain rfl:u=ku true:=r';have kp:∀b o,b≠I->C.heap.get? b=some o->s'.heap.get? b=some o:=fun b o G e=>by
     cases z:H b with
     | none=>exact un.keep b o e z (by intro z;exact absurd (show b∈([]:List af) from z) (by simp)) (by simp)
     | some u =>obtain⟨rfl,rfl⟩:=hA b u z G;have z2:=un.frzs _ _ _ z;obtain⟨e1,_⟩:=hok _ _ z;obtain⟨e2,_⟩:=L _ _ z2;rw[e]at e1;cases e1;exact e2
    obtain⟨ps,Z,_⟩:=L I _ (un.tbls I q hP);refine⟨rfl,⟨fun b o e=>?_,fun b o e=>?_⟩,os,bare⟩;by_cases G:b=I;subst G;rw[hT]at e;cases e;exact .inr (.inl ⟨hct,rfl,#[],ps,rfl,by rw[Array.empty_append];exact Z⟩);exact .inl (kp b o G e);by_cases G:b=I;subst G;exact⟨_,Z⟩;exact⟨o,kp b o G e⟩
 cases hk:K.lookup a with
 | some o =>have e:=KX a o hk;rw[U]at e;cases e;refine core (fun b=>if b=I then some (.tbl q) else none) (if_pos rfl) (fun b u e G=>?_) (.inr ⟨_,R.toArray,_,hk,rfl,rfl,rfl,by rw[aw,lenV];exact hl,by simpa using rv⟩) fun z=>absurd (if_neg naP) z;have S:=(if_neg G).symm.trans e;cases S
 | none =>refine core (fun b=>if b=I then some (.tbl q) else if b=a then some (.frz { cls:=.type "list",data:=.seq R.toArray } (.lst (ns.map V.int))) else none) (if_pos rfl) (fun b u e G=>?_) (.inl (.inr ⟨{ cls:=.type "list",data:=.seq R.toArray },(if_neg naP).trans (if_pos rfl)⟩)) fun _=>hk;have S:=(if_neg G).symm.trans e;by_cases hba:b=a;subst hba;have z2:=(if_pos rfl).symm.trans S;exact⟨rfl,(au z2).symm⟩;have z2:=(if_neg hba).symm.trans S;cases z2
end L2
namespace Bd
open PySem PySem.W PySem.Calls L2 PyProof.Rows
section
variable{q:aO}{loose:List Str}{HN:nM->Option ae}{mg mb:qM}{h:ba}{x:Str}{st:dE}{ps:List Str}{c P:af}
abbrev gho(h:ba)(c P:af):ba:=ghostOf h [(c,P)]
theorem zs2(S:pY [(c,P)] h)(T:Top q loose HN mg mb h)(hd:recD st∈recsOf q)(N:defName st=x)(U:BndA x st ps):Dq (JU (gho h c P)) mg x st ps:=by
 obtain⟨a,o,pm,cd,doc,G,J,y,v⟩:=T.fn _ hd;have G:mg (defName st)=some (.ref a):=G;have v:h.CodeRec cd (defName st):=v;rw[N]at G v;have v:(gho h c P).CodeRec cd x:=by obtain⟨c',o',vs,t,e1,e2,I,L⟩:=v;exact⟨c',o',vs,t,e1,tB S e2 (fun z=>by rw[z]at I;cases I;cases L),I,L⟩
 have J:(gho h c P).get? a=some o:=tB S J fun z=>by rw[z]at y;cases y
 obtain⟨Z,od,Y,sl⟩:=o;have y:Y=.func (docDef (defName st) (Qy st) (J1 st) (JE st) pm cd doc):=y;rw[N]at y;have l:(JU (gho h c P)).lookup a=some ⟨Z,od,.func (dJ x x (Qy st) (J1 st) (JE st) .none .none doc pm none cd .none),sl⟩:=by rw[ZA J,y];rfl
 have kp:fB (JU (gho h c P)) (.ref a)=true:=by unfold fB;dsimp only;rw[l]
 exact⟨a,_,zor l (zmt v) kp,(zor l (zmt v) kp).binds U,G⟩
theorem zt0(T:Top q loose HN mg mb h)(hd:recD st∈recsOf q)(U:defName st=x):∃c P,pY [(c,P)] h/\isCodeTable h P/\∀base w L,(JU (gho h c P)).In base->LamZ ⟨L,w,JU (gho h c P),mg,base⟩ x c P:=by
 obtain⟨a,o,fd,c,P,u,h2,l,S,h5,C⟩:=T.tab _ hd;have u:mg (defName st)=some (.ref a):=u;rw[U]at u;have v:pY [(c,P)] h:=fun z hz=>by cases aJ.mp hz;exact⟨CodeHd.of h5 C,C.2⟩
 refine⟨c,P,v,C.isCodeTable,fun base w L J=>⟨fun R N f fd' D=>?_,?_,?_⟩⟩;have e:aX f=aX a:=au (D.m.symm.trans u);cases e;obtain⟨oc,od,kV,doc,pm,an,cdv,ct,osl,rfl,lk,hcd⟩:=D.F.ex;have g2:(gho h c P).get? a=some o:=tB v h2 fun z=>by rw[z]at l;cases l
 have G:=(ZA g2).symm.trans lk;cases G;have l:ym _=ym fd:=l;cases l;exact S;exact((ghost_code v).1).keeps fun b o e=>J b o (ZA e);obtain⟨bm,ob,a1,a2,Z,Y,r⟩:=(ghost_top v T).bmain;exact⟨bm,ob,a1,a2,J _ _ (ZA Z),Y,r⟩
theorem ztW{lw:PySem.W.OpenLaw}{q:aO}{loose:List Str}{XP:(Str->Option ae)->ba->Prop}{YP:br->ba->Prop}{d:DefRec}{k:Nat}(hk:k<=60)(hn:lw.most=some 63)(S:d.params.defaults=[])
  (F:∀(w:br) (s₀:ak) (mg mb:qM) (L:af) (h:ba),Ground q loose [] XP w s₀ mg mb h->mg d.name=some (.ref L) ->
   ∃(c P:af) (Z:Str) (fd:cH),pY [(c,P)] h/\isCodeTable h P/\(∀(s:ak) (u:ae),oY s fd ⟨[u],[]⟩ [("_law_script",u)])/\∀base:ba,(JU (gho h c P)).In base->base.Ns mainGlobals mg->FnOk lw.prog w (JU (gho h c P)) mg base CX0 k L fd ["_law_script"] (spT P Z (zoK (JU (gho h c P))))) :
  PySem.W.WalkO q loose XP YP lw.row.toRowW d [] (fun f vs=>wj f vs):=by
 refine Att.attach_call hn S fun w s₀ v mg mb L o pm cd doc a vs ns G Y ho hd hcd N J C y hg=>?_;obtain⟨c,P,Z,fd,hT,U,hb,hF⟩:=F w s₀ mg mb L _ G N;have KX:(JU (gho v.heap c P)).In v.heap:=fun b o e=>of_hideAll _ (zf4 b o e);have R:(JU (gho v.heap c P)).lookup P=none:=by
  cases e:(JU (gho v.heap c P)).lookup P with
  | none=>rfl
  | some o =>have e1:=zf4 _ _ e;have e2:(gho v.heap c P).get? P=none:=hideAll_none _ (.head _);rw[e2]at e1;cases e1
 exact zlk KX (hT _ (.head _)).2 U R G.T.g G.T.b G.T.builtins G.T.nolimit hg J C (bA y (by decide)) ((show Room 60 callerA from⟨rfl,by decide,by decide,rfl⟩).mono hk) hF hb (fun H hS=>⟨a,ns,rfl,hS,y,fun _=>rfl⟩) fun H e s' z=>z
end
end Bd
namespace L2
open PySem PySem.Spec PyProof.Rows
section
variable{ρ:En}{n:Nat}{Rl:List ab->Nat->Prop}{d dk db:DTE}
instance zqQ:Stp (zi_ d dk ρ n Rl) (d ρ n fun t n1=>JW t fun ts=>ts.length<64/\∃key:ab->Int,(∀t∈ts,∀R':ab->Nat->Prop,R' (.int (key t)) n1->dk [some (.val t)] n1 R') /\
 ∀ts':List ab,ts'.Perm ts->ts'.Pairwise (fun a b=>key a<=key b)->Rl ts' n1):=⟨fun h=>h⟩
end
end L2
namespace L2
open PySem PySem.Spec PyProof PyProof.Rows
section
variable{prog:aO}{w:br}{A:bc}{E:qV}{s:ak}
abbrev FB:=Int×(Int×Int)
end
section
variable{X:Cx}{e e1 e2:aQ}{x:Str}{pos:Pos}{d d1 d2:DTE}
def zqI(K:qF)(tk C:TE):TE:=fun σ H Q=>∀p,H p=none->∀ep,tk σ (upd H p (ZDO p [] ep)) fun y G=>C σ G fun v l=>∃o k b,y=.ref b/\l p=some (ZDO p [] o)/\SqT K l b [.int k.1,.int k.2]/\∀u,Q (.ref p) (upd l p (ZDO p (zput [] k b v) u))
theorem znd{tk G:TE}(Y:X.A.units+1<cLine)(hk:PE X e1 tk)(hv:PE X e2 G):PE X (.Dict [some e1] [e2] pos) (zqI X.K tk G):=by intro pins s σ H Q I h;have N:(s.heap.objs.size == sysModules)=false:=beq_eq_false_iff_ne.mpr (fc (ay I.big));obtain⟨ep,ok⟩:=Y1 (X:=X) (H':=H) (zs:=[]) N (bX _) .nil (kc s.heap);rw[arm_eval_Dict,zip_pairTrees [some e1] [e2] X.env pos rfl rfl,dictDisplay_pairs _ (by simp[pairTrees]) (by simp[pairTrees])];refine aa (cB (aa ?_));unfold subDict;refine aa (wpAny_alloc ?_);refine aa (bQ ?_);rw[if_pos (by simp[pairTrees])];have S:=I.laid (a:=s.heap.objs.size) (o:=ZDO s.heap.objs.size [] ep) (t':=s.toks) (h':=s.heap.push { cls:=.type "dict",data:=.dict #[] }) (fun _ _ q=>aj _ q) (av _) ok;refine aa (pairTrees_cons_walk (thn (hk pins _ σ _ _ S (h _ (I.hok.fresh (av _)) ep)) fun u s1 ⟨y,R,I1,ry,q1⟩=>thn (hv pins s1 σ R _ I1 q1) fun w2 s2 ⟨v,H2,I2,Z,J,k,b,ey,L,sq,U⟩=>pairTrees_nil_walk ?_));subst ey;cases(show u=aX b from ry);refine bQ (aa ?_);rw[lu];refine aa (aa (zj_ Y I2 L (fun z hz=>nomatch hz) sq (by rw[bK,dP];decide) Z fun s' C I'=>ag ?_));dsimp only;rw[iy];exact ag (ag (ag (ag ⟨.ref s.heap.objs.size,_,I',rfl,U C⟩)))
def zn_(i:Nat)(v o:DTE):DTS:=fun D l n=>v l n fun y C=>o l C fun t u=>lBlk y fun k=>lInt t fun j=>D.nx (l.set i (some (.dtt [(k,.int j)]))) u
theorem znN{i:Nat}{I dp:Pos}(hu:X.A.units+1<cLine)(hN:X.N.Nodup)(hi:X.N[i]?=some x)(hx:Loc X.env.scope x)(h1:DE X e1 d1)(h2:DE X e2 d2)(hs:swapsWith (.Dict [some e1] [e2] dp) (some (.Name x I)) pos.line X.env=pure false:=by rfl)(hf:X.fn x=true\/X.env.scope.names.lookup x=some .local:=by walk_at "F") :
  DS X (.Assign [.Name x I] (.Dict [some e1] [e2] dp) pos) (zn_ i d1 d2):=by
 obtain⟨t1,pa1,h1⟩:=h1;obtain⟨t2,pa2,h2⟩:=h2;refine⟨_,Qm hN hi hx (znd hu pa1 pa2) hs hf,fun C Z σ H n D D' S hd g=>?_⟩;intro p R ep;have e0:ExtE C.hd H (upd H p (ZDO p [] ep)):=ExtE.new R;have S0:=S.on e0 (S.hnd.same (JL R));have J:C.hd≠some p:=fun z=>S.dom (.inl (S.hx p z)) R;refine h1 C Z σ _ n _ _ S0 hd fun y n1 w H1 r e1 hn1 q1=>?_;have S1:=S0.on e1 hn1;refine h2 C Z σ H1 n1 _ _ S1 r fun t n2 v U r e2 hn2 q2=>?_;obtain⟨k,rfl,r⟩:=r;obtain⟨j,rfl,r⟩:∃j,t=.int j/\D'.nx (Z.set i (some (.dtt [(k,.int j)]))) n2:=by cases t <;> first|exact⟨_,rfl,r⟩|exact r.elim
 have q1:=e2.rep S.hx q1;have L:U p=some (ZDO p [] ep):=e2 _ _ (e1 _ _ JB J) J;obtain⟨b,rfl,sb⟩:=q1.bkI;refine⟨ep,k,b,rfl,L,sb,fun G=>?_⟩;rw[q2.intI];have e3:ExtE C.hd H (upd U p (ZDO p (zput [] k b (.int j)) G)):=ExtE.updR R ((e0.trans e1).trans e2);have hn3:Hn X.K C.hd (upd U p (ZDO p (zput [] k b (.int j)) G)) n2:=Hn.updR J (.inr (.inr ⟨_,L⟩)) hn2;have rb:Rep X.K C.hd (fun a=>Own C Z σ a\/a=p) (upd U p (ZDO p (zput [] k b (.int j)) G)) (.ref b) (.tuple [.int k.1,.int k.2]):=by
  have Y:∀{O:af->Prop} {H':Hp} {vs:List V},Reps X.K C.hd (Own C Z σ) U vs [.int k.1,.int k.2]->Reps X.K C.hd O H' vs [.int k.1,.int k.2]:=fun r=>by
   cases r with
   | cons a r=>cases r with
    | cons b r =>cases r;rw[a.intI,b.intI];exact .cons (.int _) (.cons (.int _) .nil)
  cases q1 with
  | @tup a vs ds h o r =>
   have ne:b≠p:=fun z=>by rw[z,L]at h;cases h
   exact .tup (by rw[Jg ne];exact h) (fun z=>z.elim o ne) (Y r)
  | tupS h r=>exact .tupS h (Y r)
 exact g.nx _ _ _ n2 r (S.putNew e3 hn3 R ⟨_,G,JB,.cons rb (.int j) .nil⟩) (zct e3 R)
end
section
variable{D:JH}{ρ:En}{n i:Nat}{dk dv:DTE}
instance zt8:Stp (zn_ i dk dv D ρ n) (dk ρ n fun y n1=>dv ρ n1 fun t n2=>lBlk y fun k=>lInt t fun j=>SetK i (some (.dtt [(k,.int j)])) D.nx ρ n2):=⟨fun h=>h⟩
end
open PySem.SeqAt in
theorem zjj(l:af)(J I x:ae)(n:Nat)(L:Option af)(S:Array (Option ae))(u e2:Bool)(C:u=true\/e2=true):Meets (dh.«tuple.index» ⟨[.ref l,x],[]⟩)
  (fun A R s=>s.heap.get? l=some { cls:=.type "tuple",dict:=L,data:=.seq #[J,I] n,slots:=S }/\EqAt A.in1 s J x u/\EqAt A.in1 s I x e2/\R (.ok (.ret (.int (if u then 0 else 1) s.toks))) { s with toks:=s.toks+1 }):=by
 intro prog w A R s h;obtain⟨U,g,d,tk,os⟩:=s;obtain⟨N,v,G,h⟩:=h;unfold dh.«tuple.index»;simp only[mz,um];wp_walk using lg N;simp only[aw,aE,bK,tR,eJ,Nat.reduceAdd,kM,iz,Nat.div_one,List.range',Nat.reduceSub,Nat.reduceDiv];unfold om;refine aa (aa (v prog w _ _ ?_));cases u with
 | true =>wp_walk;exact h
 | false =>
  simp only[aI,if_false];refine ag ?_;dsimp only;unfold om;refine aa (aa (G prog w _ _ ?_));cases e2 with
  | true =>wp_walk;exact h
  | false=>rcases C with h|h <;> cases h
section
variable{X:Cx}{a b:aQ}{da db:DTE}
theorem zk8:MtR X "tuple.index" (fun x xs H Q=>∃(l:af) (i j:Int),x=.ref l/\xs=[.int 0]/\SqT X.K H l [.int i,.int j]/\(i=0\/j=0)/\Q (.int (if i=0 then 0 else 1)) H):=by
 intro pins s σ H x xs v Z Q I y rs h;obtain⟨l,i,j,rfl,rfl,S,N,q⟩:=h;cases y;cases rs with
 | cons R L =>
  cases L;obtain⟨t,rfl⟩:=R;obtain⟨its,o,p,J⟩:=I.tuple S;cases o with
  | cons a o=>cases o with
   | cons b o =>
    cases o;obtain⟨G,rfl⟩:=a;obtain⟨U,rfl⟩:=b;obtain⟨⟨cls,C,data,Y⟩,u,hc,n,hd⟩:=id p;simp only at hc hd;subst hc hd;have e:(if decide (i=0)=true then(0:Int) else 1)=if i=0 then 0 else 1:=by simp
    refine kF iR ⟨_,u,rfl⟩ PySem.F.entry_tuple_index (PySem.F.args_tuple_index_2 _ _) (zjj l _ _ _ n C Y (decide (i=0)) (decide (j=0)) (by simpa using N)) ⟨u,(mC i 0 G t).at _ _,(mC j 0 U t).at _ _,?_⟩;rw[e];exact⟨.int _,H,I.tok _,⟨_,rfl⟩,q⟩
def tyT(K:qF)(x:V)(H:Hp):Prop:=∃p l,x=.ref p/\(H p=some (.tup l)\/StT K p l)
theorem zqD{pins:qO}{σ:St}{H:Hp}{s:ak}{x:V}{v:ae}(I:Inv X pins σ H s)(r:RelV x v)(ty:tyT X.K x H):s.TypeIs v "tuple" /\ ∀a,v=.ref a->∃l,s.heap.get? a=some l/\l.dict=none:=by
 obtain⟨p,R,rfl,ty⟩:=ty;cases r;have z:∃o,s.heap.get? p=some o/\o.cls=.type "tuple" /\ o.dict=none:=by rcases ty with h|⟨o,its,n,C,u,J,L,N,G⟩;obtain⟨_,its,_,o,e,c,_,d⟩:=I.hok p _ h;exact⟨o,e,c,d⟩;exact⟨o,I.kIn p o C,u,G⟩
 obtain⟨o,e,c,d⟩:=z;exact⟨⟨o,e,c⟩,fun a q=>by cases q;exact⟨o,e,d⟩⟩
def tBMT(K:qF)(r:V->List V->Hp->VK->Prop)(to:TE)(t:TA):TE:=fun σ H Q=>to σ H fun x l=>tyT K x l/\t σ l fun xs o=>r x xs o Q
theorem zrq{o e:aQ}{es:List aQ}{to:TE}{t:TA}{name:Str}{apos G:Pos}{id:String}{r:V->List V->Hp->VK->Prop}(slot:Slot "tuple" name id) (J:typeOf (.builtin id)=pure (.type "method_descriptor")) (Y:MtR X id r) (U:PE X o to) (ha:PA X (e::es) t)
  (Hh:attributeBase o name X.env (eval o X.env)=eval o X.env)
  (HM:((backTo G (starEach (e::es) X.env)).all (fun x=>!x.1)&&(backToKw G (keywordEach [] X.env)).all (fun x=>x.1.isSome)
   && decide ((e::es).length+([]:List gC).length+(if ([]:List gC).isEmpty then 0 else 1)<30))=true)
  (Hi:(apos.endLine == G.line)=true) (Z:starEach (e::es) X.env=(false,eval e X.env)::starEach es X.env) (HX:(backTo G (starEach es X.env)).any (·.1)=false) :
  PE X (.Call (.Attribute o name apos) (e::es) [] G) (tBMT X.K r to t):=by
 intro pins s σ H Q I h;refine kE Hh HM Hi rfl (thn (U pins s σ H _ I h) fun v s1 ⟨x,H1,N,L,ty,q1⟩=>?_);obtain⟨h1,h2⟩:=zqD N L ty;refine⟨"tuple",id,PySem.F.plainAttrs_tuple,slot,J,h1,h2,?_⟩;have R:=ha G pins s1 σ H1 _ N q1;rw[Z]at R ⊢;refine gA (by show(false||(backTo G (starEach es X.env)).any (·.1))=false;rw[HX] <;> rfl) (lX ?_);exact thn R fun us s2 ⟨vs,S,I2,r2,q2⟩=>Y pins s2 σ S x vs v us Q I2 L r2 q2
def zmi(da db:DTE):DTE:=fun o n R=>da o n fun t v=>∃i j:Int,t=.tuple [.int i,.int j]/\db o v fun y x=>y=.int 0/\(i=0\/j=0)/\R (.int (if i=0 then 0 else 1)) x
theorem zmd{p2 p3:Pos}(h:DE X a da)(h':DE X b db)(G:starEach [b] X.env=[(false,eval b X.env)]:=by rfl)(Hh:attributeBase a "index" X.env (eval a X.env)=eval a X.env:=by rfl)
  (HM:((backTo p3 (starEach [b] X.env)).all (fun x=>!x.1)&&(backToKw p3 (keywordEach [] X.env)).all (fun x=>x.1.isSome)
   && decide ([b].length+([]:List gC).length+(if ([]:List gC).isEmpty then 0 else 1)<30))=true:=by rfl)
  (Hi:(p2.endLine == p3.line)=true:=by rfl) (N:(backTo p3 (starEach ([]:List aQ) X.env)).any (·.1)=false:=by rfl):DE X (.Call (.Attribute a "index" p2) [b] [] p3) (zmi da db):=by
 obtain⟨ta,pa,h⟩:=h;obtain⟨tb,pb,h'⟩:=h';refine⟨_,zrq iR PySem.F.type_tuple_index zk8 pa (Qh pb QI G) Hh HM Hi G N,fun C ρ σ H n Q R S hd hq=>?_⟩;refine h C ρ σ H n _ _ S hd fun t n1 v Z r e1 h1 Y=>?_;obtain⟨i,j,rfl,r⟩:=r;have S1:=S.on e1 h1;obtain⟨p,rfl,sq⟩:=Y.bkI;have ty:tyT X.K (.ref p) Z:=by
  cases Y with
  | tup h o r=>exact⟨_,_,rfl,.inl h⟩
  | tupS h r=>exact⟨_,_,rfl,.inr h⟩
 refine⟨ty,h' C ρ σ Z n1 _ _ S1 r fun y n2 w H2 J e2 L q2=>?_⟩;obtain⟨rfl,hk,J⟩:=J;obtain⟨p',e',U⟩:=(e2.rep S.hx Y).bkI;cases e';have ew:=q2.intI;subst ew;exact⟨p,i,j,rfl,rfl,U,hk,hq _ n2 _ H2 J (e1.trans e2) L (.int _)⟩
instance ztx {ρ:En}{n:Nat}{R:qN}:Stp (zmi da db ρ n R) (da ρ n fun t n1=>∃i j:Int,t=.tuple [.int i,.int j]/\db ρ n1 fun y n2=>y=.int 0/\(i=0\/j=0)/\R (.int (if i=0 then 0 else 1)) n2):=⟨fun h=>h⟩
end
section
variable{prog:aO}{w:br}{A:bc}{E:qV}{s:ak}
theorem zkc(N:A.handled=none)(it d:af)(C:it≠d)(es:Array d8)(ep:Nat):Walks prog w A it [it,d] [it] es.size (fun i v=>∃e,es[i]?=some e/\v=e.key) (fun i h=>h.IsKeyIter it d i es.size ep/\UM h d es ep) where
 sub:=by simp
 frame:=fun i h h' ⟨⟨o,e,r⟩,⟨I,e2,L⟩⟩ k=>⟨⟨o,k it (by simp) o e,r⟩,⟨I,k d (by simp) I e2,L⟩⟩
 item:=fun i s Q E hi ⟨st,l⟩ y=>by have hx:es[i]?=some es[i]:=eD hi;refine zkF st l hx fun h' x G=>y _ h' s.toks ⟨_,hx,rfl⟩ ⟨x,?_⟩ fun b o u e=>(G.2 b (by simpa using u)).trans e;obtain⟨o,e,r⟩:=l;exact⟨o,(G.2 d C.symm).trans e,r⟩
 done:=fun s Q E ⟨st,l⟩ y=>zm7 N st l (av _) fun h' J=>y h' s.toks fun b o u e=>J b o (by simpa using u) e
 self:=fun i s Q E st h=>wpAny_pyIter_keyiter st.1 h
theorem zpD{d:af}{es:Array d8}{ep:Nat}(lo:(d == sysModules)=false):PySem.W.KdlSrc prog w "dict" d d es.size (fun i v=>∃e,es[i]?=some e/\v=e.key) (fun h=>UM h d es ep) where
 type:=fun _ ⟨o,e,x,_⟩=>⟨o,e,x.1⟩
 there:=fun _ ⟨o,e,_⟩=>⟨ax e,ax e⟩
 keep:=fun _ _ ⟨o,e,r⟩ I=>⟨o,I d (.inl rfl) o e,r⟩
 notList:=by decide
 notTuple:=by decide
 hint:=fun _ _ _ _ ⟨o,e,x,_⟩ u=>PySem.W.kdl_hint_dict ⟨o,e,x.1⟩ u
 iter:=fun _ _ G C=>⟨_,_,(fun _ _ u=>zkE lo C u),zkc G _ d (by obtain⟨o,e,_⟩:=C;exact(ay (ax e)).symm) es ep,⟨⟨_,aA _ rfl,rfl,rfl⟩,by obtain⟨o,e,r⟩:=C;exact⟨o,aj _ e,r⟩⟩⟩
end
section
variable{X:Cx}{e:aQ}{d:DTE}{p pos:Pos}
theorem zjX(hc:X.calm=true):JQ X (.type "list") (fun xs H Q=>∃(p:af) (zs:ZT) (ep:Nat),xs=[.ref p]/\H p=some (ZDO p zs ep)/\∀l,H l=none->Q (.ref l) (upd H l (.lst (zs.map fun z=>V.ref z.2.1)))):=by
 intro pins s σ H xs us Q I r h;obtain⟨p,zs,ep,rfl,R,q⟩:=h;obtain⟨u,rfl,ru⟩:=r.one;cases(show u=aX p from ru);obtain⟨⟨U,J,nd,o,es,g1,g2,g3,pr⟩,_⟩:=I.hok p _ R;have L:es.size=zs.length:=by have:=dI pr;simpa using this.symm
 refine PySem.W.kdl_call (zpD (es:=es) (ep:=ep) U) (I.ok.hd hc) ⟨o,g1,g2,g3⟩ (by rw[L];exact J) fun h' tk G c kp hS HR=>?_;refine⟨.ref s.heap.objs.size,_,I.laid (a:=s.heap.objs.size) (o:=.lst _) (t':=tk) kp (av _) ⟨?_,G.toList,c,?_,by rw[my];exact hS⟩,rfl,q _ (I.hok.fresh (av _))⟩;rw[aP];exact J;obtain⟨Z,S⟩:=HR;refine zgq (P:=fun(x:V) (v:ae)=>RelV x v) (l:=zs.map fun z=>V.ref z.2.1) (m:=G.toList) (by rw[aP];exact(fO.trans (Z.trans L)).symm) fun j i v hi N=>?_;rw[gS]at N;obtain⟨e,he,rfl⟩:=S j v N;rw[aD]at hi;obtain⟨z,hz,rfl⟩:=dr.mp hi;obtain⟨e',C,Y⟩:=zp5 pr hz;rw[gS,he]at C;cases C;rw[Y];rfl
theorem Jj.keysR{K:qF}{hd:Option af}{O:af->Prop}{H:Hp}{zs:ZT}{ks:KT2}(r:Jj K hd O H zs ks):Reps K hd O H (zs.map fun z=>V.ref z.2.1) (ks.map fun q=>blkT q.1):=by
 have e:∀{zs:ZT} {ks:KT2},Jj K hd O H zs ks->Reps K hd O H (zs.map fun(z:(Int×Int)×af×V)=>V.ref z.2.1) (ks.map fun(q:(Int×Int)×ab)=>blkT q.1):=fun {zs ks} r=>by refine Jj.ind (P:=fun(zs:ZT) (ks:KT2)=>Reps K hd O H (zs.map fun(z:(Int×Int)×af×V)=>V.ref z.2.1) (ks.map fun(q:(Int×Int)×ab)=>blkT q.1)) .nil (fun h _ _ i=>?_) r;exact .cons h i
 exact e r
def zoD(d:DTE):DTA:=fun o n R=>d o n fun t l=>∃ks:KT2,t=.dict (Jq ks)/\R (ks.map fun q=>blkT q.1) l
theorem znQ(hc:X.calm=true)(U:X.mg "list" = none) (h:DE X e d) (Y:starEach [e] X.env=[(false,eval e X.env)]:=by rfl) (J:Gl X "list":=by rfl):DN X (.Call (.Name "list" p) [e] [] pos) (zoD d):=by obtain⟨ta,pa,h⟩:=h;refine⟨_,ZH (zjX hc) U (by decide +kernel) (JY pa Qk Y) J,fun C ρ σ H n Q R S hd L=>?_⟩;refine h C ρ σ H n _ _ S hd fun t n1 v H1 y I G q1=>?_;obtain⟨ks,rfl,y⟩:=y;obtain⟨a,zs,ep,rfl,Z,no,rk⟩:=q1.dtI;refine⟨a,zs,ep,rfl,Z,fun l u=>?_⟩;refine L _ n1 l _ _ y (I.trans (ExtE.new u)) (G.same (JL u)) (Uw I G u) JB (rk.keysR.mono (fun b o x z=>z.elim id fun z=>?_) fun b o _ x=>JL u b o x);subst z;rw[u]at x;cases x
instance zua {ρ:En}{n:Nat}{Rl:List ab->Nat->Prop}:Stp (zoD d ρ n Rl) (d ρ n fun t n1=>∃ks:KT2,t=.dict (Jq ks)/\Rl (ks.map fun q=>blkT q.1) n1):=⟨fun h=>h⟩
end
section
variable{bits:Int}{ps:BL}{qs:PR}{b v:Int×Int}
theorem PrOk.kids(h:PrOk bits ps qs)(m:(b,v)∈qs)(p:Prt ps b):∃x y,valP qs (loH b)=some x/\valP qs (upH b)=some y/\v=(if x.2+y.2+1<x.1+y.1 then x.2+y.2+1 else x.1+y.1,if x.1+y.1+1<x.2+y.2 then x.1+y.1+1 else x.2+y.2):=by
 have k:=h.rgt (b,v) m false false ⟨fun z=>(nomatch z),fun z=>absurd z p.1⟩ ⟨fun z=>(nomatch z),fun z=>absurd z p.2⟩;unfold bpD at k;dsimp only at k;cases e1:valP qs (loH b) with
 | none=>rw[e1]at k;cases k
 | some x =>
  cases e2:valP qs (upH b) with
  | none=>rw[e1,e2]at k;cases k
  | some y =>rw[e1,e2]at k;exact⟨x,y,rfl,rfl,(au k).symm⟩
theorem PrOk.leaf(h:PrOk bits ps qs)(m:(b,v)∈qs)(p:¬Prt ps b):(HasN ps b/\v=(0,1))\/(¬HasN ps b/\HasA ps b/\v=(1,0)):=by
 classical
 have k:=h.rgt (b,v) m (decide (HasN ps b)) (decide (HasA ps b)) (by rw[decide_eq_true_eq]) (by rw[decide_eq_true_eq]);unfold bpD at k;by_cases hn:HasN ps b;rw[decide_eq_true hn]at k;exact .inl ⟨hn,(au k).symm⟩;have o:HasA ps b:=bF fun z=>p ⟨hn,z⟩;rw[decide_eq_false hn,decide_eq_true o]at k;exact .inr ⟨hn,o,(au k).symm⟩
theorem PrOk.mem(h:PrOk bits ps qs):∃bs:BL,PInv bits ps bs bs.length/\qs.map (·.1)=bs.reverse:=by obtain⟨bs,I,J⟩:=h;exact⟨bs,I,by rw[J.keys,<- d0,cX]⟩
theorem PrOk.nokid(h:PrOk bits ps qs)(m:(b,v)∈qs)(p:¬Prt ps b)(y:1<=b.2):valP qs (loH b)=none:=by
 obtain⟨bs,I,e⟩:=h.mem;have B:=h.bk _ m;cases k:valP qs (loH b) with
 | none=>rfl
 | some x =>
  have u:loH b∈bs:=by have:=dZ (f:=(·.1)) (Q7 k);rw[e]at this;exact fL.mp this
  rcases I.par _ u with z|⟨j,c,G,hc,pc,z⟩;have:=congrArg pW z;have o:=B.2.1;dsimp only at this o;lia;have C:=I.bk _ (aB hc);have eq:=ziW B C y (pc.pos C) (.inl rfl) z;rw[<- eq]at pc;exact absurd pc p
end
def sgn(a:Int)(x y:Int×Int):Int:=if a=0 then(if x.1+y.1<=x.2+y.2+1 then 0 else 1) else(if x.2+y.2<=x.1+y.1+1 then 1 else 0)
abbrev Qr(X:Cx)(scope:dD)(v:Str)(C:af):List (Str×af):=(v,C+1)::closed X.env scope.names []
abbrev JG(X:Cx)(scope:dD)(own:List Str)(capt:List Nat)(v:Str)(C:af)(s₀:ak)(H₀:Hp)(fp:List af):Cx :=
 { X with N:=own++capN X capt,s₀:=s₀,H₀:=H₀,env:=compEnvC scope (Qr X scope v C) C X.env,outer:=X.stack,stack:=X.stack,ex:=fp,fn:=fun y=>y == v,pn:=[],xe:=fun _ _=>False }
structure Qc(scope:dD)(own:List Str)(capt:List Nat)(v:Str)(X:Cx):Prop where
 kind:scope.kind=.function
 one:scope.names.filter (fun y=>y.2 == .cell)=[(v,.cell)]
 look:scope.names.lookup v=some .cell
 names:∀y∈scope.names,y.2=.local->scope.names.lookup y.1=some .local
 frees:∀y∈scope.names,y.2=.free->X.env.kindOf y.1=some .cell\/X.env.kindOf y.1=some .free
 caps:∀k∈capt,scope.names.lookup (X.N.getD k gT)=some .free
 nov:∀y∈scope.names,y.2=.free->y.1≠v
theorem Ub{v x:Str}{K:af}{l:List (Str×af)}:((v,K)::l).lookup x=if x=v then some K else l.lookup x:=by rw[cF];by_cases z:x=v;subst z;simp;rw[if_neg z,(beq_eq_false_iff_ne (a:=x) (b:=v)).mpr z]
theorem zg_{v:Str}:∀{names:List (Str×dQ)} (n:Nat) (o:List (Str×af)) (h:ba),names.filter (fun y=>y.2 == .cell)=[(v,.cell)]->cellsFrom n names o=(v,n)::o/\pushCells h names=h.push { cls:=.type "cell",data:=.cell none }
 | [],n,o,h,e=>by simp at e
 | (x,k)::names,n,o,h,e=>by
  have nn:∀{names:List (Str×dQ)} (n:Nat) (o:List (Str×af)) (h:ba),names.filter (fun y=>y.2 == .cell)=[]->cellsFrom n names o=o/\pushCells h names=h:=by
   intro names;induction names with
   | nil=>intro n o h _;exact⟨rfl,rfl⟩
   | cons a names G =>intro n o h e;obtain⟨x,k⟩:=a;rw[oo]at e;by_cases z:(k == ft)=true;rw[if_pos z]at e;cases e;rw[if_neg z]at e;unfold cellsFrom pushCells;rw[if_neg z,if_neg z];exact G n o h e
  rw[oo]at e;by_cases z:(k == ft)=true;rw[if_pos (show((x,k).2 == ft)=true from z)]at e;have I:=(eR e).1;have e2:=(eR e).2;cases I;obtain⟨u,C⟩:=nn (n+1) ((v,n)::o) (h.push { cls:=.type "cell",data:=.cell none }) e2;unfold cellsFrom pushCells;rw[if_pos z,if_pos z];exact⟨u,C⟩;rw[if_neg (show ¬((x,k).2 == ft)=true from z)]at e;unfold cellsFrom pushCells;rw[if_neg z,if_neg z];exact zg_ n o h e
theorem zjC{M:sU}{A:bc}{E:qV}{s:ak}{scope:dD}{globals:af}{cl:List (Str×af)}{qual:Str}{outer:Env}{v:Str}{Q:Env->ak->Prop}(one:scope.names.filter (fun y=>y.2 == .cell)=[(v,.cell)])
  (C:∀h',h'.Ns s.heap.objs.size (fun _=>none)->(∀b o,s.heap.get? b=some o->h'.get? b=some o)->h'.get? (s.heap.objs.size+1)=some { cls:=.type "cell",data:=.cell none } ->
   Q { scope,locals:=s.heap.objs.size,globals,cells:=(v,s.heap.objs.size+1)::cl,qual,func:=none,code:=outer.code,frame:=outer.frame,builtins:=outer.builtins } { s with heap:=h' }) :
  wpAny M A (newFunctionEnv scope globals cl [] qual none .none (some outer)) Q E s:=by
 simp only[newFunctionEnv,nc,if_true];refine aa (wpAny_alloc (aa (wpAny_layCells _ (fun name kind cells=>by cases hkc:kind == ft <;> simp[hkc]) _ _ _ _ ?_)));have sz:(s.heap.push { cls:=.type "dict",data:=.dict #[] }).objs.size=s.heap.objs.size+1:=l4 ..;obtain⟨x,u⟩:=zg_ (s.heap.push { cls:=.type "dict",data:=.dict #[] }).objs.size cl (s.heap.push { cls:=.type "dict",data:=.dict #[] }) one;dsimp only;rw[x,u,sz];rw[iy];refine aa (ag (ag (C _ ?_ ?_ ?_)));exact(Heap.Ns.new s.heap (.type "dict")).keeps fun b o e=>aj _ e;exact fun b o e=>aj _ (aj _ e);have:=aA (s.heap.push { cls:=.type "dict",data:=.dict #[] }) (o:={ cls:=.type "cell",data:=.cell none }) rfl;rwa [sz]at this
section
variable{X:Cx}{scope:dD}{own:List Str}{capt:List Nat}{cv:Str}
theorem Qc.cells(S:Qc scope own capt cv X)(ok:X.Ok):∀x∈scope.names,x.2=.free->∃c,X.env.cells.lookup x.1=some c:=fun x hx hf=>ok.has x.1 (S.frees x hx hf)
theorem Qc.isv(S:Qc scope own capt cv X){x:Str}(h:(x,ft)∈scope.names):x=cv:=by have:(x,ft)∈scope.names.filter (fun y=>y.2 == .cell):=fj.mpr ⟨h,rfl⟩;rw[S.one,aJ]at this;exact congrArg mw this
theorem znW{pins:qO}{σ:St}{H₀:Hp}{s₀:ak}{C:af}{U:List af}(S:Qc scope own capt cv X)(I:Inv X pins σ H₀ s₀)(hf:∀b∈U,FpOk X pins H₀ b)(N:∀b∈U,b<s₀.heap.objs.size)(R:s₀.heap.objs.size<=C) :
  (JG X scope own capt cv C s₀ H₀ U).Ok:=by
 have sub:=UA scope.names [] (S.cells I.ok) (fun x c h=>nomatch (show(none:Option af)=some c from h));refine⟨I.ok.mod,S.kind,I.ok.glob,I.ok.blt,R,fun x y c J G=>?_,fun x hk=>?_,fun x c z h=>?_,I.ok.hd,I.ok.frames,.inl rfl,fun b L=>?_,I.bs,bA I.ok.bsz I.sz,fun b o e L=>?_,fun b L z=>?_,I.stack,I.stkFree⟩;have J:(Qr X scope cv C).lookup x=some c:=J;have G:(Qr X scope cv C).lookup y=some c:=G;rw[Ub]at J G;have old:∀z,(closed X.env scope.names []).lookup z=some (C+1)->False:=fun z hz=>by obtain⟨w,q⟩:=I.cell z _ (sub z _ hz);exact absurd (aq q.lt R) (by omega)
 by_cases zx:x=cv <;> by_cases zy:y=cv;rw[zx,zy];rw[if_pos zx]at J;rw[if_neg zy,<- au J]at G;exact(old y G).elim;rw[if_pos zy]at G;rw[if_neg zx,<- au G]at J;exact(old x J).elim;rw[if_neg zx]at J;rw[if_neg zy]at G;exact I.ok.inj x y c (sub x c J) (sub y c G);have e:=VF scope X.env x;show ∃c,(Qr X scope cv C).lookup x=some c;rw[Ub];have v:(relabel scope X.env).names.lookup x=some .cell\/(relabel scope X.env).names.lookup x=some .free:=hk;rw[e]at v;cases q:scope.names.lookup x with
 | none=>rw[q]at v;rcases v with z|z <;> cases z
 | some k =>
  rw[q]at v;cases k with
  | free =>rw[if_neg (S.nov _ (lookup_mem q) rfl)];exact Zx scope.names [] x (lookup_mem q)
  | cell =>rw[if_pos (S.isv (lookup_mem q))];exact⟨_,rfl⟩
  | _=>rcases v with z|z <;> cases z
 have h:(Qr X scope cv C).lookup x=some c:=h;rw[Ub,if_pos (beq_iff_eq.mp z)]at h;rw[<- au h];exact bA R (cT _);obtain⟨f0,f1,f2,Y,f4,Z⟩:=hf b L;refine⟨ay (aq (N b L) R),fun x c e=>?_⟩;have e:(Qr X scope cv C).lookup x=some c:=e;rw[Ub]at e;by_cases z:x=cv;rw[if_pos z]at e;rw[<- au e];exact fF (aq (N b L) (bA R (cT _)));rw[if_neg z]at e;exact f4 x c (sub x c e);obtain⟨f0,f1,f2,Y,f4,Z⟩:=hf b L;rcases Y with z|z;exact I.ok.noex b o e z;exact absurd (aq (ax (I.ok.bs b o e).1) z) (fk _);obtain⟨f0,f1,f2,Y,f4,Z⟩:=hf b L;rcases aC.mp (I.stkSub b z) with q|q;exact f1 q;exact f2 q
theorem zjW{J:HO}{pins:qO}{σ:St}{H₀:Hp}{s₀:ak}{fp:List af}{h':ba}{D C:af}{tk:Nat}(S:Qc scope own capt cv X)(I:Inv X pins σ H₀ s₀)(hf:∀b∈fp,FpOk X pins H₀ b)(hfp:∀b∈fp,b<s₀.heap.objs.size)
  (hD:s₀.heap.objs.size<=D) (hC:s₀.heap.objs.size<=C) (hDC:D≠C) (old:∀b o,s₀.heap.get? b=some o->h'.get? b=some o) (hns:h'.Ns C (fun _=>none)) (hcl:h'.get? (C+1)=some { cls:=.type "cell",data:=.cell none }) (hDK:D≠C+1) (N:JI X.prog X.w (upd H₀ D J) h' D J) :
  Inv (JG X scope own capt cv C s₀ H₀ fp) [] (Jl own++capS capt σ) (upd H₀ D J) { s₀ with heap:=h',toks:=tk }:=by
 have ok:=znW S I hf hfp hC;have sub:=UA scope.names [] (S.cells I.ok) (fun x c h=>nomatch (show(none:Option af)=some c from h));have hn:H₀ D=none:=I.hok.fresh hD;refine⟨ok,rfl,I.bare,Un.laid old hD hn,⟨_,hns,fun i x v e1 e2 e3=>?_⟩,fun x c e=>?_,?_,fun x c e=>?_,fun p hp=>absurd (show p∈([]:qO) from hp) (by simp),I.hok.laid (o:=J) old hD N,(by show(Jl own++capS capt σ).length=(own++capN X capt).length;simp[Jl,capS,capN])⟩;have L:(Jl own).length=own.length:=aP ..;by_cases hi:i<own.length;rw[bu (by rw[L];exact hi)]at e2;unfold Jl at e2;rw[aD]at e2;cases q:own[i]? with
 | none=>rw[q]at e2;cases e2
 | some z=>rw[q]at e2;cases e2
 have Z:own.length<=i:=iW hi;have G:(own++capN X capt)[i]?=some x:=e1;rw[bH Z]at G;rw[bH (by rw[L];exact Z),L]at e2;unfold capN at G;unfold capS at e2;rw[aD]at G e2;cases q:capt[i - own.length]? with
 | none=>rw[q]at G;cases G
 | some k =>
  rw[q]at G e2;have ex:X.N.getD k gT=x:=au G;have ev:σ.getD k none=some v:=au e2;have hk:k∈capt:=aB q;have hv:=getD_some ev;have U:k<X.N.length:=by rw[<- I.len];exact(ao.mp hv).1
  have hx:X.N[k]?=some x:=by rw[aM,ah U]at ex;rw[ah U];exact congrArg some ex
  have Y:=S.caps k hk;rw[ex]at Y;have HH:=S.frees _ (lookup_mem Y) rfl;obtain⟨m,hm,hl⟩:=I.loc;have vis:Vis X.env.scope x:=by rcases HH with z|z;exact .inr (.inl z);exact .inr (.inr z)
  obtain⟨u,r,l⟩:=hl k x v hx hv vis;refine⟨u,r,.inr ⟨?_,?_⟩⟩;have e:=VF scope X.env x;rw[Y]at e;show(relabel scope X.env).names.lookup x=some .cell\/(relabel scope X.env).names.lookup x=some .free;rw[e];unfold kin;by_cases c:(X.env.scope.kind == .function&&X.env.kindOf x == some .cell)=true;rw[if_pos c];exact .inl rfl;rw[if_neg c];exact .inr rfl;rcases l with⟨z,_⟩|⟨_,c,hc,R⟩;rcases HH with y|y <;> (have y':X.env.kindOf x=_:=y;rw[z]at y';cases y');obtain⟨d,hd⟩:=Zx (env:=X.env) scope.names [] x (lookup_mem Y);have:=sub x d hd;rw[hc]at this;cases this;obtain⟨o,N,hod⟩:=R;exact⟨c,by show(Qr X scope cv C).lookup x=some c;rw[Ub,if_neg (S.nov _ (lookup_mem Y) rfl)];exact hd,o,old _ _ N,hod⟩
 have e:(Qr X scope cv C).lookup x=some c:=e;rw[Ub]at e;by_cases z:x=cv;rw[if_pos z]at e;rw[<- au e];exact⟨none,_,hcl,rfl⟩;rw[if_neg z]at e;obtain⟨v,o,N,hd⟩:=I.cell x c (sub x c e);exact⟨v,o,old _ _ N,hd⟩;show upd H₀ D J C=none;rw[Jg (fc hDC)];exact I.hok.fresh hC;have e:(Qr X scope cv C).lookup x=some c:=e;rw[Ub]at e;show upd H₀ D J c=none;by_cases z:x=cv;rw[if_pos z]at e;rw[<- au e,Jg (fc hDK)];exact I.hok.fresh (bA hC (cT _));rw[if_neg z]at e;obtain⟨v,o,N,hd⟩:=I.cell x c (sub x c e);rw[Jg (ay (aq (ax N) hD))];exact I.freeC x c (sub x c e)
theorem zmr{pins:qO}{σ:St}{H₀:Hp}{s₀:ak}{x:List af}{h':ba}{D C:af}{tk:Nat}(S:Qc scope own capt cv X)(I:Inv X pins σ H₀ s₀)(hf:∀b∈x,FpOk X pins H₀ b)(u:∀b∈x,b<s₀.heap.objs.size)
  (N:s₀.heap.objs.size<=D) (U:s₀.heap.objs.size<=C) (G:D≠C) (old:∀b o,s₀.heap.get? b=some o->h'.get? b=some o) (J:h'.Ns C (fun _=>none)) (L:h'.get? (C+1)=some { cls:=.type "cell",data:=.cell none }) (v:D≠C+1) (R:h'.get? D=some { cls:=.type "list",data:=.seq ([]:List ae).toArray 0 }) :
  Inv (JG X scope own capt cv C s₀ H₀ x) [] (Jl own++capS capt σ) (upd H₀ D (.lst [])) { s₀ with heap:=h',toks:=tk }:=zjW S I hf u N U G old J L v ⟨bX _,[],0,.nil,R⟩
theorem zmp{pins Y:qO}{σ σ':St}{H₀ H':Hp}{s₀ s':ak}{R:List af}{l:ba}{C:af}(I:Inv X pins σ H₀ s₀)(hf:∀b∈R,FpOk X pins H₀ b)(hC:s₀.heap.objs.size<=C)
  (J:Inv (JG X scope own capt cv C s₀ H₀ R) Y σ' H' s') (N:c9 C s'.heap l):Inv X pins σ H' { s' with heap:=l }:=by
 have L:H' C=none:=J.free;have x:∀b o,s₀.heap.get? b=some o->b≠C:=fun b o e=>ay (aq (ax e) hC);have u:Un (frs X.stack) R H₀ H' s₀.heap s'.heap:=J.base;have U:Un (frs X.stack) R H₀ H' s₀.heap l:=by refine⟨fun b o q n S G=>(N.2 b (x b o q)).trans (u.keep b o q n S G),fun b o q n S G=>?_,u.free,fun b o q G=>?_,u.tups,u.frzs,u.tbls⟩;obtain⟨sl,e⟩:=u.slot b o q n S G;exact⟨sl,(N.2 b (x b o q)).trans e⟩;obtain⟨o',e⟩:=u.there b o q G;exact⟨o',(N.2 b (x b o q)).trans e⟩
 have hok:HOk X.prog X.w H' l:=fun b ob e=>by refine(J.hok b ob e).stay (fun c v hc q=>(N.2 c ?_).trans q) (fun _ q=>q) (fun _ _ q=>q) fun _ _ _ q=>q;rintro rfl;rcases hc with z|z;subst z;rw[L]at e;cases e;rw[L]at z;cases z
 refine I.call' (s':={ s' with heap:=l }) J.os U hok J.bare fun b Z=>?_;obtain⟨f0,f1,f2,f3,f4,f5⟩:=hf b Z;exact⟨f3,f1,f4,f5⟩
end
section
variable{X:Cx}{scope:dD}{own:List Str}{capt:List Nat}{cv:Str}{elt tg iter:aQ}{ifs:List aQ}{pos:Pos}{wi:TI}{g:TG}{tt:TT}{te:TE}
theorem zjS(S:Qc scope own capt cv X){pins:qO}{σ:St}{I:Hp}{s2:ak}{G:List af}{C:af}(L:Inv X pins σ I s2)(f2:∀b∈G,FpOk X pins I b)(v:∀b∈G,b<s2.heap.objs.size)(J:s2.heap.objs.size<=C){H':Hp}(R:∀b∈G,H' b=none):∀b∈G,FpOk (JG X scope own capt cv C s2 I G) [] H' b:=fun b y=>by obtain⟨Z,g1,g2,g3,U,Y⟩:=f2 b y;have sub:=UA scope.names [] (S.cells L.ok) (fun x c h=>nomatch (show(none:Option af)=some c from h));refine⟨R b y,ay (aq (v b y) J),fun z=>?_,.inl y,fun x c e=>?_,fun p N=>absurd (show p∈([]:qO) from N) (by simp)⟩;rcases aC.mp (L.stkSub b z) with q|q;exact g1 q;exact g2 q;have e:(Qr X scope cv C).lookup x=some c:=e;rw[Ub]at e;by_cases z:x=cv;rw[if_pos z]at e;rw[<- au e];exact fF (aq (v b y) (bA J (cT _)));rw[if_neg z]at e;exact U x c (sub x c e)
theorem zjV(S:Qc scope own capt cv X){pins:qO}{σ:St}{R:It->Hp->Prop}{Z:ae}{s2:ak}{E:qV}{CA:ae->Env->ak->Prop}(h2:PIE X pins σ tg R Z s2)
  (k:∀(it:af) (I:List af) (tn:Nat->ba->Prop) (J:It) (L:Hp) (D C:af) (v:ba),Z=.ref it->Turn X.prog X.w X.K tg J I it tn->R J L->L D=none->tn 0 v->(∀b∈I,upd L D (.lst []) b=none) ->
   (∀tk,Inv (JG X scope own capt cv C s2 L I) [] (Jl own++capS capt σ) (upd L D (.lst [])) { s2 with heap:=v,toks:=tk })->(∀{H':Hp},(∀b∈I,H' b=none)->∀b∈I,FpOk (JG X scope own capt cv C s2 L I) [] H' b) ->
   (∀s5 H4,Inv (JG X scope own capt cv C s2 L I) [] (Jl own++capS capt σ) H4 s5->(∃m,s5.heap.Ns C m)/\(∀U,c9 C s5.heap U->Inv X pins σ H4 { s5 with heap:=U })/\H4 C=none/\FpOk X pins H4 C) ->
   CA (.ref D) (compEnvC scope (Qr X scope cv C) C X.env) { s2 with heap:=v }) :
  wpAny (model X.prog X.w) X.A (newList []) (fun acc s₃=>wpAny (model X.prog X.w) X.A (newFunctionEnv scope X.env.globals (closed X.env scope.names []) [] X.env.qual none .none (some X.env)) (fun cenv s₄=>CA acc { cenv with scope:=relabel scope X.env } s₄) E s₃) E s2:=by
 obtain⟨it,I,tn,J,L,e,I2,T,st2,f2,rd⟩:=h2;have N:∀b∈I,b<s2.heap.objs.size:=fun b Y=>by obtain⟨o,e,_⟩:=T.obj 0 _ st2 b Y;exact ax e
 refine df (zjC S.one (fun v G u x=>?_));dsimp only at G u x ⊢;generalize hH3:s2.heap.push { cls:=.type "list",dict:=none,data:=.seq ([]:List ae).toArray }=H3 at G u x ⊢;have hC:H3.objs.size=s2.heap.objs.size+1:=by rw[<- hH3,l4]
 have hDC:s2.heap.objs.size≠H3.objs.size:=by rw[hC];exact ay (iX _)
 have HC:s2.heap.objs.size<=H3.objs.size:=by rw[hC];exact cT _
 have neC:∀b o,s2.heap.get? b=some o->b≠H3.objs.size:=fun b o e=>ay (aq (ax e) HC);have old:∀b o,s2.heap.get? b=some o->v.get? b=some o:=fun b o e=>u b o (hH3▸aj _ e);have HR:v.get? s2.heap.objs.size=some { cls:=.type "list",data:=.seq ([]:List ae).toArray 0 }:=u _ _ (hH3▸aA _ rfl);refine k it I tn J L s2.heap.objs.size H3.objs.size v e T rd (I2.hok.fresh (av _)) (T.keep _ _ _ st2 fun b Y o e=>old b o e) (fun b Y=>by rw[Jg (ay (N b Y))];exact(f2 b Y).1)
  (fun tk=>zmr (tk:=tk) S I2 f2 N (av _) HC hDC old G x (by rw[hC];exact ay (iL (iX _))) HR) (zjS S I2 f2 N HC) (fun s5 H4 I5=>?_)
 obtain⟨m,hn,_⟩:=I5.loc;exact⟨⟨m,hn⟩,fun U sb=>zmp I2 f2 HC I5 sb,I5.free,I2.fpOk HC I5.free⟩
theorem zmn(hc:X.calm=true)(S:Qc scope own capt cv X)
  (hg:∀C s₀ H₀ R,PG (JG X scope own capt cv C s₀ H₀ R) tg g) (ht:∀C s₀ H₀ R,PTs (JG X scope own capt cv C s₀ H₀ R) ifs tt) (he:∀C s₀ H₀ R,PE (JG X scope own capt cv C s₀ H₀ R) elt te)
  {pins:qO} {σ:St} {Q:VK} {U:ae} {s2:ak} {E:qV} {RR:ae->af->lW->ak->Prop}
  (h2:PIE X pins σ tg (fun J H1=>∀D,H1 D=none->ZL own capt g tt te σ J H1 D Q) U s2)
  (hR:∀D C s' H',(∃m,s'.heap.Ns C m)->(∀h'',c9 C s'.heap h''->Inv X pins σ H' { s' with heap:=h'' })->H' C=none->FpOk X pins H' C->Q (.ref D) H'->RR (.ref D) C (.ok .next) s') :
  wpAny (model X.prog X.w) X.A (newList []) (fun G s₃=>wpAny (model X.prog X.w) X.A (newFunctionEnv scope X.env.globals (closed X.env scope.names []) [] X.env.qual none .none (some X.env)) (fun u I =>
   codeAny (model X.prog X.w) X.A (.compStart (.ListComp elt [⟨tg,iter,ifs,0⟩] scope pos) 0 U G { u with scope:=relabel scope X.env }) (RR G u.locals) I) E s₃) E s2:=by
 refine zjV (CA:=fun G u I=>codeAny (model X.prog X.w) X.A (.compStart (.ListComp elt [⟨tg,iter,ifs,0⟩] scope pos) 0 U G u) (RR G u.locals) I) S h2 fun it R tn J H2 D C h₁ e T rd hnD Z fr0 J0 HJ out=>?_;subst e;obtain⟨W,⟨m0,w0⟩,turn⟩:=rd _ hnD;have loop:∀tk:Tok,codeAny (model X.prog X.w) X.A (.compLoop (.ListComp elt [⟨tg,iter,ifs,0⟩] scope pos) 0 (.ref it) (.ref D) (compEnvC scope (Qr X scope cv C) C X.env)) (RR (.ref D) C) { s2 with heap:=h₁,toks:=tk }:=fun tk=>by
  refine zfa (CompI (JG X scope own capt cv C s2 H2 R) [] (Jl own++capS capt σ) R tn W) ?_ m0 ⟨0,_,J0 tk,Z,fr0,w0⟩;rintro n s4 ⟨i,H4,I4,st4,fr4,w4⟩;refine Vt (Y:=JG X scope own capt cv C s2 H2 R) rfl hc (hg _ _ _ _) (ht _ _ _ _) T HJ I4 st4 fr4 ?_;rcases turn i n H4 w4 with⟨stop,qn⟩|⟨go,N,N',hN,hN',step⟩
  ·exact .inl ⟨stop,fun s5 I5=>let ⟨o1,o2,o3,o4⟩:=out s5 H4 I5;hR _ _ s5 H4 o1 o2 o3 o4 qn⟩
  refine .inr ⟨go,fun σ4 H5=>te σ4 H5 N,N',fun {p6 σ7 H8 s8} I8 q8 again=>?_,hN',step⟩;refine thn (he _ _ _ _ _ s8 σ7 H8 N I8 q8) fun y s9 ⟨v,H9,I9,r9,q9⟩=>?_;obtain⟨ys,hD,hl,m',hm,w9⟩:=hN v H9 q9;refine thn (VA (X:=JG X scope own capt cv C s2 H2 R) _ s9 σ7 H9 (.ref D) [v] _ [y] (fun _ H'=>H'=upd H9 D (.lst (ys++[v]))) I9 rfl (.cons r9 .nil) ⟨_,ys,v,rfl,rfl,hD,hl,rfl⟩) fun _ s10 ⟨_,H10,I10,_,q10⟩=>?_;subst q10;exact again I10 hm w9
 exact gD (loop _) (T.self X.A 0 _ _ _ Z (loop _))
theorem zju(hc:X.calm=true)(S:Qc scope own capt cv X)(hi:PI X tg iter wi)
  (hg:∀C s₀ H₀ y,PG (JG X scope own capt cv C s₀ H₀ y) tg g) (ht:∀C s₀ H₀ y,PTs (JG X scope own capt cv C s₀ H₀ y) ifs tt) (he:∀C s₀ H₀ y,PE (JG X scope own capt cv C s₀ H₀ y) elt te)
  {i:Nat} {x:Str} {u HI:Pos} (hN:X.N.Nodup) (hxi:X.N[i]?=some x) (hx:Loc X.env.scope x)
  (hs:∀x,foldedSetIterable iter X.env x=pure x:=by intro _;rfl) (Z:swapsWith (.ListComp elt [⟨tg,iter,ifs,0⟩] scope pos) (some (.Name x u)) HI.line X.env=pure true:=by rfl)
  (hf:X.fn x=true\/X.env.scope.names.lookup x=some .local:=by walk_at "F") :
  PS X (.Assign [.Name x u] (.ListComp elt [⟨tg,iter,ifs,0⟩] scope pos) HI) (tAsg (tComp own capt wi g tt te) (Yo i)):=by
 intro pins s σ H D I h;rw[lI _ _ _ _ Z];refine aa (cB (aa ?_));show wpAny _ X.A (do let _ <- comprehension (.ListComp elt [⟨tg,iter,ifs,0⟩] scope pos) scope X.env _ (newList []) false (eval iter X.env) (some (assign (.Name x u) X.env))) _ _ s;refine aa (cJ (eP (use:=some (assign (.Name x u) X.env)) (Q:=fun _ s'=>SP X pins D .next s') rfl hs (VG (S.cells I.ok)) S.kind S.names (thn (hi pins s σ H _ I h) fun v s1 h1=>thn h1 fun itv s2 h2=>?_)) (fun _ s' hq=>ag (ag hq)) fun _ _ e=>e);refine zmn (RR:=fun acc C=>compPost (model X.prog X.w) X.A X.xe (some (assign (.Name x u) X.env)) (fun _ s'=>SP X pins D .next s') acc C) hc S hg ht he h2 fun D' C s' H' U J hCn y q=>?_;obtain⟨m,U⟩:=U;obtain⟨f0,f1,f2,f3,f4,f5⟩:=y;have Is:Inv X pins σ H' s':=J s'.heap (nC _ _);refine iG (zdT Is hN hxi hx (show RelV (.ref D') (.ref D') from rfl) (fun G R Y=>?_) hf);obtain⟨a,Y,ha⟩:=Y;have neA:C≠a:=by rcases ha with rfl|ha;exact f1;exact fun z=>f4 x a ha z.symm
 have hn':G.heap.Ns C m:=U.sameBut Y neA;exact⟨m,hn',fun h' sb'=>⟨_,H',R.turned (t':=G.toks) (fun b o hb e=>(sb'.2 b hb).trans e) f0 f1 f3 f4 f5,q⟩⟩
end
section
variable{X:Cx}{scope:dD}{own:List Str}{capt:List Nat}{cv:Str}{elt tg iter:aQ}{ifs:List aQ}{pos:Pos}{di:DTA}{is:List Nat}{g:DTG}{tt:DTT}{te:DTE}
theorem zjT(hi:DIL X tg iter di)
  (hg:∀C s₀ H₀ u,DG (JG X scope own capt cv C s₀ H₀ u) tg is g) (hin:∀i∈is,i<own.length) (ht:∀C s₀ H₀ u,DTs (JG X scope own capt cv C s₀ H₀ u) ifs tt) (he:∀C s₀ H₀ u,DE (JG X scope own capt cv C s₀ H₀ u) elt te) :
  ∃(wi:TI) (gg:TG) (gt:TT) (ge:TE),PI X tg iter wi/\(∀C s₀ H₀ u,PG (JG X scope own capt cv C s₀ H₀ u) tg gg)/\(∀C s₀ H₀ u,PTs (JG X scope own capt cv C s₀ H₀ u) ifs gt)/\(∀C s₀ H₀ u,PE (JG X scope own capt cv C s₀ H₀ u) elt ge)/\zqs X.K (tComp own capt wi gg gt ge) (dComp own.length capt di g tt te):=by
 obtain⟨wi,pi,hi⟩:=hi;let Xf:(af×ak×Hp×List af)->Cx:=fun q=>JG X scope own capt cv q.1 q.2.1 q.2.2.1 q.2.2.2;have hK:∀q,(Xf q).K=X.K:=fun _=>rfl;have hne:Nonempty (af×ak×Hp×List af):=⟨(0,X.s₀,X.H₀,[])⟩;obtain⟨gg,pg,hgg⟩:=DG.uni (Xf:=Xf) hK fun q=>hg q.1 q.2.1 q.2.2.1 q.2.2.2;obtain⟨gt,pt,hgt⟩:=DTs.uni (Xf:=Xf) hK fun q=>ht q.1 q.2.1 q.2.2.1 q.2.2.2;obtain⟨ge,pe,hge⟩:=DE.uni (Xf:=Xf) hK fun q=>he q.1 q.2.1 q.2.2.1 q.2.2.2;refine⟨wi,gg,gt,ge,pi,(fun C s₀ H₀ u=>pg (C,s₀,H₀,u)),(fun C s₀ H₀ u=>pt (C,s₀,H₀,u)),(fun C s₀ H₀ u=>pe (C,s₀,H₀,u)),fun C N σ H n Q R St hd hq=>?_⟩;refine hi C N σ H n _ _ St hd fun ts n1 J H1 r e1 hn it=>fun D I=>?_;have St1:=St.on e1 hn;have hD:H D=none:=Uw e1 hn I;have nhd:C.hd≠some D:=fun z=>St.dom (.inl (St.hx D z)) hD;refine zg7 (n:=ts.length) (fun i ys S=>∃y n2,JP g tt te (Jw own.length capt N) (ts.drop i) y n2 R/\Reps X.K C.hd (fun a=>Own C N σ a\/a=D) S ys y/\ExtE C.hd H1 S/\Hn X.K C.hd S n2)
  ⟨[],n1,by simpa using r,.nil,ExtE.new I,hn.same (JL I)⟩ ?_ ?_
 rintro i ys S hlt hy ⟨y,n2,c2,r2,e2,L⟩;have et:ts[i]?=some ts[i]:=ah hlt;rw[bf hlt]at c2;have Y:=it (fun a=>Own C N σ a\/a=D) S (fun a o G nh=>e2 a o G nh) (fun a o G no z=>z.elim no fun z=>by subst z;rw[I]at G;cases G) (fun a z=>z.elim (fun z=>(St1.on e2 L).dom z) fun z=>by subst z;rw[hy];exact fun z=>by cases z);obtain⟨go,yl⟩:=Y.1 i _ et;refine⟨go,fun x H3 hyd=>?_⟩;obtain⟨Z,rx⟩:=yl x H3 hyd;have hn3:=L.same Z;have e3:ExtE C.hd H1 H3:=e2.trans Z.ext;obtain⟨I3,no3⟩:=zfU (own:=own) (capt:=capt) (D:=D) (ys:=ys) St (e1.trans e3) hn3 hD (Z _ _ hy);have rx':Rep X.K C.hd (Own ⟨C.hd,fun a=>Own C N σ a\/a=D⟩ (Jw own.length capt N) (Jl own++capS capt σ)) H3 x ts[i]:=rx.mono (fun a o _ z=>z.elim id fun z=>absurd z (no3 a)) fun _ _ _ z=>z;refine hgg ⟨C.hd,fun a=>Own C N σ a\/a=D⟩ (Jw own.length capt N) (Jl own++capS capt σ) H3 n2 x ts[i] _ _ I3 rx' c2 fun ρ4 σ4 r4 S4 k4 hj hl=>⟨Wk.of hl.symm fun j v ej=>zka hin hj ej,?_⟩;refine hgt _ ρ4 σ4 H3 n2 _ _ S4 r4 fun b n5 H5 r5 e5 hn5=>?_;have S5:=S4.on e5 hn5;have hy5:H5 D=some (.lst ys):=e5 D _ (Z _ _ hy) nhd;have U:∀{H6},ExtE C.hd S H6->Reps X.K C.hd (fun a=>Own C N σ a\/a=D) H6 ys y:=fun e=>r2.mono (fun _ _ _ z=>z) fun a o no G=>e a o G fun z=>no (.inl (.inl (St.hx a z)));cases b with
 | false =>refine iteF ⟨ys,hy5,y,n5,by simpa using r5,U ((Same.ext Z).trans e5),e3.trans e5,hn5⟩
 | true =>
  refine iteT (hge _ ρ4 σ4 H5 n5 _ _ S5 (by simpa using r5) fun t n6 v H6 r6 e6 hn6 q6=>?_);have hy6:H6 D=some (.lst ys):=e6 D _ hy5 nhd;have rl:=(U ((Same.ext Z).trans (e5.trans e6))).length;refine⟨ys,hy6,by rw[rl];exact r6.1,y++[t],n6,r6.2,?_,?_,?_⟩;have q6':Rep X.K C.hd (fun a=>Own C N σ a\/a=D) H6 v t:=q6.mono (fun _ _ _ z=>.inl z) fun _ _ _ z=>z;have all:=(U ((Same.ext Z).trans (e5.trans e6))).append (Reps.cons q6' .nil);exact all.mono (fun _ _ _ z=>z) fun a o no G=>by rw[Jg (show a≠D from fun z=>no (.inr z))];exact G
  exact ExtE.updR I (e3.trans (e5.trans e6));exact Hn.updR nhd (.inl ⟨_,hy6⟩) hn6
 rintro ys S hy ⟨y,n2,c2,r2,e2,L⟩;rw[fH]at c2;have Y:=it (fun a=>Own C N σ a\/a=D) S (fun a o G nh=>e2 a o G nh) (fun a o G no z=>z.elim no fun z=>by subst z;rw[I]at G;cases G) (fun a z=>z.elim (fun z=>(St1.on e2 L).dom z) fun z=>by subst z;rw[hy];exact fun z=>by cases z);exact⟨Y.2,hq y n2 D ys S c2 (e1.trans e2) L hD hy r2⟩
theorem zl2{x:Str}{u J:Pos}{i:Nat}(Z:X.N.Nodup)(I:X.N[i]?=some x)(hx:Loc X.env.scope x)(hc:X.calm=true)(S:Qc scope own capt cv X)(hi:DIL X tg iter di)
  (R:∀C s₀ H₀ v,DG (JG X scope own capt cv C s₀ H₀ v) tg is g) (y:∀i∈is,i<own.length) (ht:∀C s₀ H₀ v,DTs (JG X scope own capt cv C s₀ H₀ v) ifs tt) (he:∀C s₀ H₀ v,DE (JG X scope own capt cv C s₀ H₀ v) elt te)
  (U:∀x,foldedSetIterable iter X.env x=pure x:=by intro _;rfl) (G:swapsWith (.ListComp elt [⟨tg,iter,ifs,0⟩] scope pos) (some (.Name x u)) J.line X.env=pure true:=by rfl)
  (hf:X.fn x=true\/X.env.scope.names.lookup x=some .local:=by walk_at "F") :
  DNA X x u (.ListComp elt [⟨tg,iter,ifs,0⟩] scope pos) J i (dComp own.length capt di g tt te):=by
 obtain⟨wi,gg,gt,ge,a,b,c,d,Y⟩:=zjT hi R y ht he;exact⟨_,zju hc S a b c d Z I hx U G hf,Y⟩
def zfb(scope outer:dD)(N:List Str)(capt:List Nat)(cv:Str):Bool :=
 scope.kind == .function&&decide (scope.names.filter (fun y=>y.2 == .cell)=[(cv,.cell)])&&scope.names.lookup cv == some .cell&&scope.names.all (fun y=>!(y.2 == .local)||scope.names.lookup y.1 == some .local) &&
 scope.names.all (fun y=>!(y.2 == .free)||(outer.names.lookup y.1 == some .cell||outer.names.lookup y.1 == some .free))&&capt.all (fun k=>scope.names.lookup (N.getD k gT) == some .free)&&scope.names.all (fun y=>!(y.2 == .free)||y.1 != cv)
theorem Qc.of{X:Cx}(h:zfb scope X.env.scope X.N capt cv=true):Qc scope own capt cv X:=by simp only[zfb,bL,cU,oU,gO,beq_iff_eq,decide_eq_true_eq,bne_iff_ne]at h;obtain⟨⟨⟨⟨⟨⟨o,x⟩,C⟩,I⟩,v⟩,u⟩,G⟩:=h;refine⟨o,x,C,fun y l e=>?_,fun y l e=>?_,u,fun y l e=>?_⟩;rcases I y l with z|z;rw[e]at z;cases z;exact z;rcases v y l with z|z;rw[e]at z;cases z;exact z;rcases G y l with z|z;rw[e]at z;cases z;exact z
end
def jn(l u:Int×Int):Int×Int:=(if l.2+u.2+1<l.1+u.1 then l.2+u.2+1 else l.1+u.1,if l.1+u.1+1<l.2+u.2 then l.1+u.1+1 else l.2+u.2)
open Classical in
noncomputable def kst (Z:Int->Prop):Nat->Int->Int×Int
 | 0,i=>if Z i then(1,0) else(0,1)
 | n+1,i=>jn (kst Z n i) (kst Z n (i+2 ^ n))
def decT(S:Int×Int->Option Int):Nat->Int->Int->Int->Int
 | 0,i,d,_=>(S (i,0)).getD d
 | n+1,i,d,x=>if x<i+2 ^ n then decT S n i ((S (i,((n+1:Nat):Int))).getD d) x else decT S n (i+2 ^ n) ((S (i,((n+1:Nat):Int))).getD d) x
def cnt(S:Int×Int->Option Int):Nat->Int->Int
 | 0,i=>if (S (i,0)).isSome then 1 else 0
 | n+1,i=>(if (S (i,((n+1:Nat):Int))).isSome then 1 else 0)+cnt S n i+cnt S n (i+2 ^ n)
def pk(d:Int)(q:Int×Int):Int:=if d=0 then q.1 else q.2
theorem zuU{l u:Int×Int}{d:Int}(h:d=0\/d=1):pk d (jn l u)<=pk d l+pk d u/\∀d',(d'=0\/d'=1)->pk d (jn l u)<=1+pk d' l+pk d' u:=by constructor;rcases h with rfl|rfl;simp only[pk,jn,if_pos];split <;> omega;simp only[pk,jn,show ¬(1:Int)=0 by decide,if_false];split <;> omega;rintro d' (rfl|rfl) <;> rcases h with rfl|rfl <;> simp only[pk,jn,if_pos,show ¬(1:Int)=0 by decide,if_false] <;> split <;> omega
theorem Q5(n:Nat):(2:Int) ^ (n+1)=2 ^ n+2 ^ n:=by rw[aY];omega
theorem zd_{S:Int×Int->Option Int}{Z:Int->Prop}(v:∀b s,S b=some s->s=0\/s=1):∀(n:Nat) (i d:Int),(d=0\/d=1)->(∀x,i<=x->x<i+2 ^ n->(decT S n i d x=1↔Z x))->pk d (kst Z n i)<=cnt S n i
 | 0,i,d,hd,h=>by
  have h0:=h i (aK _) (by rw[kY];omega);unfold decT at h0;unfold kst cnt;cases e:S (i,0) with
  | none =>
   rw[e]at h0;simp only[iV]at h0;rcases hd with rfl|rfl;have:¬Z i:=fun z=>by have:=h0.mpr z;omega
   simp[pk,this];have:Z i:=h0.mp rfl;simp[pk,this]
  | some s =>rcases hd with rfl|rfl <;> by_cases z:Z i <;> simp[pk,z]
 | n+1,i,d,hd,h=>by
  have p2:=Q5 n;have pp:(0:Int)<2 ^ n:=Bd.Uc n;have sub:∀d',(S (i,((n+1:Nat):Int))).getD d=d'->(d'=0\/d'=1)->pk d' (kst Z n i)<=cnt S n i/\pk d' (kst Z n (i+2 ^ n))<=cnt S n (i+2 ^ n):=fun d' e o=>by refine⟨zd_ v n i d' o fun x G C=>?_,zd_ v n (i+2 ^ n) d' o fun x G C=>?_⟩;have:=h x G (by omega);unfold decT at this;rwa [if_pos C,e]at this;have:=h x (by omega) (by omega);unfold decT at this;rwa [if_neg (by omega),e]at this
  unfold kst cnt;obtain⟨J,I⟩:=zuU (l:=kst Z n i) (u:=kst Z n (i+2 ^ n)) hd;cases e:S (i,((n+1:Nat):Int)) with
  | none =>obtain⟨s1,s2⟩:=sub d (by rw[e];rfl) hd;simp only[Option.isSome_none,aI,if_false];omega
  | some s =>have y:=v _ _ e;obtain⟨s1,s2⟩:=sub s (by rw[e];rfl) y;have:=I s y;simp only[nc,if_true];omega
def sgAt(rs:RL)(b:Int×Int):Option Int:=(rs.find? fun r=>decide (r.1=b)).map (·.2)
theorem Q9{rs:RL}{b:Int×Int}{s:Int}(h:sgAt rs b=some s):(b,s)∈rs:=by
 unfold sgAt at h;obtain⟨r,l,o⟩:=dr.mp h;have e:r.1=b:=by simpa using oW l
 have m:=iE l;have:r=(b,s):=cx e o;rwa [this]at m
theorem zdV{rs:RL}{b:Int×Int}(h:sgAt rs b=none):∀r∈rs,r.1≠b:=fun r l e=>by unfold sgAt at h;rw[Option.map_eq_none_iff,gj]at h;exact h r l (decide_eq_true e)
theorem Vf{rs:RL}(nd:(rs.map (·.1)).Nodup){r:(Int×Int)×Int}(h:r∈rs):sgAt rs r.1=some r.2:=by
 cases e:sgAt rs r.1 with
 | none=>exact absurd rfl (zdV e r h)
 | some s =>
  have m:=Q9 e;have:∀{l:RL},(l.map (·.1)).Nodup->∀a∈l,∀b∈l,a.1=b.1->a=b:=by
   intro l;induction l with
   | nil=>intro _ a v;cases v
   | cons c l y =>intro nd a v b x e;rw[aG,cC]at nd;rcases aC.mp v with rfl|v <;> rcases aC.mp x with rfl|x;rfl;exact absurd (bh.mpr ⟨b,x,e.symm⟩) nd.1;exact absurd (show b.1∈l.map (·.1) from bh.mpr ⟨a,‹a∈l›,e⟩) nd.1;exact y nd.2 a v b x e
  have:=this nd _ m _ h rfl;rw[<- this]
def Aln(b:Int×Int):Prop:=0<=b.2/\∃k:Int,b.1=k*2 ^ b.2.toNat
theorem Yv{bits:Int}{b:Int×Int}(B:IsBk bits b.1 b.2):Aln b:=⟨B.1,let ⟨k,_,e,_⟩:=B.2.2;⟨k,e⟩⟩
def inb(b:Int×Int)(x:Int):Prop:=b.1<=x/\x<eB b
theorem zd9{k j P x:Int}(v:0<P)(l:k*P<=x)(u:x<k*P+P)(y:j*P<=x)(o:x<j*P+P):k=j:=by rcases gF k j with z|z|z;have:(k+1)*P<=j*P:=bz (by omega) (by omega);rw[cA]at this;omega;exact z;have:(j+1)*P<=k*P:=bz (by omega) (by omega);rw[cA]at this;omega
theorem Zr{b c:Int×Int}{x:Int}(y:Aln b)(hc:Aln c)(e:b.2=c.2)(l:inb b x)(o:inb c x):b=c:=by obtain⟨_,k,u⟩:=y;obtain⟨_,j,v⟩:=hc;unfold inb eB at l o;rw[e]at u l;rw[u]at l;rw[v]at o;have:=zd9 (Bd.Uc c.2.toNat) l.1 l.2 o.1 o.2;exact cx (by rw[u,v,this]) e
def Rok(rs:RL):Prop:=(∀r∈rs,Aln r.1/\(r.2=0\/r.2=1))/\(rs.map (·.1)).Nodup
def AlnN(n:Nat)(i:Int):Prop:=∃k:Int,i=k*2 ^ n
theorem AlnN.lo{n:Nat}{i:Int}(h:AlnN (n+1) i):AlnN n i:=by obtain⟨k,e⟩:=h;exact⟨k*2,by rw[e,aY,ck,bZ (2 ^ n) 2]⟩
theorem AlnN.up{n:Nat}{i:Int}(h:AlnN (n+1) i):AlnN n (i+2 ^ n):=by obtain⟨k,e⟩:=h.lo;exact⟨k+1,by rw[e,cA,bI]⟩
theorem AlnN.b{n:Nat}{i:Int}(h:AlnN n i):Aln (i,(n:Int)):=⟨by simp,by obtain⟨k,e⟩:=h;exact⟨k,by simpa using e⟩⟩
theorem zi7{rs:RL}(R:Rok rs){x:Int}:∀(n:Nat) (i d:Int),AlnN n i->i<=x->x<i+2 ^ n ->
  (∃r∈rs,r.1.2<=n/\inb r.1 x/\r.2=decT (sgAt rs) n i d x/\∀q∈rs,inb q.1 x->r.1.2<=q.1.2)\/(decT (sgAt rs) n i d x=d/\∀q∈rs,inb q.1 x->(n:Int)<q.1.2)
 | 0,i,d,A,h1,h2=>by
  have e:x=i:=by simp at h2;omega
  subst e;unfold decT;cases es:sgAt rs (x,0) with
  | some s =>refine .inl ⟨_,Q9 es,by simp,⟨aK _,by simp[eB];omega⟩,rfl,fun q u _=>(R.1 q u).1.1⟩
  | none =>refine .inr ⟨rfl,fun q u y=>?_⟩;have q0:=(R.1 q u).1.1;rcases eM 0 q.1.2 with z|z;simpa using z;exact absurd (Zr (R.1 q u).1 A.b (by simp;omega) y ⟨aK _,by simp[eB];omega⟩) (zdV es q u)
 | n+1,i,d,A,h1,h2=>by
  have p2:=Q5 n;have key:∀j,AlnN n j->j<=x->x<j+2 ^ n->∀v,v=decT (sgAt rs) n j ((sgAt rs (i,((n+1:Nat):Int))).getD d) x ->
    (∃r∈rs,r.1.2<=((n+1:Nat):Int)/\inb r.1 x/\r.2=v/\∀q∈rs,inb q.1 x->r.1.2<=q.1.2)\/(v=d/\∀q∈rs,inb q.1 x->((n+1:Nat):Int)<q.1.2):=fun j Y J L v ev=>by
   rcases zi7 R n j ((sgAt rs (i,((n+1:Nat):Int))).getD d) Y J L with⟨r,G,r1,S,I,U⟩|⟨e,C⟩;exact .inl ⟨r,G,by push_cast;omega,S,by rw[ev];exact I,U⟩;rw[e]at ev;cases es:sgAt rs (i,((n+1:Nat):Int)) with
   | some s =>
    rw[es]at ev;refine .inl ⟨_,Q9 es,aK _,⟨h1,by show x<i+2 ^ ((n+1:Nat):Int).toNat;simpa using h2⟩,ev.symm,fun q u y=>?_⟩;have:=C q u y;show((n+1:Nat):Int)<=_
    push_cast
    omega
   | none =>
    rw[es]at ev;refine .inr ⟨ev,fun q u y=>?_⟩;have Z:=C q u y;rcases eM ((n+1:Nat):Int) q.1.2 with z|z;exact z;refine absurd (Zr (R.1 q u).1 A.b ?_ y ⟨h1,by show x<i+2 ^ ((n+1:Nat):Int).toNat;simpa using h2⟩) (zdV es q u);show q.1.2=((n+1:Nat):Int)
    push_cast at z ⊢
    omega
  by_cases z:x<i+2 ^ n;have e:decT (sgAt rs) (n+1) i d x=decT (sgAt rs) n i ((sgAt rs (i,((n+1:Nat):Int))).getD d) x:=by rw[decT,if_pos z]
  rw[e];exact key i A.lo h1 z _ rfl;have e:decT (sgAt rs) (n+1) i d x=decT (sgAt rs) n (i+2 ^ n) ((sgAt rs (i,((n+1:Nat):Int))).getD d) x:=by rw[decT,if_neg z]
  rw[e];exact key _ A.up (by omega) (by omega) _ rfl
def SgX(rs:RL)(a s:Int):Prop:=(s=0/\∀r∈rs,¬inb r.1 a)\/∃r∈rs,inb r.1 a/\r.2=s/\∀l∈rs,inb l.1 a->r.1.2<=l.1.2
theorem ziq{rs:RL}(R:Rok rs){a s t:Int}(C:SgX rs a s)(x:SgX rs a t):s=t:=by rcases C with⟨rfl,C⟩|⟨r,l,u,rfl,I⟩ <;> rcases x with⟨rfl,x⟩|⟨q,o,v,rfl,G⟩;rfl;exact absurd v (C q o);exact absurd u (x r l);have e:=Zr (R.1 r l).1 (R.1 q o).1 (Int.le_antisymm (I q o v) (G r l u)) u v;have a1:=Vf R.2 l;have a2:=Vf R.2 o;rw[e,a2]at a1;exact(au a1).symm
def QY(n:Nat)(rs:RL):Prop:=∀r∈rs,r.1.2<=n/\0<=r.1.1/\r.1.1<2 ^ n
theorem zkm{rs:RL}(R:Rok rs){n:Nat}(I:QY n rs){x:Int}(h0:0<=x)(L:x<2 ^ n):SgX rs x (decT (sgAt rs) n 0 0 x):=by rcases zi7 R n 0 0 ⟨0,by simp⟩ h0 (by omega) with⟨r,v,N,G,y,C⟩|⟨e,J⟩;exact .inr ⟨r,v,G,y,C⟩;exact .inl ⟨e,fun q o u=>by have:=J q o u;have:=(I q o).1;omega⟩
theorem Y8{rs:RL}(R:Rok rs){n:Nat}(I:QY n rs){x s:Int}(h0:0<=x)(l:x<2 ^ n):SgX rs x s↔decT (sgAt rs) n 0 0 x=s :=
 ⟨fun h=>(ziq R (zkm R I h0 l) h),fun h=>h▸zkm R I h0 l⟩
def wi(n:Nat)(i:Int)(r:(Int×Int)×Int):Bool:=decide (r.1.2<=(n:Int)/\i<=r.1.1/\r.1.1<i+2 ^ n)
theorem zdx{α:Type}{p p1 p2 p3:α->Bool}:∀{l:List α},(∀a∈l,(if p a then 1 else 0)=(if p1 a then 1 else 0)+(if p2 a then 1 else 0)+(if p3 a then 1 else 0))->l.countP p=l.countP p1+l.countP p2+l.countP p3
 | [],_=>rfl
 | a::l,h=>by have u:=zdx (l:=l) fun b o=>h b (.tail _ o);have v:=h a (.head _);simp only[oq];omega
theorem zde{b:Int×Int}:∀{rs:RL},(rs.map (·.1)).Nodup->(rs.countP (fun r=>decide (r.1=b)):Int)=if (sgAt rs b).isSome then 1 else 0
 | [],_=>rfl
 | r::rs,h=>by
  rw[aG,cC]at h;have x:=zde (b:=b) h.2;rw[oq];by_cases z:r.1=b;have l:rs.countP (fun r=>decide (r.1=b))=0:=List.countP_eq_zero.mpr fun q v e=>h.1 (bh.mpr ⟨q,v,(of_decide_eq_true e).trans z.symm⟩);rw[l];simp[sgAt,z];have e:sgAt (r::rs) b=sgAt rs b:=by simp[sgAt,z]
  rw[e,<- x];simp[z]
theorem zmI{n:Nat}{i:Int}(A:AlnN (n+1) i){b:Int×Int}(B:Aln b)(e:b.2=((n+1:Nat):Int)):(i<=b.1/\b.1<i+2 ^ (n+1))↔b.1=i:=by have pp:(0:Int)<2 ^ (n+1):=Bd.Uc _;constructor;rintro⟨l,u⟩;have:=Zr (x:=b.1) B A.b e ⟨aK _,by have:=Bd.Uc b.2.toNat;unfold eB;omega⟩ ⟨l,by show b.1<i+2 ^ ((n+1:Nat):Int).toNat;simpa using u⟩;exact congrArg mw this;intro h;omega
theorem zmu{rs:RL}(R:Rok rs):∀(n:Nat) (i:Int),AlnN n i->cnt (sgAt rs) n i=(rs.countP (wi n i):Int)
 | 0,i,A=>by unfold cnt;rw[<- zde R.2];congr 1;refine List.countP_congr fun r v=>?_;have h0:=(R.1 r v).1.1;unfold wi;rw[decide_eq_true_eq,decide_eq_true_eq];constructor;intro e;rw[e];simp;omega;rintro⟨C,G,x⟩;simp at C x;exact cx (by show r.1.1=i;omega) (by show r.1.2=0;omega)
 | n+1,i,A=>by
  unfold cnt;rw[zmu R n i A.lo,zmu R n (i+2 ^ n) A.up,<- zde R.2];have p2:=Q5 n;have pp:(0:Int)<2 ^ n:=Bd.Uc n;have:=zdx (p:=wi (n+1) i) (p1:=fun r=>decide (r.1=(i,((n+1:Nat):Int)))) (p2:=wi n i) (p3:=wi n (i+2 ^ n)) (l:=rs) fun r v=>by
   have B:=(R.1 r v).1;unfold wi;by_cases e:r.1.2=((n+1:Nat):Int);have u:¬r.1.2<=(n:Int):=by push_cast at e;omega
   have k:=zmI A B e;by_cases z:r.1.1=i;have y:=k.mpr z;rw[decide_eq_true (show r.1.2<=((n+1:Nat):Int)/\i<=r.1.1/\r.1.1<i+2 ^ (n+1) from⟨Int.le_of_eq e,y⟩),decide_eq_true (show r.1=(i,((n+1:Nat):Int)) from cx z e),decide_eq_false (fun q=>u q.1),decide_eq_false (fun q=>u q.1)];rfl;rw[decide_eq_false (fun q=>z (k.mp q.2)),decide_eq_false (fun q=>z (congrArg mw q)),decide_eq_false (fun q=>u q.1),decide_eq_false (fun q=>u q.1)];rfl;rw[decide_eq_false (show ¬r.1=(i,((n+1:Nat):Int)) from fun q=>e (congrArg pW q))];by_cases le:r.1.2<=(n:Int);have o:r.1.2<=((n+1:Nat):Int):=by push_cast;omega
   by_cases c1:i<=r.1.1/\r.1.1<i+2 ^ n;rw[decide_eq_true (show _/\_/\_ from⟨o,c1.1,by omega⟩),decide_eq_true (show _/\_/\_ from⟨le,c1⟩),decide_eq_false (fun q=>by have:=q.2.1;omega)];rfl;by_cases c2:i+2 ^ n<=r.1.1/\r.1.1<i+2 ^ n+2 ^ n;rw[decide_eq_true (show _/\_/\_ from⟨o,by omega,by omega⟩),decide_eq_false (fun q=>c1 q.2),decide_eq_true (show _/\_/\_ from⟨le,c2⟩)];rfl;rw[decide_eq_false (fun q=>by have:=q.2;omega),decide_eq_false (fun q=>c1 q.2),decide_eq_false (fun q=>c2 q.2)];rfl;have o:¬r.1.2<=((n+1:Nat):Int):=by push_cast at e ⊢;omega
   rw[decide_eq_false (fun q=>o q.1),decide_eq_false (fun q=>le q.1),decide_eq_false (fun q=>le q.1)];rfl
  rw[this]
  push_cast
  rfl
theorem zmv{rs:RL}(R:Rok rs){n:Nat}(I:QY n rs):cnt (sgAt rs) n 0=(rs.length:Int):=by rw[zmu R n 0 ⟨0,by simp⟩,List.countP_eq_length.mpr];intro r o;obtain⟨l,u,v⟩:=I r o;exact decide_eq_true ⟨l,u,by omega⟩
theorem zkv{rs:RL}(R:Rok rs){n:Nat}(I:QY n rs){Z:Int->Prop}(h:∀x,0<=x->x<2 ^ n->(SgX rs x 1↔Z x)):(kst Z n 0).1<=(rs.length:Int):=by
 have:=zd_ (S:=sgAt rs) (Z:=Z) (fun b s e=>(R.1 _ (Q9 e)).2) n 0 0 (.inl rfl) fun x h0 o=>by rw[<- h x h0 (by omega),Y8 R I h0 (by omega)]
 rw[zmv R I]at this;exact this
section
variable{Z Z':Int->Prop}
theorem Vp:∀(n:Nat) (i:Int),(∀x,i<=x->x<i+2 ^ n->¬Z x)->kst Z n i=(0,1)
 | 0,i,h=>by unfold kst;rw[if_neg (h i (aK _) (by rw[kY];omega))]
 | n+1,i,h=>by have p2:=Q5 n;have pp:(0:Int)<2 ^ n:=Bd.Uc n;unfold kst;rw[Vp n i fun x l o=>h x l (by omega),Vp n (i+2 ^ n) fun x l o=>h x (by omega) (by omega)];rfl
theorem kst_all:∀(n:Nat) (i:Int),(∀x,i<=x->x<i+2 ^ n->Z x)->kst Z n i=(1,0)
 | 0,i,h=>by unfold kst;rw[if_pos (h i (aK _) (by rw[kY];omega))]
 | n+1,i,h=>by have p2:=Q5 n;have pp:(0:Int)<2 ^ n:=Bd.Uc n;unfold kst;rw[kst_all n i fun x l o=>h x l (by omega),kst_all n (i+2 ^ n) fun x l o=>h x (by omega) (by omega)];rfl
end
section
variable{bits:Int}{ps:BL}{Z:Int->Prop}
theorem zn5{b:Int×Int}(B:IsBk bits b.1 b.2){n:Nat}(h:b.2=((n+1:Nat):Int)):upH b=(b.1+2 ^ n,(n:Int)):=by
 have l:(b.2 - 1).toNat=n:=by omega
 have:=B.x1 (by omega);rw[l,h]at this;unfold upH;rw[l,this];have e2:(2:Int) ^ ((n+1:Nat):Int).toNat / 2=2 ^ n:=by rw[dm,aY];omega
 rw[e2];exact cx rfl (by show b.2 - 1=n;omega)
theorem zlM{b:Int×Int}(h:HasA ps b):∀x,b.1<=x->x<eB b->mB x ps:=fun x o u=>by obtain⟨p,l,p1,p2⟩:=h;exact⟨p,l,by omega,by omega⟩
theorem Zw(u:0<=bits)(C:CanP Z ps)(w:∀x,Z x->0<=x/\x<2 ^ bits.toNat):∀(n:Nat) (b:Int×Int),IsBk bits b.1 b.2->b.2=(n:Int)->zbk ps n b=kst Z n b.1
 | 0,b,B,e=>by
  have I:eB b=b.1+1:=by rw[eB,e];rfl
  unfold zbk kst;by_cases hn:HasN ps b;rw[if_pos hn,if_neg (fun z=>(Vn.mp hn) b.1 (aK _) (by omega) ((C.mem _).mpr z))];rw[if_neg hn,if_pos (bF fun z=>hn (Vn.mpr fun x l o m=>z (by
   have:x=b.1:=by omega
   rw[<- this];exact(C.mem x).mp m)))]
 | n+1,b,B,e=>by
  have I:eB b=b.1+2 ^ (n+1):=by rw[eB,e];rfl
  unfold zbk;by_cases hn:HasN ps b;rw[if_pos hn,Vp (n+1) b.1 fun x l o z=>(Vn.mp hn) x l (by omega) ((C.mem x).mpr z)];rw[if_neg hn];by_cases ha:HasA ps b;rw[if_pos ha,kst_all (n+1) b.1 fun x l o=>(C.mem x).mp (zlM ha x l (by omega))];rw[if_neg ha];have v:=zn5 B e;have N:loH b=(b.1,(n:Int)):=cx rfl (by show b.2 - 1=n;omega);have J:IsBk bits (loH b).1 (loH b).2:=B.low (by omega);have L:IsBk bits (upH b).1 (upH b).2:=by have:=B.up (by omega);have G:b.1+2 ^ b.2.toNat / 2=(upH b).1:=(B.x1 (by omega)).symm;rw[G]at this;exact this
  rw[Zw u C w n (loH b) J (by show b.2 - 1=n;omega),Zw u C w n (upH b) L (by show b.2 - 1=n;omega),v];rfl
theorem zoQ(l:0<=bits):IsBk bits 0 bits:=⟨l,aK _,0,aK _,by simp,Bd.Uc _⟩
theorem zfI(l:0<=bits)(C:CanP Z ps)(w:∀x,Z x->0<=x/\x<2 ^ bits.toNat):zcs bits ps=(kst Z bits.toNat 0).1:=by unfold zcs;rw[Zw l C w bits.toNat (0,bits) (zoQ l) (by show bits=_;omega)]
theorem zky{rs:RL}(h:∀r∈rs,IsBk bits r.1.1 r.1.2/\(r.2=0\/r.2=1))(nd:(rs.map (·.1)).Nodup):Rok rs:=⟨fun r l=>⟨Yv (h r l).1,(h r l).2⟩,nd⟩
theorem Vo{rs:RL}(o:0<=bits)(h:∀r∈rs,IsBk bits r.1.1 r.1.2):QY bits.toNat rs:=fun r l=>by have B:=h r l;have b:=B.bounds o;have:=Bd.Uc r.1.2.toNat;exact⟨by have:=B.2.1;omega,b.1,by omega⟩
theorem ziJ(l:0<=bits)(C:CanP Z ps)(w:∀x,Z x->0<=x/\x<2 ^ bits.toNat){rs:RL}(R:Rok rs)(I:QY bits.toNat rs)(h:∀x,0<=x->x<2 ^ bits.toNat->(SgX rs x 1↔Z x)):zcs bits ps<=(rs.length:Int):=by rw[zfI l C w];exact zkv R I h
theorem zo5{p q:Int×Int}{l:BL}(P:l.Pairwise fun a b=>eB a<=b.1)(o:p∈l)(u:q∈l){x:Int}(v:inb p x)(y:inb q x):p=q:=by
 induction l with
 | nil=>cases o
 | cons a l C =>rw[ef]at P;unfold inb at v y;rcases aC.mp o with rfl|o <;> rcases aC.mp u with rfl|u;rfl;have:=P.1 q ‹q∈l›;omega;have:=P.1 p ‹p∈l›;omega;exact C P.2 o u
theorem zhQ(I:0<=bits)(C:CanP Z ps)(w:∀x,Z x->0<=x/\x<2 ^ bits.toNat){l:BL}(P:Ptc bits l)(R:∀x,mB x l↔Z x):zcs bits ps<=(l.length:Int):=by
 have nd:((l.map fun p=>(p,(1:Int))).map (·.1)).Nodup:=by rw[bR];show(l.map fun p=>p).Nodup;rw[List.map_id''];refine P.2.imp fun {a b} h e=>?_;have:=Bd.Uc a.2.toNat;rw[e]at h;unfold eB at h;rw[e]at this;omega;intro;rfl
 have mem:∀r∈l.map fun p=>(p,(1:Int)),r.1∈l/\r.2=1:=fun r v=>by obtain⟨p,y,rfl⟩:=bh.mp v;exact⟨y,rfl⟩
 have:=ziJ I C w (rs:=l.map fun p=>(p,1)) (zky (bits:=bits) (fun r v=>⟨P.1 _ (mem r v).1,.inr (mem r v).2⟩) nd) (Vo I fun r v=>P.1 _ (mem r v).1) fun x h0 S=>by rw[<- R x];constructor;rintro(⟨e,_⟩|⟨r,v,G,_⟩);omega;exact⟨r.1,(mem r v).1,G.1,G.2⟩;rintro⟨p,y,p1,p2⟩;refine .inr ⟨(p,1),bh.mpr ⟨p,y,rfl⟩,⟨p1,p2⟩,rfl,fun q J L=>?_⟩;have:=zo5 P.2 y (mem q J).1 ⟨p1,p2⟩ L;show p.2<=q.1.2;rw[this];exact aK _
 simpa using this
end
open Classical in
noncomputable def sB (ps:BL) (a:Int) (b:Int×Int):Int:=if Prt ps b then sgn a (zbk ps (b.2 - 1).toNat (loH b)) (zbk ps (b.2 - 1).toNat (upH b)) else if HasN ps b then 0 else 1
def par(b:Int×Int):Int×Int:=(b.1 / 2 ^ (b.2+1).toNat*2 ^ (b.2+1).toNat,b.2+1)
noncomputable def aS (ps:BL):Nat->Int×Int->Int
 | 0,_=>0
 | m+1,b=>sB ps (aS ps m (par b)) (par b)
noncomputable def aF (bits:Int) (ps:BL) (b:Int×Int):Int:=aS ps (bits - b.2).toNat b
noncomputable def sF (bits:Int) (ps:BL) (b:Int×Int):Int:=sB ps (aF bits ps b) b
theorem zqO{a:Int}{x y:Int×Int}:sgn a x y=0\/sgn a x y=1:=by unfold sgn;split <;> split <;> simp
theorem zq6{ps:BL}{a:Int}{b:Int×Int}:sB ps a b=0\/sB ps a b=1:=by unfold sB;split;exact zqO;split <;> simp
section
variable{bits:Int}{ps bs:BL}{Z:Int->Prop}
theorem ztf{b:Int×Int}:aF bits ps b=0\/aF bits ps b=1:=by
 unfold aF;cases(bits - b.2).toNat with
 | zero=>exact .inl rfl
 | succ m=>exact zq6
theorem zmJ:aF bits ps (0,bits)=0:=by unfold aF;rw[show(bits - (0,bits).2).toNat=0 by show(bits - bits).toNat=0;omega];rfl
theorem ZS{b c:Int×Int}(B:IsBk bits b.1 b.2)(h:1<=b.2)(hc:c=loH b\/c=upH b):aF bits ps c=sF bits ps b:=by
 have e2:c.2=b.2 - 1:=by rcases hc with rfl|rfl <;> rfl
 have l:par c=b:=by unfold par;rw[e2,show b.2 - 1+1=b.2 by omega];refine cx ?_ rfl;show c.1 / 2 ^ b.2.toNat*2 ^ b.2.toNat=b.1;rcases hc with rfl|rfl;obtain⟨_,_,k,_,e,_⟩:=B;show b.1 / 2 ^ b.2.toNat*2 ^ b.2.toNat=b.1;rw[e,mO _ (by have:=Bd.Uc b.2.toNat;omega)];exact B.x3 (by omega)
 unfold aF;have u:=B.2.1;rw[show(bits - c.2).toNat=(bits - b.2).toNat+1 by omega,aS,l];rfl
theorem PInv.desc(L:0<=bits)(I:PInv bits ps bs bs.length):∀(k:Nat) (c b:Int×Int),c∈bs->b∈bs->b.1<=c.1->c.1<eB b->c.2+(k:Int)+1=b.2->Prt ps b
 | k,c,b,hc,hb,h1,h2,hk=>by
  have B:=I.bk b hb;have S:=I.bk c hc;rcases I.par c hc with rfl|⟨j,p,R,u,pp,z⟩;have:=B.2.1;dsimp only at hk;omega;have P:=I.bk p (aB u);have p1:=pp.pos P;have e2:c.2=p.2 - 1:=by rcases z with rfl|rfl <;> rfl
  have ep:=up_eq P p1;have U:=Bd.Uc (p.2 - 1).toNat;have J:(2:Int) ^ p.2.toNat=2 ^ (p.2 - 1).toNat+2 ^ (p.2 - 1).toNat:=by rw[show p.2.toNat=(p.2 - 1).toNat+1 by omega];exact Q5 _
  have l:inb p c.1:=by unfold inb eB;rcases z with rfl|rfl;exact⟨aK _,by show p.1<_;omega⟩;rw[ep];exact⟨by show p.1<=p.1+_;omega,by show p.1+_<_;omega⟩
  cases k with
  | zero =>have:p=b:=Zr (Yv P) (Yv B) (by push_cast at hk;omega) l ⟨h1,h2⟩;rw[<- this];exact pp
  | succ k =>
   refine PInv.desc L I k p b (aB u) hb ?_ ?_ (by push_cast at hk;omega);obtain⟨_,x,ex⟩:=Yv P;obtain⟨_,y,C⟩:=Yv B;have v:=Bd.Uc p.2.toNat;have G:(2:Int) ^ b.2.toNat=2 ^ (b.2.toNat - p.2.toNat)*2 ^ p.2.toNat:=by rw[<- fD,Nat.sub_add_cancel (by push_cast at hk;omega)]
   rw[G,<- ck]at C;have q:=l.2;unfold eB at q;rw[ex]at q ⊢;rw[C]at h1 ⊢;rcases eM x (y*2 ^ (b.2.toNat - p.2.toNat)) with w|w;have:=bz (show x+1<=y*2 ^ (b.2.toNat - p.2.toNat) by omega) (fh v);rw[cA]at this;omega;exact bz w (fh v);have:=l.1;omega
theorem ZF{S:Int×Int->Option Int}(l:∀b,b∉bs->S b=none):∀(n:Nat) (i:Int),(∀c∈bs,¬(i<=c.1/\c.1<i+2 ^ n/\c.2<=(n:Int)))->cnt S n i=0/\∀d x,decT S n i d x=d
 | 0,i,h=>by have e:S (i,0)=none:=l _ fun z=>h _ z ⟨aK _,by show i<i+2 ^ 0;rw[kY];omega,by simp⟩;constructor;unfold cnt;rw[e];rfl;intro d x;unfold decT;rw[e];rfl
 | n+1,i,h=>by have p2:=Q5 n;have pp:(0:Int)<2 ^ n:=Bd.Uc n;have e:S (i,((n+1:Nat):Int))=none:=l _ fun z=>h _ z ⟨aK _,by show i<i+2 ^ (n+1);omega,aK _⟩;obtain⟨v,y⟩:=ZF l n i fun c hc z=>h c hc ⟨z.1,by omega,by push_cast;omega⟩;obtain⟨o,u⟩:=ZF l n (i+2 ^ n) fun c hc z=>h c hc ⟨by omega,by omega,by push_cast;omega⟩;constructor;unfold cnt;rw[e,v,o];rfl;intro d x;unfold decT;rw[e,y,u];split <;> rfl
theorem zqN{a:Int}{l u:Int×Int}(o:a=0\/a=1):(if sgn a l u=a then(0:Int) else 1)+pk (sgn a l u) l+pk (sgn a l u) u=pk a (jn l u):=by rcases o with rfl|rfl;unfold sgn jn pk;simp only[if_true];by_cases z:l.1+u.1<=l.2+u.2+1;simp only[z,if_true];rw[if_neg (by omega)];omega;simp only[z,if_false,show ¬(1:Int)=0 by decide];rw[if_pos (by omega)];omega;unfold sgn jn pk;simp only[show ¬(1:Int)=0 by decide,if_false];by_cases z:l.2+u.2<=l.1+u.1+1;simp only[z,if_true,show ¬(1:Int)=0 by decide,if_false];rw[if_neg (by omega)];omega;simp only[z,if_false,show ¬(0:Int)=1 by decide,if_true];rw[if_pos (by omega)];omega
theorem zf0(b0:0<=bits)(C:CanP Z ps)(w:∀x,Z x->0<=x/\x<2 ^ bits.toNat)(I:PInv bits ps bs bs.length){S:Int×Int->Option Int}(G:∀b∈bs,S b=if sF bits ps b=aF bits ps b then none else some (sF bits ps b))(y:∀b,b∉bs->S b=none) :
  ∀(n:Nat) (b:Int×Int),b∈bs->b.2=(n:Int)->(∀x,b.1<=x->x<b.1+2 ^ n->(decT S n b.1 (aF bits ps b) x=1↔Z x))/\cnt S n b.1=pk (aF bits ps b) (kst Z n b.1)
 | n,b,hb,hn=>by
  have B:=I.bk b hb;have e1:eB b=b.1+2 ^ n:=by rw[eB,hn];rfl
  have Y:(b.1,(n:Int))=b:=cx rfl hn.symm;have sb:=G b hb;have gd:(S b).getD (aF bits ps b)=sF bits ps b:=by rw[sb];split;rename_i z;rw[z];rfl;rfl
  have so:(if (S b).isSome then(1:Int) else 0)=if sF bits ps b=aF bits ps b then 0 else 1:=by rw[sb];split <;> simp
  have J:=ztf (bits:=bits) (ps:=ps) (b:=b);have leaf:¬Prt ps b->(∀x,b.1<=x->x<b.1+2 ^ n->(sF bits ps b=1↔Z x))/\(if sF bits ps b=aF bits ps b then(0:Int) else 1)=pk (aF bits ps b) (kst Z n b.1):=fun np=>by
   by_cases hN:HasN ps b;have s0:sF bits ps b=0:=by unfold sF sB;rw[if_neg np,if_pos hN]
   have nz:∀x,b.1<=x->x<b.1+2 ^ n->¬Z x:=fun x u v z=>(Vn.mp hN) x u (by omega) ((C.mem x).mpr z);rw[s0,Vp n b.1 nz];refine⟨fun x u v=>⟨fun z=>by omega,fun z=>absurd z (nz x u v)⟩,?_⟩;rcases J with z|z <;> rw[z] <;> rfl;have s1:sF bits ps b=1:=by unfold sF sB;rw[if_neg np,if_neg hN]
   have hA:HasA ps b:=bF fun z=>np ⟨hN,z⟩;have az:∀x,b.1<=x->x<b.1+2 ^ n->Z x:=fun x u v=>(C.mem x).mp (zlM hA x u (by omega));rw[s1,kst_all n b.1 az];refine⟨fun x u v=>⟨fun _=>az x u v,fun _=>rfl⟩,?_⟩;rcases J with z|z <;> rw[z] <;> rfl
  cases n with
  | zero =>
   have np:¬Prt ps b:=fun z=>by have:=z.pos B;push_cast at hn;omega
   have eb0:(b.1,(0:Int))=b:=Y;obtain⟨l1,l2⟩:=leaf np;refine⟨fun x u v=>?_,?_⟩;unfold decT;rw[eb0,gd];exact l1 x u v;unfold cnt;rw[eb0,so];exact l2
  | succ n =>
   have p2:=Q5 n;have pp:(0:Int)<2 ^ n:=Bd.Uc n;by_cases np:Prt ps b;have u:=np.pos B;have el:loH b=(b.1,(n:Int)):=cx rfl (by show b.2 - 1=n;push_cast at hn;omega);have eu:upH b=(b.1+2 ^ n,(n:Int)):=zn5 B hn;obtain⟨j,hj⟩:=lR.mp hb;obtain⟨⟨il,_,U⟩,⟨iu,_,L⟩⟩:=I.kid j b (ao.mp hj).1 hj np;obtain⟨dl,cl⟩:=zf0 b0 C w I G y n (loH b) (aB U) (by rw[el]);obtain⟨du,R⟩:=zf0 b0 C w I G y n (upH b) (aB L) (by rw[eu]);rw[ZS B u (.inl rfl)]at dl cl;rw[ZS B u (.inr rfl)]at du R;rw[el]at dl cl;rw[eu]at du R;refine⟨fun x u v=>?_,?_⟩;unfold decT;rw[Y,gd];by_cases z:x<b.1+2 ^ n;rw[if_pos z];exact dl x u z;rw[if_neg z];exact du x (by show b.1+2 ^ n<=x;omega) (by show x<b.1+2 ^ n+2 ^ n;omega);unfold cnt kst;rw[Y,so];have cl:cnt S n b.1=pk (sF bits ps b) (kst Z n b.1):=cl;have R:cnt S n (b.1+2 ^ n)=pk (sF bits ps b) (kst Z n (b.1+2 ^ n)):=R;rw[cl,R];have es:sF bits ps b=sgn (aF bits ps b) (kst Z n b.1) (kst Z n (b.1+2 ^ n)):=by have Bl:=I.bk _ (aB U);have Bu:=I.bk _ (aB L);unfold sF sB;rw[if_pos np,show(b.2 - 1).toNat=n by push_cast at hn;omega,Zw b0 C w n (loH b) Bl (by rw[el]),Zw b0 C w n (upH b) Bu (by rw[eu]),el,eu]
   rw[es];exact zqN J;obtain⟨l1,l2⟩:=leaf np;have no:∀c∈bs,¬(b.1<=c.1/\c.1<b.1+2 ^ (n+1)/\c.2<=(n:Int)):=fun c hc z=>np (I.desc b0 (b.2 - c.2 - 1).toNat c b hc hb z.1 (by omega) (by push_cast at hn;omega));obtain⟨c1,d1⟩:=ZF y n b.1 fun c hc z=>no c hc ⟨z.1,by omega,z.2.2⟩;obtain⟨c2,d2⟩:=ZF y n (b.1+2 ^ n) fun c hc z=>no c hc ⟨by omega,by omega,z.2.2⟩;refine⟨fun x u v=>?_,?_⟩;unfold decT;rw[Y,gd,d1,d2];have:=l1 x u v;split <;> exact this;unfold cnt;rw[Y,so,c1,c2,<- l2];omega
noncomputable def frB (bits:Int) (ps:BL) (b:Int×Int):Option ((Int×Int)×Int):=open Classical in if sF bits ps b=aF bits ps b then none else some (b,sF bits ps b)
theorem zp1{l:BL}{r:(Int×Int)×Int}:r∈l.filterMap (frB bits ps)↔r.1∈l/\sF bits ps r.1≠aF bits ps r.1/\r.2=sF bits ps r.1:=by rw[d9];constructor;rintro⟨b,v,e⟩;unfold frB at e;split at e;cases e;rename_i z;cases e;exact⟨v,z,rfl⟩;rintro⟨o,u,x⟩;exact⟨r.1,o,by unfold frB;rw[if_neg u,<- x]⟩
theorem zsP{l:BL}(nd:l.Nodup):((l.filterMap (frB bits ps)).map (·.1)).Nodup:=by
 rw[List.map_filterMap];refine tD (R:=(·≠·)) _ (fun a C h b x G v=>?_) nd;have key:∀{a b:Int×Int},Option.map (·.1) (frB bits ps a)=some b->b=a:=fun {a b} e=>by unfold frB at e;split at e;cases e;exact(au e).symm
 rw[key x,key v];exact h
theorem zgV(y:0<=bits)(C:CanP Z ps)(w:∀x,Z x->0<=x/\x<2 ^ bits.toNat)(I:PInv bits ps bs bs.length){rs:RL}(pm:rs.Perm (bs.filterMap (frB bits ps))) :
  Rls0 bits rs/\(rs.length:Int)=zcs bits ps/\∀x,0<=x->x<2 ^ bits.toNat->(SgX rs x 1↔Z x):=by
 have mem:∀r,r∈rs↔r.1∈bs/\sF bits ps r.1≠aF bits ps r.1/\r.2=sF bits ps r.1:=fun r=>pm.mem_iff.trans zp1;have nd:(rs.map (·.1)).Nodup:=(pm.map _).nodup_iff.mpr (zsP I.nd);have bk:∀r∈rs,IsBk bits r.1.1 r.1.2:=fun r l=>I.bk _ ((mem r).mp l).1;have G:∀r∈rs,r.2=0\/r.2=1:=fun r l=>by rw[((mem r).mp l).2.2];exact zq6
 have R:Rok rs:=zky (bits:=bits) (fun r l=>⟨bk r l,G r l⟩) nd;have In:=Vo y bk;have L:∀b∈bs,sgAt rs b=if sF bits ps b=aF bits ps b then none else some (sF bits ps b):=fun b v=>by
  split;rename_i z;cases e:sgAt rs b with
  | none=>rfl
  | some s=>exact absurd z ((mem _).mp (Q9 e)).2.1
  rename_i z;exact Vf R.2 (r:=(b,sF bits ps b)) ((mem _).mpr ⟨v,z,rfl⟩)
 have J:∀b,b∉bs->sgAt rs b=none:=fun b v=>by
  cases e:sgAt rs b with
  | none=>rfl
  | some s=>exact absurd ((mem _).mp (Q9 e)).1 v
 have l:(0,bits)∈bs:=aB I.root;obtain⟨d,c⟩:=zf0 y C w I L J bits.toNat (0,bits) l (by show bits=_;omega);rw[zmJ]at d c;refine⟨⟨fun r l=>⟨bk r l,by have:=G r l;omega⟩,nd⟩,?_,fun x x0 x1=>?_⟩;rw[<- zmv R In,zfI y C w];exact c;rw[Y8 R In x0 x1];exact d x x0 (by show x<0+_;omega)
end
end L2
namespace L2
open PySem PySem.Spec PySem.W PyProof.Rows
section
variable{X:Cx}{a b:aQ}{da db:DTE}{pos:Pos}
def lRep(x y:ab)(Q:List ab->Prop):Prop:=∃t k,x=.list [t]/\y=.int k/\0<=k/\k<=1000/\Q (aU k.toNat t)
def dRep(da db:DTE):DTA:=fun l n R=>da l n fun x u=>db l u fun y o=>lRep x y fun ts=>R ts o
instance zvN {ρ:En}{n:Nat}{R:List ab->Nat->Prop}:Stp (dRep da db ρ n R) (da ρ n fun x n1=>db ρ n1 fun y n2=>lRep x y fun ts=>R ts n2):=⟨fun h=>h⟩
instance zvH {t:ab}{k:Int}{Q:List ab->Prop}:Stp (lRep (.list [t]) (.int k) Q) (0<=k/\k<=1000/\Q (aU k.toNat t)):=⟨fun⟨a,b,c⟩=>⟨t,k,rfl,rfl,a,b,c⟩⟩
theorem ziu{K:qF}{hd:Option af}{O:af->Prop}{H:Hp}{v:V}{t:ab}(r:Rep K hd O H v t):∀k:Nat,Reps K hd O H (aU k v) (aU k t)
 | 0=>.nil
 | k+1=>.cons r (ziu r k)
theorem zi2{α:Type}(v:α):∀k:Nat,(aU k [v]).flatten=aU k v
 | 0=>rfl
 | k+1=>by rw[bG,fv,zi2 v k];rfl
theorem zs3(I:DL X a da)(G:DL X b db):DN X (.BinOp a .Mult b pos) (dRep da db):=by
 obtain⟨ta,pa,I⟩:=I;obtain⟨tb,L,G⟩:=G;refine⟨_,JF zrB pa L,fun C ρ σ H n Q R S h N=>?_⟩;refine two I G S h fun x y Y v w H2 Z e J q1 q2=>?_;obtain⟨t,k,rfl,rfl,k0,k1,r⟩:=Z;obtain⟨p,vs,rfl,h1,U⟩:=q1.lstI;cases U with
 | cons r1 r0 =>cases r0;rw[q2.intI];refine⟨p,k,_,rfl,rfl,h1,by omega,by omega,?_,fun l o=>?_⟩;show 1*k.toNat<=sizeLine;have:sizeLine=16777216:=rfl;omega;rw[zi2];exact N _ Y l _ _ r (e.trans (ExtE.new o)) (J.hnd.same (JL o)) (Uw e J.hnd o) JB (ziw o (ziu r1 _))
end
section
variable{X:Cx}{st:dE}{sts:List dE}{ps:List Str}{u:DTS}{x s hx:Str}{pos pos' p p1 p2 p3:Pos}{k m:Nat}
def zku(i:Nat)(u:DTS):DTS:=fun D C n=>ZM C[0]? fun ts=>(∃ns:List Int,ts=ns.map bo/\ns.length<=63) /\
 u { nx:=fun y _=>D.nx (Jr y) n,rt:=fun t _=>∃b,t=.bool b/\D.rt t n,bk:=fun y _=>D.bk (Jr y) n,ct:=fun y _=>D.ct (Jr y) n } ((Jr C).set i (some (.val HAND))) 0
theorem zlY{i:Nat}{kk:Int}{jc:_}(F:Bd.Fq X.prog X.w X.K X.mg X.base hx st ps k (YC X.K))(hr:Room m X.A)(hN:X.N.Nodup)(hi:X.N[i]?=some x)(hlx:Loc X.env.scope x)(hu:DSs X sts u)(hk:k<=m:=by decide)(k0:0<=kk:=by decide)(k1:kk<=100:=by decide)(hij:i≠0:=by decide)
  (h0:X.N[0]?=some s:=by rfl) (hv0:Vis X.env.scope s:=by walk_at "V")
  (hd0:(s == ("__debug__":Str))=false:=by rfl) (Ig:(s == ("__classdict__":Str))=false:=by rfl) (hg:Gl X hx:=by rfl) (hdb:(hx == ("__debug__":Str))=false:=by rfl)
  (hs:swapsWith (.Call (.Name hx p) [.Name s p1,.Constant (.int kk) jc p2] [] p3) (some (.Name x pos')) pos.line X.env=pure false:=by rfl) (hf:X.fn x=true\/X.env.scope.names.lookup x=some .local:=by walk_at "F") :
  DSs X (.Assign [.Name x pos'] (.Call (.Name hx p) [.Name s p1,.Constant (.int kk) jc p2] [] p3) pos::sts) (zku i u):=by
 obtain⟨f,fd,D,G⟩:=F;obtain⟨tu,pu,hu⟩:=hu;refine⟨_,Qo (Qm hN hi hlx (Bd.znh D G (hr.mono hk) (JY (Qe h0 hv0 hd0 Ig) (JY JD Qk rfl) rfl) hg hdb) hs hf) pu,fun C ρ σ H n Dn D' S hd g=>?_⟩;unfold zku ZM at hd;split at hd;rename_i ts e0;obtain⟨⟨ns,rfl,hl⟩,hd⟩:=hd;obtain⟨v0,s0,r0⟩:=S.val 0 _ e0;obtain⟨a0,rfl,sq0⟩:=r0.scrI;refine⟨_,s0,?_⟩;refine⟨a0,ns,kk,rfl,sq0,hl,k0,k1,fun h H1 R hok L=>?_⟩;have S1:=S.on (Same.ext L:ExtE C.hd H H1) (S.hnd.same L);have nx:¬Own C ρ σ h:=fun z=>S.dom z R;have Sd:Stt X.K ⟨some h,fun a=>C.ext a\/a=h⟩ (Jr ρ) σ H1 0:=S.drop (fun a Y=>by cases Y;exact .inl ⟨hok,by decide⟩) (fun a z=>z.elim (fun z=>S1.ext a z) fun z=>by subst z;obtain⟨_,_,_,q,_⟩:=hok;exact .inl ⟨_,q⟩) (fun a Y=>.inr (by cases Y;rfl))
  (fun a o I no=>⟨L a o I,fun z=>z.elim (fun z=>no (.inl z)) fun z=>by subst z;rw[R]at I;cases I⟩)
 have Sd2:=Sd.put (i:=i) (t:=HAND) (v:=.ref h) (.hand rfl);have Ie:∀a,¬OwnS ((Jr ρ).set i (some (.val HAND))) (σ.set i (some (.ref h))) a:=fun a z=>Zf (Zn z);refine hu _ _ _ H1 0 _ _ Sd2 hd ?_;have back:∀{y σ' H' n'},Stt X.K ⟨some h,fun a=>C.ext a\/a=h⟩ y σ' H' n'->(∀a o,H1 a=some o->some h≠some a->H' a=some o)->Stt X.K C (Jr y) σ' H' n:=fun {y σ' H' n'} S' kp =>
  S'.drop (fun a Y=>by
    rcases S.hnd a Y with⟨⟨d,m,t,q,rest⟩,l⟩|⟨l,q⟩;exact .inl ⟨⟨d,m,t,kp a _ (L _ _ q) (fun z=>by cases z;rw[R]at q;cases q),rest⟩,l⟩;exact .inr ⟨l,q.same fun b o e=>kp b _ (L _ _ e) (fun z=>by cases z;rw[R]at e;cases e)⟩)
   (fun a z=>by rcases S.ext a z with⟨xs,q⟩|⟨xs,q⟩|⟨b,q⟩;exact .inl ⟨xs,kp a _ (L _ _ q) (fun z=>by cases z;rw[R]at q;cases q)⟩;exact .inr (.inl ⟨xs,kp a _ (L _ _ q) (fun z=>by cases z;rw[R]at q;cases q)⟩);exact .inr (.inr ⟨b,kp a _ (L _ _ q) (fun z=>by cases z;rw[R]at q;cases q)⟩)) S.hx (fun a o I no=>⟨I,fun z=>no (.inl (.inl z))⟩)
 have U:∀{y σ' H'},Keep ⟨some h,fun a=>C.ext a\/a=h⟩ ((Jr ρ).set i (some (.val HAND))) (σ.set i (some (.ref h))) H1 y σ' H'->∀a o,H1 a=some o->some h≠some a->H' a=some o:=fun k a o I na=>(k a o I na (Ie a)).1;have Z:∀{y σ' H'},Keep ⟨some h,fun a=>C.ext a\/a=h⟩ ((Jr ρ).set i (some (.val HAND))) (σ.set i (some (.ref h))) H1 y σ' H'->Keep C ρ σ H (Jr y) σ' H':=fun k a o I _ _=>⟨U k a o (L a o I) (fun z=>by cases z;rw[R]at I;cases I),Zf⟩;refine⟨fun y σ' H' n' h' S' J=>g.nx _ _ H' n h' (back S' (U J)) (Z J),fun t n' v H' h' hn' J rp=>?_,fun y σ' H' n' h' S' J=>g.bk _ _ H' n h' (back S' (U J)) (Z J),fun y σ' H' n' h' S' J=>g.ct _ _ H' n h' (back S' (U J)) (Z J),fun _ _ _ h=>h.elim⟩;obtain⟨b,rfl,h'⟩:=h';rw[rp.blI];have kq:∀a o,H a=some o->H' a=some o:=fun a o I=>J a o (L a o I) (fun z=>by cases z;rw[R]at I;cases I) (Ie a);refine g.rt _ n _ H' h' (fun a Y=>?_) (fun a o I _ _=>kq a o I) (.bl b);rcases S.hnd a Y with⟨⟨d,m,t,q,rest⟩,l⟩|⟨l,q⟩;exact .inl ⟨⟨d,m,t,kq a _ q,rest⟩,l⟩;exact .inr ⟨l,q.same kq⟩;exact hd.elim
end
theorem znB{i:Nat}{u:DTS}{D:JH}{C nn y:En}{n:Nat}{ns:List Int}[e1:NoneN C nn][e3:SetN (some (.val (SCR ns))::nn) i (some (.val HAND)) y](N:ns.length<=63)
  (h:∀(I:En->Nat->Prop) (L:qN) (G J:En->Nat->Prop),(∀x m,D.nx (Jr x) n->I x m)->(∀b m,D.rt (.bool b) n->L (.bool b) m)->(∀x m,D.bk (Jr x) n->G x m)->(∀x m,D.ct (Jr x) n->J x m) ->
   u { nx:=I,rt:=L,bk:=G,ct:=J } y 0):zku i u D (some (.val (SCR ns))::C) n:=by
 refine⟨⟨ns,rfl,N⟩,?_⟩;have e:Jr (some (Cell.val (SCR ns))::C)=some (.val (SCR ns))::nn:=by show some (Cell.val (SCR ns))::aU (dA (some (Cell.val (SCR ns))::C) - 1) none=_;rw[aE,iz,e1.e]
 rw[e,e3.e];exact h _ _ _ _ (fun _ _ h=>h) (fun b _ h=>⟨b,rfl,h⟩) (fun _ _ h=>h) (fun _ _ h=>h)
section
variable{X:Cx}{e:aQ}{es:List aQ}{pos pt:Pos}{d:DTA}{gs:DTGs}{is:List Nat}
def zq4(d:DTA)(gs:DTGs):DTS:=fun D o n=>d o n fun ts u=>gs ts o fun l=>D.nx l u
instance zt_ {D:JH}{ρ:En}{n:Nat}:Stp (zq4 d gs D ρ n) (d ρ n fun ts n'=>gs ts ρ fun ρ'=>D.nx ρ' n'):=⟨fun h=>h⟩
theorem zp7{kt:_}(hc:X.calm=true)(h:DN X e d)(y:DGs X es is gs)(hn:(assignEach es X.env).length=es.length:=by rfl)(N:(assignEach es X.env).findIdx? (·.1)=none:=by rfl)
  (hs:swapsWithSole [.Tuple es kt pt] e pos.line X.env=pure false:=by rfl) (hw:swappedStores [.Tuple es kt pt] e X.env=pure none:=by rfl) (h1:(assignEach [.Tuple es kt pt] X.env).map (·.2)=[assign (.Tuple es kt pt) X.env]:=by rfl) :
  DS X (.Assign [.Tuple es kt pt] e pos) (zq4 d gs):=by
 obtain⟨ta,pa,h⟩:=h;obtain⟨l,w,g,pg,y⟩:=y;refine⟨_,YA pa (zpa hc pg hn N) hs hw h1,fun C v σ H n D D' S hd gd=>?_⟩;refine h C v σ H n _ _ S hd fun ts U p Z J r Y L hp hv q=>?_;have S1:=S.on Y L;have R:Reps X.K C.hd (Own C v σ) J Z ts:=q.mono (fun _ _ _ z=>.inl z) fun _ _ _ z=>z;exact⟨p,_,rfl,.of hv,R.length.trans (l ts v _ r),y C v σ J U Z ts _ _ S1 R r fun G σ' hr S' kp _ _=>gd.nx G σ' J U hr S' (Y.keep.trans kp)⟩
end
end L2
namespace Bd
open PySem L2
def top(i:Nat):dE:=PySem.Challenge.pw_blockdeal_k16_fewest_rules.main.body.getD i (.Pass ⟨0,0,0,0⟩)
set_option maxHeartbeats 4000000
local macro_rules | `(tactic| walk_at "S") => `(tactic| first | with_reducible refine zjk ?_ | with_reducible refine Stp.go ?_ | with_reducible refine j_all (by with_unfolding_all rfl) ?_ | with_reducible refine j_any (by with_unfolding_all rfl) ?_ | with_reducible refine zon (by with_unfolding_all rfl) ?_ | with_reducible refine zoo (by with_unfolding_all rfl) ?_ | with_reducible refine ziV (by with_unfolding_all rfl) ?_ | with_reducible refine ziU (by with_unfolding_all rfl) ?_)
set_option hygiene false in
local macro_rules | `(tactic| walk_at "K") => `(tactic| first | walk_at "S" | with_reducible refine zsp (fun hc => ?_) (fun hc => ?_) | with_reducible refine zvi (fun hc => ?_) (fun hc => ?_) | with_reducible refine And.intro ?_ ?_)
set_option hygiene false in
local macro_rules | `(tactic| wp_walk using $ts:term,*) => `(tactic| repeat' (first $[| with_reducible refine $ts:term]* | walk_at "K"))
local macro_rules | `(tactic| wp_walk) => `(tactic| repeat' walk_at "K")
structure Txt(mg:qM):Prop where
 isi:mg "isinstance" = none
 int:mg "int" = none
 boo:mg "bool" = none
 tup:mg "tuple" = none
 len:mg "len" = none
 min:mg "min" = none
 max:mg "max" = none
 str:mg "str" = none
 rep:mg "repr" = none
 all:mg "all" = none
 any:mg "any" = none
 ran:mg "range" = none
 sum:mg "sum" = none
 srt:mg "sorted" = none
 lst:mg "list" = none
 abs:mg "abs" = none
 zip:mg "zip" = none
 dct:mg "dict" = none
 rev:mg "reversed" = none
 enu:mg "enumerate" = none
 vae:mg "ValueError" = none
section
variable{P:aO}{w:br}{K:qF}{mg:qM}{base:ba}{Z:ZZ}
def zgS:GD:=fun ts n R=>∃i h:Int,ts=[.tuple [.int i,.int h]]/\0<=h/\h<=1000/\R (.int (2 ^ h.toNat)) n
theorem zmA{i h:Int}{n:Nat}{R:qN}(o:0<=h)(g1:h<=1000)(h':R (.int (2 ^ h.toNat)) n):zgS [.tuple [.int i,.int h]] n R:=⟨_,_,rfl,o,g1,h'⟩
def zgj(Z:ZZ):Prop:=FQ Z "size_of" (top 1) ["block"] 1 (spD Z.K 1 zgS)
theorem zjy(D:Dq Z.K Z.mg "size_of" (top 1) ["block"]) (T:Txt Z.mg):zgj Z:=by refine' okQ D (fnS (N:=["block"]) (by decide +kernel)) rfl fun f o A outer s H E u=>⟨_,(Jc (Jh (JT dli (dl (Jm (dlv 0) dli))))),?_⟩;intro ts n R x l;obtain⟨i,h,rfl,v,g1,l⟩:=l;wp_walk;exact cpow (by lia) (by lia);rw[U0];exact l
def zi1:GD:=fun ts n R=>∃i h g:Int,ts=[.tuple [.int i,.int h],.int g]/\0<=g/\g<=1000/\0<=i/\i<2 ^ 64/\R (.tuple [.int (i / 2 ^ g.toNat*2 ^ g.toNat),.int g]) n
theorem znZ{i h g:Int}{n:Nat}{R:qN}(x:0<=g)(g1:g<=1000)(v:0<=i)(o:i<2 ^ 64)(h':R (.tuple [.int (i / 2 ^ g.toNat*2 ^ g.toNat),.int g]) n):zi1 [.tuple [.int i,.int h],.int g] n R:=⟨_,_,_,rfl,x,g1,v,o,h'⟩
def ziz(Z:ZZ):Prop:=FQ Z "around" (top 4) ["block","height"] 1 (spD Z.K 2 zi1)
theorem zk6(D:Dq Z.K Z.mg "around" (top 4) ["block","height"]) (T:Txt Z.mg):ziz Z:=by refine' okQ D (fnS (N:=["block","height"]) (by decide +kernel)) rfl fun f v A outer s H E x=>⟨_,(Jc (Jh (Jx (dbc (JT (dl (zmb (dl (Jm (dlv 0) dli)) (dlv 1))) (dlv 1)) (dbv 1 Ja))))),?_⟩;intro ts n R C l;obtain⟨i,h,g,rfl,o,g1,u,y,l⟩:=l;simp only[Z2,Z1,Z3,Z0,u_dC,ZP,ZU,ZW,ZV,Vi,ZO,Vu,Vw,Vk,Vj,Vv,ZY,Z6,Zb,YD,YX,Y9,Za,YY,YZ,Ze,Yr,Ys,oSub,oMul,oMod,Uj,oPow,oShl,oShr,oXor,oAnd,isNone,isInt,isBool,isTup,l_gI,ZD,YH,Ye,Yh,Yg,Ym,Yn,Y3,Zj,Yj,Yi,YL,YM,YJ,YK,YN,YO,YQ,Yd,Yl,Yk,YI,Zk,Y4,Zi,U2,Zz,Ux,UZ,JV,Jw,capV,aG,dM,aE,bK,bG,fQ,cY,dB,bS,dS,e8,gk,gm,fR,fS,eJ,Nat.reduceAdd,Nat.reduceSub,gP,true_and,and_true,aI,if_true,if_false,ite_true,ite_false,fq,eX,gZ];refine⟨o,⟨o,by lia,?_⟩,l⟩;have:i / 2 ^ g.toNat<=i:=kb _ u;have:0<=i / 2 ^ g.toNat:=lD u (fh (Uc _));lia
def zlS:GD:=fun ts n R=>∃i h j g:Int,ts=[.tuple [.int i,.int h],.tuple [.int j,.int g]]/\0<=h/\h<=1000/\0<=j/\j<2 ^ 64/\R (.bool (hldD i h j g)) n
theorem zqi{i h j g:Int}{n:Nat}{R:qN}(h0:0<=h)(v:h<=1000)(x:0<=j)(y:j<2 ^ 64)(h':R (.bool (hldD i h j g)) n):zlS [.tuple [.int i,.int h],.tuple [.int j,.int g]] n R:=⟨_,_,_,_,rfl,h0,v,x,y,h'⟩
def zkG(Z:ZZ):Prop:=FQ Z "holds" (top 2) ["one","other"] 2 (spD Z.K 2 zlS)
theorem znn(D:Dq Z.K Z.mg "holds" (top 2) ["one","other"]) (v:ziz Z) (T:Txt Z.mg):zkG Z:=by refine' okQ D (fnS (N:=["one","other"]) (by decide +kernel)) rfl fun f C A outer s H E o=>⟨_,(Jc (Jh (zh2 (Qi zrH gp_B (dl (Jm (dlv 0) dli)) (dl (Jm (dlv 1) dli)) (Jk _)) (YW (Qi (Qj o) Qg (dl (Je v o (dbv 1 (dbc (Jm (dlv 0) dli) Ja)))) (dlv 0) (Jk _)))))),?_⟩;intro ts n R G l;obtain⟨i,h,j,g,rfl,x,g1,y,u,l⟩:=l;unfold hldD at l;wp_walk using znZ x g1 y u ?_;exact UZ;exact UZ;rw[decide_eq_true hc,g9]at l;rw[znJ];simpa using l;rw[decide_eq_false hc,lT]at l;exact l
def zdp:GD:=fun ts n R=>∃i h:Int,ts=[.tuple [.int i,.int h]]/\0<=h/\h<=1000/\R (.tuple [.int (bV i (2 ^ h.toNat)),.int h]) n
theorem zhe{i h:Int}{n:Nat}{R:qN}(o:0<=h)(g1:h<=1000)(h':R (.tuple [.int (bV i (2 ^ h.toNat)),.int h]) n):zdp [.tuple [.int i,.int h]] n R:=⟨_,_,rfl,o,g1,h'⟩
def zdi(Z:ZZ):Prop:=FQ Z "other_half" (top 5) ["block"] 1 (spD Z.K 1 zdp)
theorem zfz(D:Dq Z.K Z.mg "other_half" (top 5) ["block"]) (T:Txt Z.mg):zdi Z:=by refine' okQ D (fnS (N:=["block","begin","height"]) (by decide +kernel)) rfl fun f u A outer s H E v=>⟨_,(Jb (Um (Jo 0) (J7 rfl (Ju (dgv 1 (ndB rfl)) (Ju (dgv 2 (ndB rfl)) J5)))) (Jc (Jh (Jx (dbc (zoy (dlv 1) (dl (JT dli (dlv 2)))) (dbv 2 Ja)))))),?_⟩;intro ts n R x l;obtain⟨i,h,rfl,o,g1,l⟩:=l;simp only[Z2,Z1,Z3,Z0,u_dC,ZP,ZU,ZW,ZV,Vi,ZO,Vu,Vw,Vk,Vj,Vv,ZY,Z6,Zb,YD,YX,Y9,Za,YY,YZ,Ze,Yr,Ys,oSub,oMul,oMod,Uj,oPow,oShl,oShr,oXor,oAnd,isNone,isInt,isBool,isTup,l_gI,ZD,YH,Ye,Yh,Yg,Ym,Yn,Y3,Zj,Yj,Yi,YL,YM,YJ,YK,YN,YO,YQ,Yd,Yl,Yk,YI,Zk,Y4,Zi,U2,Zz,Ux,UZ,JV,Jw,capV,aG,dM,aE,bK,bG,fQ,cY,dB,bS,dS,e8,gk,gm,fR,fS,eJ,Nat.reduceAdd,Nat.reduceSub,gP,true_and,and_true,aI,if_true,if_false,ite_true,ite_false,fq,eX,gZ];refine⟨cpow o (by lia),?_⟩;rw[bI];exact l
def ziY:GD:=fun ts n R=>∃i h:Int,ts=[.tuple [.int i,.int h]]/\1<=h/\h<=1000/\R (.tuple [.tuple [.int i,.int (h - 1)],.tuple [.int (bV i (2 ^ (h - 1).toNat)),.int (h - 1)]]) n
theorem UY{i h:Int}{n:Nat}{R:qN}(v:1<=h)(g1:h<=1000)(h':R (.tuple [.tuple [.int i,.int (h - 1)],.tuple [.int (bV i (2 ^ (h - 1).toNat)),.int (h - 1)]]) n):ziY [.tuple [.int i,.int h]] n R:=⟨_,_,rfl,v,g1,h'⟩
def Vr(Z:ZZ):Prop:=FQ Z "halves" (top 3) ["block"] 2 (spD Z.K 1 ziY)
theorem zk3(D:Dq Z.K Z.mg "halves" (top 3) ["block"]) (u:zdi Z) (T:Txt Z.mg):Vr Z:=by refine' okQ D (fnS (N:=["block","begin","height","lower"]) (by decide +kernel)) rfl fun f v A outer s H E o=>⟨_,(Jb (Um (Jo 0) (J7 rfl (Ju (dgv 1 (ndB rfl)) (Ju (dgv 2 (ndB rfl)) J5)))) (Jb (dsv 3 (ndB rfl) (Jx (dbv 1 (dbc (Qt (dlv 2) dli) Ja)))) (Jc (Jh (Jx (dbv 3 (dbc (Je u o (dbv 3 Ja)) Ja))))))),?_⟩;intro ts n R y l;obtain⟨i,h,rfl,x,g1,l⟩:=l;wp_walk using zhe ?_ ?_ ?_;lia;lia;exact l
def zi0:GD:=fun ts n R=>∃i h:Int,ts=[.tuple [.int i,.int h]]/\0<=h/\h<=1000/\R (.int (i+2 ^ h.toNat)) n
theorem Zt{i h:Int}{n:Nat}{R:qN}(o:0<=h)(g1:h<=1000)(h':R (.int (i+2 ^ h.toNat)) n):zi0 [.tuple [.int i,.int h]] n R:=⟨_,_,rfl,o,g1,h'⟩
def Zp(Z:ZZ):Prop:=FQ Z "end_of" (top 14) ["block"] 2 (spD Z.K 1 zi0)
theorem zk5(D:Dq Z.K Z.mg "end_of" (top 14) ["block"]) (u:zgj Z) (T:Txt Z.mg):Zp Z:=by refine' okQ D (fnS (N:=["block"]) (by decide +kernel)) rfl fun f v A outer s H E o=>⟨_,(Jc (Jh (JM (dl (Jm (dlv 0) dli)) (dl (Je u o (dbv 0 Ja)))))),?_⟩;intro ts n R y l;obtain⟨i,h,rfl,x,g1,l⟩:=l;wp_walk using zmA ?_ ?_ ?_;lia;lia;exact l
theorem zjO{hi:Int}(h:0<hi):Qv 0 hi hi.toNat.log2:=⟨by simp,by have:=zlh h;lia,fun z=>by have:=zld h;have:=z.2;lia⟩
theorem zlN{lo hi:Int}{t:Nat}(h:lo<hi)(u:lo % 2 ^ t=0)(v:¬lo % 2 ^ (t+1)=0):Qv lo hi (min (hi - lo).toNat.log2 t):=by have a:=zlh (i:=hi - lo) (by lia);have b:=zld (i:=hi - lo) (by lia);rcases tU (hi - lo).toNat.log2 t with z|z;rw[lF z];exact⟨UB z u,a,fun y=>by have:=y.2;lia⟩;rw[Nat.min_eq_right z];exact⟨u,kP (QX z) a,fun y=>v y.1⟩
theorem znq(t:Nat):((2:Int) ^ t).toNat.log2=t:=by
 have e:((2:Int) ^ t).toNat=2 ^ t:=by
  have:((2 ^ t:Nat):Int)=(2:Int) ^ t:=by rw[eG];rfl
  rw[<- this];rfl
 rw[e,Nat.log2_two_pow]
def zbN:GD:=fun ts n R=>∃lo hi:Int,ts=[.int lo,.int hi]/\0<=lo/\lo<hi/\∀g:Nat,Qv lo hi g->R (.int g) n
theorem zdf{lo hi:Int}{n:Nat}{R:qN}(l:0<=lo)(o:lo<hi)(h:∀g:Nat,Qv lo hi g->R (.int g) n):zbN [.int lo,.int hi] n R:=⟨lo,hi,rfl,l,o,h⟩
def zbJ(Z:ZZ):Prop:=FQ Z "greatest_height" (top 15) ["begin","high"] 1 (spD Z.K 2 zbN)
theorem zcK(D:Dq Z.K Z.mg "greatest_height" (top 15) ["begin","high"]) (T:Txt Z.mg):zbJ Z:=by
 refine' okQ D (fnS (N:=["begin","high","room"]) (by decide +kernel)) rfl fun f y A outer s H E x=>⟨_,(Jb (dsv 2 (ndB rfl) (Qt (dl (zg3 (dl (Qt (dlv 1) (dlv 0))))) dli)) (Jb (JJ (Jz (Qj x) Qg (dlv 0) dli (Jk _)) (Jc (Jh (Jo 2))) JK) (Jc (Jh (JN (Uy rfl) Ur T.min UE (Ji (dlv 2) (Ji (dl (Qt (dl (zg3 (dl (zs7 (dlv 0) (dl (Vc (Jo 0))))))) dli)) Jt UT) Jp)))))),?_⟩;intro ts n R G h;obtain⟨lo,hi,rfl,C,u,h⟩:=h;have room:=zeg (i:=hi - lo) (by lia);wp_walk;rw[room];subst hc;have:=h _ (zjO u);rw[Int.sub_zero];exact this;obtain⟨t,t1,t2⟩:=ztY (b:=lo) (by lia);have an:=zqo (b:=lo) (by lia) t1 t2;have v:=zeg (i:=(2:Int) ^ t) (Uc t);rw[znq]at v;rw[an,room,v];have:=h _ (zlN u t1 t2);have e:(if (t:Int)<((hi - lo).toNat.log2:Int) then(t:Int) else((hi - lo).toNat.log2:Int))=((min (hi - lo).toNat.log2 t:Nat):Int):=by split <;> lia
 rw[e];exact this
def YF:GD:=fun ts n R=>∃lo hi:Int,ts=[.int lo,.int hi]/\0<=lo/\lo<=hi/\hi<=2 ^ 64/\∀bs,Jn lo hi bs->R (.tuple (pD bs)) n
theorem ztb{lo hi:Int}{n:Nat}{R:qN}(o:0<=lo)(v:lo<=hi)(l2:hi<=2 ^ 64)(h:∀bs,Jn lo hi bs->R (.tuple (pD bs)) n):YF [.int lo,.int hi] n R:=⟨lo,hi,rfl,o,v,l2,h⟩
def zod(Z:ZZ):Prop:=FQ Z "span" (top 8) ["low","high"] 3 (spD Z.K 2 YF)
theorem zpo(D:Dq Z.K Z.mg "span" (top 8) ["low","high"]) (E2:Zp Z) (E8:zbJ Z) (T:Txt Z.mg):zod Z:=by
 refine' okQ D (fnS (N:=["low","high","blocks","begin","block"]) (by decide +kernel)) rfl fun f cdv A outer s H E C=>⟨_,(Jb (Qz (i:=2) (ndB rfl) rfl (d6 rfl) (J8 Ja)) (Jb (dsv 3 (ndB rfl) (Jo 0)) (Jb (zfQ bq (Jz (Uu C) Uq (dlv 3) (dlv 1) (Jk _)) (Jb (dsv 4 (ndB rfl) (Jx (dbv 3 (dbc (Je E8 C (dbv 3 (dbv 1 Ja))) Ja)))) (Jb (QD 2 (Jo 4)) (Jc (dsv 3 (ndB rfl) (Je E2 C (dbv 4 Ja))))))) (QE 2 (Jc (Jh (Ul ZB Zg T.tup U4 (Ji (dlv 2) Jt Jp)))))))),?_⟩;intro ts n R hl h;obtain⟨lo,hi,rfl,U,l1,l2,h⟩:=h;obtain⟨all,A⟩:=zkk _ lo hi (av _) l1;have al:=A.len U l2;wp_walk;refine zkb (fun m L J=>J=n/\∃(bs rest:qB) (y:Int) (I:Option Cell),L=[some (.val (.int lo)),some (.val (.int hi)),some (.own (pD bs)),some (.val (.int y)),I]/\all=bs++rest/\Jn y hi rest/\lo<=y/\m=rest.length) (m:=all.length) ⟨rfl,[],all,lo,_,rfl,rfl,A,aK _,rfl⟩ ?_;rintro m L J NX RT BK ⟨rfl,bs,rest,y,I,rfl,x,S,lb,rfl⟩ hN hR hB;wp_walk
 ·cases rest with
  | nil=>have:y=hi:=S;lia
  | cons b r =>
   obtain⟨s1,s2,s3,s4,s5⟩:=S;refine zdf (by lia) hc fun g G=>?_;have eg:b.2.toNat=g:=s4.uniq G;have Y:b=(y,(g:Int)):=cx s2 (by show b.2=(g:Int);lia);have gl:g<=64:=by
    rcases bw 64 g with z|z;have:=QX (show 65<=g by lia);have:=G.2.1;have e:(2:Int) ^ 65=2*2 ^ 64:=by decide
    lia;exact z
   wp_walk using Zt (by lia) (by lia) ?_;rw[JC];have:=congrArg dA x;rw[bE]at this;lia;refine hN r.length _ _ (by simp) ⟨rfl,bs++[b],r,y+2 ^ (g:Int).toNat,some (.val (.tuple [.int y,.int (g:Int)])),by rw[Y,<- Va],by rw[x];simp,?_,?_,rfl⟩;rw[eg]at s5;simpa using s5;have:=Uc (g:Int).toNat;lia
 ·have e:y=hi:=by have:=S.le;lia
  cases rest with
  | cons b r=>have:=S.1;lia
  | nil =>refine hB _ _ ?_;wp_walk;rw[bS]at x;rw[<- x];exact h _ A
def ze2:GD:=fun ts n R=>∃rs:List (Int×Int),ts=[.list (pD rs)]/\(∀r∈rs,0<=r.1/\r.1<=r.2/\r.2<=2 ^ 64)/\rs.length<=100000/\∀ps,PatS rs ps->R (.tuple (pD ps)) n
theorem zjZ{rs:qB}{n:Nat}{R:qN}(w:∀r∈rs,0<=r.1/\r.1<=r.2/\r.2<=2 ^ 64)(l:rs.length<=100000)(h:∀ps,PatS rs ps->R (.tuple (pD ps)) n):ze2 [.list (pD rs)] n R:=⟨rs,rfl,w,l,h⟩
theorem zkT:∀{rs:qB},(∀r∈rs,r.1<=r.2)->∃ps,PatS rs ps
 | [],_=>⟨[],rfl⟩
 | r::rs,h=>by obtain⟨a,A⟩:=zkk _ r.1 r.2 (av _) (h r (by simp));obtain⟨b,B⟩:=zkT (rs:=rs) fun s l=>h s (by simp[l]);exact⟨a++b,a,b,rfl,A,B⟩
theorem zjb{g:DTG}{d:DTE}{u:En}{n:Nat}{v:List ab->Nat->Prop}:∀(xs l:qD),(∀x∈xs,∀K:ab->Nat->Prop,K x n->g x u fun o=>d o n K)->l.length+xs.length<=16777216->v (l++xs) n->JP g dYes d u xs l n v
 | [],l,_,_,h=>by simpa[JP] using h
 | x::xs,l,hg,hl,h=>by
  have e:(fun o=>dYes o n fun b C=>if b=true then d o C fun t G=>l.length<16777216/\JP g dYes d u xs (l++[t]) G v else JP g dYes d u xs l C v)=fun o=>d o n fun t G=>l.length<16777216/\JP g dYes d u xs (l++[t]) G v:=by funext o;exact propext ⟨fun z=>by simpa[dYes] using z,fun z=>by simpa[dYes] using z⟩
  show g x u fun o=>dYes o n fun b C=>if b=true then d o C fun t G=>l.length<16777216/\JP g dYes d u xs (l++[t]) G v else JP g dYes d u xs l C v
  rw[e];refine hg x (by simp) _ ⟨by simp at hl;lia,zjb xs (l++[x]) (fun y I=>hg y (by simp[I])) (by simp at hl ⊢;lia) (by simpa using h)⟩
def zeT(Z:ZZ):Prop:=FQ Z "patch_of" (top 16) ["runs"] 4 (spD Z.K 1 ze2)
theorem zhG(D:Dq Z.K Z.mg "patch_of" (top 16) ["runs"]) (HZ:zod Z) (T:Txt Z.mg):zeT Z:=by
 refine' okQ D (fnS (N:=["runs"]) (by decide +kernel)) rfl fun f cdv A outer s H E I=>⟨_,(Jc (Jh (Ul ZB Zg T.tup U4 (Ji (dl (JS (znR (own:=["low","high","block"]) (capt:=[]) rfl (JO.of rfl) (dil (zs4 (Jo 0))) (fun _ _ _ _=>(J7 rfl (Ju (dgv 0 (ndB rfl)) (Ju (dgv 1 (ndB rfl)) J5)))) (by decide) (fun _ _ _ _=>UW) (fun _ _ _ _=>(UO (Je HZ I (dbv 0 (dbv 1 Ja))))) (fun _ _ _ _=>(dgv 2 (ndB rfl))) (by decide) (fun _ _ _ _=>UW) (fun _ _ _ _=>(Jo 2))))) Jt Vg)))),?_⟩;intro ts n R hl h;obtain⟨rs,rfl,w,l,h⟩:=h;wp_walk;have key:∀(rs:qB) (o ps:qB),(∀r∈rs,0<=r.1/\r.1<=r.2/\r.2<=2 ^ 64)->o.length+130*rs.length<=16777216->PatS rs ps->∀K:List ab->Nat->Prop,K (pD (o++ps)) n ->
   Q6 (Ug (QM (Qb 0) (QM (Qb 1) Uf))) dYes (dItT (dFn YF (Qf (dVar 0) (Qf (dVar 1) dNil)))) (Qb 2) dYes (dVar 2) [none,none,none] (pD rs) (pD o) n K:=by
  intro rs;induction rs with
  | nil =>intro o ps _ _ P K G;cases(show ps=[] from P);rw[bS]at G;exact G
  | cons r rs S =>
   intro o ps w la P K G;obtain⟨a,b,rfl,L,Pb⟩:=P;have C:=w r (by simp);have ll:=L.len C.1 C.2.2;show Ug (QM (Qb 0) (QM (Qb 1) Uf)) (.tuple [.int r.1,.int r.2]) [none,none,none] fun v=>dYes v n fun b Y=>if b=true then dItT (dFn YF (Qf (dVar 0) (Qf (dVar 1) dNil))) v Y fun ts n3=>JP (Qb 2) dYes (dVar 2) v ts (pD o) n3 fun y n4=>Q6 (Ug (QM (Qb 0) (QM (Qb 1) Uf))) dYes (dItT (dFn YF (Qf (dVar 0) (Qf (dVar 1) dNil)))) (Qb 2) dYes (dVar 2) [none,none,none] (pD rs) y n4 K else _
   rw[aE]at la;wp_walk using ztb C.1 C.2.1 C.2.2 (fun bs B=>?_);rw[B.uniq L];refine zjb _ _ (fun x hx K2 J=>?_) (by rw[JC,JC];lia) ?_
   ·wp_walk;exact J
   rw[zrw];exact S (o++a) b (fun s U=>w s (by simp[U])) (by rw[bE];lia) Pb K (by rw[iJ];exact G)
 obtain⟨ps,P⟩:=zkT (rs:=rs) fun r I=>(w r I).2.1;refine key rs [] ps w (by simp;lia) P _ ?_;wp_walk;exact h ps P
theorem zpG{bits:Int}{bs:qB}{t:ab}{G:List ab->Prop}(R:t=.list (pD bs)\/t=.tuple (pD bs))(v:bits<=64)(B:Bks bits bs)(J:bs.length<64)
  (h:∀cs:List (Int×Int),cs.Perm bs->cs.Pairwise (fun a b=>a.1<=b.1)->G (pD cs)):Yc t G:=by
 have key:(pD bs).length<64/\(∀x∈pD bs,IsPr x)/\∀o:List ab,o.Perm (pD bs)->o.Pairwise (fun a b=>rkD a<=rkD b)->G o:=by
  refine⟨by rw[JC];exact J,fun x hx=>?_,fun o pm pw=>?_⟩;obtain⟨b,I,rfl⟩:=bh.mp hx;have:=B b I;exact⟨b.1,b.2,rfl,this.1,by have:=this.2.1;lia⟩;have C:o.Perm ((bs.map fun b=>(b,prD b)).map (·.2)):=by
   have:(bs.map fun b=>(b,prD b)).map (·.2)=pD bs:=by simp[pD]
   rw[this];exact pm
  obtain⟨zs,p1,p2⟩:=U1 C;have S:∀z∈zs,z.2=prD z.1:=fun z hz=>by obtain⟨b,_,rfl⟩:=bh.mp (p1.mem_iff.mp hz);rfl
  have e:o=pD (zs.map (·.1)):=by rw[<- p2];unfold pD;rw[bR];exact dX fun z hz=>S z hz
  have pc:(zs.map (·.1)).Perm bs:=by
   have:=p1.map (·.1);rw[bR]at this;have e2:bs.map ((fun x:(Int×Int)×ab=>x.1)∘fun b=>(b,prD b))=bs:=by show bs.map id=bs;exact uZ _
   rwa [e2]at this
  rw[e];have y:Bks bits (zs.map (·.1)):=fun b v=>B b (pc.mem_iff.mp v);rw[e]at pw;unfold pD at pw;rw[bt]at pw;refine h _ pc (fX ?_ pw);intro a b N v L;have L:a.1*1000+a.2<=b.1*1000+b.2:=L;have U:=(y a N).1;have a1:=(y a N).2.1;have b0:=(y b v).1;have Y:=(y b v).2.1;lia
 rcases R with rfl|rfl <;> exact key
def zgT:GD:=fun ts n R=>∃(bits:Int) (bs:qB) (t:ab),ts=[t]/\(t=.list (pD bs)\/t=.tuple (pD bs))/\0<=bits/\bits<=64/\Bks bits bs/\bs.length<64/\∀rs,NR rs->(∀x,mR x rs↔mB x bs)->rs.length<=bs.length->R (.list (pD rs)) n
theorem zmB{bits:Int}{bs:qB}{t:ab}{n:Nat}{R:qN}(o:t=.list (pD bs)\/t=.tuple (pD bs))(y:0<=bits)(v:bits<=64)(B:Bks bits bs)(l:bs.length<64)(h:∀rs,NR rs->(∀x,mR x rs↔mB x bs)->rs.length<=bs.length->R (.list (pD rs)) n):zgT [t] n R:=⟨bits,bs,t,rfl,o,y,v,B,l,h⟩
def zgk(Z:ZZ):Prop:=FQ Z "runs_of" (top 17) ["blocks"] 3 (spD Z.K 1 zgT)
theorem zjz(D:Dq Z.K Z.mg "runs_of" (top 17) ["blocks"]) (E2:Zp Z) (T:Txt Z.mg):zgk Z:=by
 refine' okQ D (fnS (N:=["blocks","runs","block","low","high"]) (by decide +kernel)) rfl fun f cdv A outer s H E C=>⟨_,(Jb (Qz (i:=1) (ndB rfl) rfl (d6 rfl) (J8 Ja)) (Jb (JZ bq rfl (Y2 (JS (zgY C T.srt (dlv 0) Jp))) (dgv 2 (ndB rfl)) (Jc (JJ (Qu (UU (J9 (Q3 1)) (UX (Jz QC QA (dl (Jm (dlv 2) dli)) (dl (Jm (dl (Jm (Q3 1) (dl (Vc Jf)))) dli)) (Jk _))))) (Jb (Um (Jm (Q3 1) (dl (Vc Jf))) (J7 rfl (Ju (dgv 3 (ndB rfl)) (Ju (dgv 4 (ndB rfl)) J5)))) (Jc (zov 1 (Vc Jf) (Jx (dbv 3 (dbc (JN (zes rfl) zlO T.max zez (Ji (dlv 4) (Ji (dl (Je E2 C (dbv 2 Ja))) Jt U3) Jp)) Ja)))))) (Jc (QD 1 (Jx (dbc (Jm (dlv 2) dli) (dbc (Je E2 C (dbv 2 Ja)) Ja)))))))) (QE 1 (Jc (Jh (Jo 1)))))),?_⟩;intro ts n R hl h;obtain⟨bits,bs,t,rfl,ht,b0,b1,B,l,h⟩:=h;wp_walk;refine zpG ht b1 B l fun cs pm pw=>?_;have Bc:Bks bits cs:=fun b G=>B b (pm.mem_iff.mp G);have lc:=pm.length_eq;refine zsS 1 2 3 4 (fun k a1 _ _ _ m=>m=n/\∃rs:List (Int×Int),a1=some (.own (pD rs))/\NR rs/\(∀x,mR x rs↔mB x (cs.take k))/\rs.length<=k/\∀r∈rs,∀b∈cs.drop k,r.1<=b.1) ⟨rfl,[],rfl,⟨(fun r C=>nomatch C),.nil⟩,(fun x=>⟨fun z=>absurd z UP,fun z=>absurd z Z7⟩),av _,fun r C=>nomatch C⟩ ?_ ?_
 ·rintro k t' a1 a2 a3 a4 m K RT BK et ⟨rfl,rs,rfl,J,S,lr,lo⟩ hK hRT hBK;obtain⟨i,g,eb,rfl⟩:=UR et;have kl:=(ao.mp eb).1;have Bb:=Bc _ (aB eb);have g0:0<=g:=Bb.1;have g1:g<=bits:=Bb.2.1;have pg:=Uc g.toNat;have tk:cs.take (k+1)=cs.take k++[(i,g)]:=by rw[eY,eb];rfl
  have dk:cs.drop k=(i,g)::cs.drop (k+1):=by rw[bf kl];congr 1;have:=ah kl;rw[eb]at this;exact(au this).symm
  have after:∀b∈cs.drop (k+1),i<=b.1:=fun b G=>by have:cs.Pairwise fun a b=>a.1<=b.1:=pw;have:=(this.sublist (List.drop_sublist k cs));rw[dk]at this;exact(ef.mp this).1 b G
  have m1:∀x,mB x (cs.take (k+1))↔mB x (cs.take k)\/(i<=x/\x<i+2 ^ g.toNat):=fun x=>by rw[tk,zoj,zlc];constructor;rintro(z|z|z);exact .inl z;exact .inr z;exact absurd z Z7;rintro(z|z);exact .inl z;exact .inr (.inl z)
  have new:(∀r∈rs,r.2<i)->∀c2 c3 c4,K [some (.val t),some (.own (pD rs++[.tuple [.int i,.int (i+2 ^ g.toNat)]])),c2,c3,c4] m:=fun hlt c2 c3 c4 =>
   hK _ _ _ _ _ ⟨rfl,rs++[(i,i+2 ^ g.toNat)],by rw[<- Va],⟨fun r C=>by
    rcases aT.mp C with z|z;exact J.1 r z;cases aJ.mp z;show i<i+2 ^ g.toNat;lia,by
    rw[eO];exact⟨J.2,gr _ _,fun a ha b G=>by cases aJ.mp G;exact hlt a ha⟩⟩,(fun x=>by
    rw[zlb,S,m1,J6];constructor;rintro(z|z|z);exact .inl z;exact .inr z;exact absurd z UP;rintro(z|z);exact .inl z;exact .inr (.inl z)),by simp;lia,fun r C b G=>by
    rcases aT.mp C with z|z;exact lo r z b (by rw[dk];simp[G]);cases aJ.mp z;exact after b G⟩
  rcases List.eq_nil_or_concat rs with rfl|⟨I,r,rfl⟩
  ·wp_walk using Zt g0 (by lia) ?_;show 0<16777216;decide;exact new (fun r C=>nomatch C) _ _ _;exact absurd hc (by simp[pD])
  ·rw[List.concat_eq_append]at *;have sn:pD (I++[r])=pD I++[.tuple [.int r.1,.int r.2]]:=by simp[pD]
   have lr':I.length+1<=k:=by simpa using lr
   have r12:=J.1 r (by simp);have rlo:r.1<=i:=lo r (by simp) (i,g) (by rw[dk];simp);have L:=eO.mp J.2;rw[sn]at new ⊢;wp_walk using znz ?_,Zt g0 (by lia) ?_;all_goals first
    | (exfalso;simp at hc;done)
    | (exfalso;rename_i y;simp at y;done)
    | (simp[JC];lia)
    | skip
   ·refine zoe ziR ?_;wp_walk;rw[List.set_append_right _ _ (av _),gP];have mx:(if i+2 ^ g.toNat > r.2 then i+2 ^ g.toNat else r.2)=max r.2 (i+2 ^ g.toNat):=by split <;> lia
    refine hK _ _ _ _ _ ⟨rfl,I++[(r.1,max r.2 (i+2 ^ g.toNat))],?_,⟨fun s Y=>?_,?_⟩,fun x=>?_,by simp;lia,fun s Y b G=>?_⟩;rw[mx];simp[pD];rcases aT.mp Y with z|z;exact J.1 s (by simp[z]);cases aJ.mp z;show r.1<max r.2 _;lia;rw[eO];exact⟨L.1,gr _ _,fun a ha b G=>by cases aJ.mp G;exact L.2.2 a ha r (by simp)⟩;have U:=S x;rw[zlb,J6]at U;rw[zlb,J6,m1,<- U];have nn:=UP (x:=x);show _\/(r.1<=x/\x<max r.2 (i+2 ^ g.toNat))\/_↔_;constructor;rintro(z|z|z);exact .inl (.inl z);by_cases w:x<r.2;exact .inl (.inr (.inl ⟨z.1,w⟩));exact .inr (by lia);exact absurd z nn;rintro((z|z|z)|z);exact .inl z;exact .inr (.inl (by lia));exact absurd z nn;exact .inr (.inl (by lia));rcases aT.mp Y with z|z;exact lo s (by simp[z]) b (by rw[dk];simp[G]);cases aJ.mp z;exact lo r (by simp) b (by rw[dk];simp[G])
   refine new (fun s Y=>?_) _ _ _;rcases aT.mp Y with z|z;have:=L.2.2 s z r (by simp);have:=J.1 r (by simp);lia;cases aJ.mp z;lia
 ·rintro a1 a2 a3 a4 m ⟨rfl,rs,rfl,J,S,lr,lo⟩;rw[JC]at S lr;rw[cX]at S;wp_walk;exact h rs J (fun x=>by rw[S x,zpx pm]) (by lia)
def ziZ:GD:=fun ts n R=>∃(bits:Int) (bs:qB) (t:ab),ts=[t]/\(t=.list (pD bs)\/t=.tuple (pD bs))/\0<=bits/\bits<=64/\Bks bits bs/\bs.length<64/\∀ps,CanP (fun x=>mB x bs) ps->ps.length<=bs.length->R (.tuple (pD ps)) n
theorem znY{bits:Int}{bs:qB}{t:ab}{n:Nat}{R:qN}(o:t=.list (pD bs)\/t=.tuple (pD bs))(y:0<=bits)(v:bits<=64)(B:Bks bits bs)(l:bs.length<64)(h:∀ps,CanP (fun x=>mB x bs) ps->ps.length<=bs.length->R (.tuple (pD ps)) n):ziZ [t] n R:=⟨bits,bs,t,rfl,o,y,v,B,l,h⟩
def ziy(Z:ZZ):Prop:=FQ Z "fewest" (top 7) ["blocks"] 5 (spD Z.K 1 ziZ)
theorem zk4(D:Dq Z.K Z.mg "fewest" (top 7) ["blocks"]) (I:zeT Z) (J:zgk Z) (T:Txt Z.mg):ziy Z:=by refine' okQ D (fnS (N:=["blocks"]) (by decide +kernel)) rfl fun f L A outer s H E u=>⟨_,(Jc (Jh (Je I u (dbc (Je J u (dbv 0 Ja)) Ja)))),?_⟩;intro ts n R Y h;obtain⟨bits,bs,t,rfl,S,o,G,B,l,h⟩:=h;wp_walk using zmB S o G B l (fun rs v y U=>?_);have w:=zuN o G v y fun x hx=>Yx o B hx;wp_walk using zjZ w ?_ (fun ps P=>?_);lia;have C:CanP (fun x=>mB x bs) ps:=⟨rs,v,y,P⟩;exact h ps C (C.le o B)
def ze6:GD:=fun ts n R=>∃(bits:Int) (bs:qB) (a:Int),ts=[.tuple (pD bs),.int a]/\bits<=64/\Ptc bits bs/\bs.length<1000000/\∀k:Nat,k<=bs.length->(∀(j:Nat) (b:Int×Int),j<k->bs[j]?=some b->eB b<=a)->(∀(j:Nat) (b:Int×Int),k<=j->bs[j]?=some b->a<eB b)->R (.int (k:Int)) n
theorem zfg{bits a:Int}{bs:qB}{n:Nat}{R:qN}(o:bits<=64)(P:Ptc bits bs)(v:bs.length<1000000)(h:∀k:Nat,k<=bs.length->(∀(j:Nat) (b:Int×Int),j<k->bs[j]?=some b->eB b<=a)->(∀(j:Nat) (b:Int×Int),k<=j->bs[j]?=some b->a<eB b)->R (.int (k:Int)) n):ze6 [.tuple (pD bs),.int a] n R:=⟨bits,bs,a,rfl,o,P,v,h⟩
def zc8(Z:ZZ):Prop:=FQ Z "ended_by" (top 13) ["patch","address"] 3 (spD Z.K 2 ze6)
theorem zhK(D:Dq Z.K Z.mg "ended_by" (top 13) ["patch","address"]) (E2:Zp Z) (T:Txt Z.mg):zc8 Z:=by
 refine' okQ D (fnS (N:=["patch","address","low","high","middle"]) (by decide +kernel)) rfl fun f cdv A outer s H E L=>⟨_,(Jb (dsv 2 (ndB rfl) Jf) (Jb (dsv 3 (ndB rfl) (JN QF QB T.len Qp (Ji (dlv 0) Jt Jp))) (Jb (zfQ bq (Jz (Uu L) Uq (dlv 2) (dlv 3) (Jk _)) (Jb (dsv 4 (ndB rfl) (zh0 (dl (JM (dlv 2) (dlv 3))) dli)) (Jc (JJ (Jz QC QA (dl (Je E2 L (dbc (Jm (dlv 0) (dlv 4)) Ja))) (dlv 1) (Jk _)) (Jc (dsv 2 (ndB rfl) (JM (dlv 4) dli))) (Jc (dsv 3 (ndB rfl) (Jo 4))))))) (Jc (Jh (Jo 2)))))),?_⟩;intro ts n R hl J;obtain⟨bits,bs,a,rfl,b1,P,hl6,J⟩:=J;have srt:=P.ends;wp_walk;rw[JC];refine zf5 (m:=bs.length) (fun m ρ n'=>n'=n/\∃lo hi:Nat,∃c,ρ=[some (.val (.tuple (pD bs))),some (.val (.int a)),some (.val (.int (lo:Int))),some (.val (.int (hi:Int))),c]/\lo<=hi/\hi<=bs.length/\m=hi - lo/\(∀(j:Nat) (b:Int×Int),j<lo->bs[j]?=some b->eB b<=a)/\(∀(j:Nat) (b:Int×Int),hi<=j->bs[j]?=some b->a<eB b)) ?_ ?_;refine⟨rfl,0,bs.length,none,rfl,bX _,av _,rfl,fun j b o=>absurd o (oM _),fun j b o e=>?_⟩;rw[bp o]at e;cases e
 ·rintro m ρ n' ⟨rfl,lo,hi,c,rfl,h1,h2,rfl,U,Y⟩;wp_walk;exact zta
  ·have hm:(lo+hi) / 2<bs.length:=by lia
   obtain⟨b,G⟩:∃b,bs[(lo+hi) / 2]?=some b:=⟨_,ah hm⟩;have S:=P.1 b (aB G);refine zpH (k:=(lo+hi) / 2) (by lia) (zpi G) ?_;have sx:∀(i j:Nat) (x y:Int×Int),bs[i]?=some x->bs[j]?=some y->i<=j->eB x<=eB y:=fun i j x y ei I hij=>by by_cases z:i=j;subst z;rw[ei]at I;cases I;exact aK _;obtain⟨l1,rfl⟩:=ao.mp ei;obtain⟨l2,rfl⟩:=ao.mp I;exact aV.mp srt i j l1 l2 (by lia)
   wp_walk using Zt ?_ ?_ ?_;exact S.1;have:=S.2.1;lia
   ·have hc:eB b<=a:=hc;refine⟨_,?_,rfl,(lo+hi) / 2+1,hi,some (.val (.int (((lo+hi) / 2:Nat):Int))),?_,by lia,h2,rfl,fun j x o e=>?_,Y⟩;lia
    ·have C:((lo:Int)+hi) / 2=(((lo+hi) / 2:Nat):Int):=by lia
     first|(rw[C];done)|(rw[C];rfl)
    exact kP (sx _ _ _ _ e G (by lia)) hc
   ·have hc:¬eB b<=a:=hc;refine⟨_,?_,rfl,lo,(lo+hi) / 2,some (.val (.int (((lo+hi) / 2:Nat):Int))),?_,by lia,by lia,rfl,U,fun j x o e=>?_⟩;lia
    ·have C:((lo:Int)+hi) / 2=(((lo+hi) / 2:Nat):Int):=by lia
     first|(rw[C];done)|(rw[C];rfl)
    have:=sx _ _ _ _ G e (by lia);lia
  have e:lo=hi:=by lia
  subst e;exact J lo h2 U Y
def zdr:GD:=fun ts n R=>∃(bits:Int) (bs:qB) (a:Int),ts=[.tuple (pD bs),.int a]/\bits<=64/\Ptc bits bs/\bs.length<1000000/\(∀b∈bs,b.1<=a->a<eB b->R (.tuple [.int b.1,.int b.2]) n)/\((∀b∈bs,¬(b.1<=a/\a<eB b))->R .none n)
theorem zhg{bits a:Int}{bs:qB}{n:Nat}{R:qN}(v:bits<=64)(P:Ptc bits bs)(x:bs.length<1000000)(h:∀b∈bs,b.1<=a->a<eB b->R (.tuple [.int b.1,.int b.2]) n)(h':(∀b∈bs,¬(b.1<=a/\a<eB b))->R .none n):zdr [.tuple (pD bs),.int a] n R:=⟨bits,bs,a,rfl,v,P,x,h,h'⟩
def zdj(Z:ZZ):Prop:=FQ Z "block_with" (top 9) ["patch","address"] 4 (spD Z.K 2 zdr)
theorem zfB(D:Dq Z.K Z.mg "block_with" (top 9) ["patch","address"]) (Y:zc8 Z) (T:Txt Z.mg):zdj Z:=by
 refine' okQ D (fnS (N:=["patch","address","at"]) (by decide +kernel)) rfl fun f cdv A outer s H E I=>⟨_,(Jb (dsv 2 (ndB rfl) (Je Y I (dbv 0 (dbv 1 Ja)))) (Jb (JJ (Qu (UU (Jz (Uu I) Uq (dlv 2) (dl (JN QF QB T.len Qp (Ji (dlv 0) Jt Jp))) (Jk _)) (UX (Jz QC QA (dl (Jm (dl (Jm (dlv 0) (dlv 2))) dli)) (dlv 1) (Jk _))))) (Jc (Jh (Jm (dlv 0) (dlv 2)))) JK) (Jc (Jh YV)))),?_⟩;intro ts n R hl G;obtain⟨bits,bs,a,rfl,b1,P,C,G,J⟩:=G;wp_walk using zfg b1 P C (fun k k0 L S=>?_)
 ·rw[JC]at hc;have U:k<bs.length:=by lia
  obtain⟨b,l⟩:∃b,bs[k]?=some b:=⟨_,ah U⟩;refine zpH (k:=k) rfl (zpi l) ?_;wp_walk;refine zpH (k:=k) rfl (zpi l) ?_;exact G b (aB l) (by assumption) (S k b (av _) l);have hx:¬b.1<=a:=hc;refine J fun x o ⟨x0,x1⟩=>?_;obtain⟨j,v,rfl⟩:=aW o;have u:=ah v;by_cases z:j<k;have:=L j _ z u;lia;by_cases y:j=k;subst y;rw[u]at l;cases l;exact hx x0;obtain⟨l1,rfl⟩:=ao.mp l;have:=aV.mp P.2 k j l1 v (by lia);have:=Qd bs[k];exact hx (by lia)
 rw[JC]at hc;refine J fun x o ⟨x0,x1⟩=>?_;obtain⟨j,v,rfl⟩:=aW o;have:=L j _ (by lia) (ah v);lia
theorem zrK{bits:Int}{bs:qB}(P:Ptc bits bs){p q:Int×Int}{x:Int}(o:p∈bs)(u:q∈bs)(p1:p.1<=x)(p2:x<eB p)(y:q.1<=x)(v:x<eB q):p=q:=by obtain⟨i,hi,rfl⟩:=aW o;obtain⟨j,l,rfl⟩:=aW u;rcases cM i j with z|z|z;have:=aV.mp P.2 i j hi l z;lia;subst z;rfl;have:=aV.mp P.2 j i l hi z;lia
def zcT:GD:=fun ts n R=>∃(bits:Int) (bs:qB) (b:Int×Int),ts=[.tuple (pD bs),.tuple [.int b.1,.int b.2]]/\0<=bits/\bits<=64/\Ptc bits bs/\bs.length<1000000/\IsBk bits b.1 b.2/\(∀p∈bs,p.1<=b.1->eB b<=eB p->R (.tuple [.int p.1,.int p.2]) n)/\((∀p∈bs,¬(p.1<=b.1/\eB b<=eB p))->R .none n)
theorem zfW{bits:Int}{bs:qB}{b:Int×Int}{n:Nat}{R:qN}(y:0<=bits)(v:bits<=64)(P:Ptc bits bs)(x:bs.length<1000000)(B:IsBk bits b.1 b.2)(h:∀p∈bs,p.1<=b.1->eB b<=eB p->R (.tuple [.int p.1,.int p.2]) n)(h':(∀p∈bs,¬(p.1<=b.1/\eB b<=eB p))->R .none n):zcT [.tuple (pD bs),.tuple [.int b.1,.int b.2]] n R:=⟨bits,bs,b,rfl,y,v,P,x,B,h,h'⟩
def zcD(Z:ZZ):Prop:=FQ Z "block_about" (top 10) ["patch","block"] 5 (spD Z.K 2 zcT)
theorem zeB(D:Dq Z.K Z.mg "block_about" (top 10) ["patch","block"]) (U:zdj Z) (y:zkG Z) (T:Txt Z.mg):zcD Z:=by
 refine' okQ D (fnS (N:=["patch","block","found"]) (by decide +kernel)) rfl fun f S A outer s H E x=>⟨_,(Jb (dsv 2 (ndB rfl) (Je U x (dbv 0 (dbc (Jm (dlv 1) dli) Ja)))) (Jb (JJ (Qu (UU (Jz zk0 zlP (dlv 2) (dl YV) (Jk _)) (UX (J9 (dl (Je y x (dbv 2 (dbv 1 Ja)))))))) (Jc (Jh (Jo 2))) JK) (Jc (Jh YV)))),?_⟩;intro ts n R hl Y;obtain⟨bits,bs,b,rfl,b0,b1,P,v,B,h,h'⟩:=Y;have bd:=B.bounds b0;have pe:=Qd b;have p64:(2:Int) ^ bits.toNat<=2 ^ 64:=Bd.zfw (by lia);have pb:=Bd.Uc b.2.toNat;have J:b.1<2 ^ 64:=by lia
 have u:∀p∈bs,p.2<=1000:=fun p l=>by have:=(P.1 p l).2.1;lia
 have o:∀p∈bs,0<=p.2:=fun p l=>(P.1 p l).1;wp_walk using zhg b1 P v (fun p l C G=>?_) (fun no=>?_),zqi (o _ l) (u _ l) bd.1 J ?_;exact absurd hc (by simp[isNone]);rw[zop (P.1 p l) B]at hc;have hd:=of_decide_eq_true hc;exact h p l hd.1 hd.2;rw[zop (P.1 p l) B]at hc;have hd:=of_decide_eq_false hc;refine h' fun q I z=>?_;have L:q=p:=zrK P I l z.1 (by lia) C G;subst L;exact hd z;exact h' fun p l z=>no p l ⟨z.1,by lia⟩;exact absurd hc (by simp[isNone])
def zgU:GD:=fun ts n R=>∃(bits:Int) (bs:qB) (b:Int×Int),ts=[.tuple (pD bs),.tuple [.int b.1,.int b.2]]/\0<=bits/\bits<=64/\Ptc bits bs/\bs.length<1000000/\IsBk bits b.1 b.2/\∀k:Bool,(k=true↔∃p∈bs,p.1<=b.1/\eB b<=eB p)->R (.bool k) n
theorem zhf{bits:Int}{bs:qB}{b:Int×Int}{n:Nat}{R:qN}(y:0<=bits)(v:bits<=64)(P:Ptc bits bs)(x:bs.length<1000000)(B:IsBk bits b.1 b.2)(h:∀k:Bool,(k=true↔∃p∈bs,p.1<=b.1/\eB b<=eB p)->R (.bool k) n):zgU [.tuple (pD bs),.tuple [.int b.1,.int b.2]] n R:=⟨bits,bs,b,rfl,y,v,P,x,B,h⟩
def zdZ(Z:ZZ):Prop:=FQ Z "has_all" (top 11) ["patch","block"] 6 (spD Z.K 2 zgU)
theorem zjA(D:Dq Z.K Z.mg "has_all" (top 11) ["patch","block"]) (G:zcD Z) (T:Txt Z.mg):zdZ Z:=by refine' okQ D (fnS (N:=["patch","block"]) (by decide +kernel)) rfl fun f y A outer s H E u=>⟨_,(Jc (Jh (Qi zk0 zlP (dl (Je G u (dbv 0 (dbv 1 Ja)))) (dl YV) (Jk _)))),?_⟩;intro ts n R L C;obtain⟨bits,bs,b,rfl,J,I,P,o,B,h⟩:=C;wp_walk using zfW J I P o B (fun p l v x=>?_) (fun no=>?_);exact h _ ⟨fun _=>⟨p,l,v,x⟩,fun _=>rfl⟩;exact h _ ⟨fun z=>(nomatch z),fun⟨p,l,z⟩=>absurd z (no p l)⟩
def ze5:GD:=fun ts n R=>∃(bits:Int) (bs:qB) (b:Int×Int),ts=[.tuple (pD bs),.tuple [.int b.1,.int b.2]]/\0<=bits/\bits<=64/\Ptc bits bs/\bs.length<1000000/\IsBk bits b.1 b.2/\∀k:Bool,(k=true↔∀p∈bs,eB p<=b.1\/eB b<=p.1)->R (.bool k) n
theorem zff{bits:Int}{bs:qB}{b:Int×Int}{n:Nat}{R:qN}(y:0<=bits)(v:bits<=64)(P:Ptc bits bs)(x:bs.length<1000000)(B:IsBk bits b.1 b.2)(h:∀k:Bool,(k=true↔∀p∈bs,eB p<=b.1\/eB b<=p.1)->R (.bool k) n):ze5 [.tuple (pD bs),.tuple [.int b.1,.int b.2]] n R:=⟨bits,bs,b,rfl,y,v,P,x,B,h⟩
def zc7(Z:ZZ):Prop:=FQ Z "has_none" (top 12) ["patch","block"] 4 (spD Z.K 2 ze5)
theorem zhJ(D:Dq Z.K Z.mg "has_none" (top 12) ["patch","block"]) (G:zc8 Z) (U:Zp Z) (T:Txt Z.mg):zc7 Z:=by
 refine' okQ D (fnS (N:=["patch","block","at"]) (by decide +kernel)) rfl fun f L A outer s H E x=>⟨_,(Jb (dsv 2 (ndB rfl) (Je G x (dbv 0 (dbc (Jm (dlv 1) dli) Ja)))) (Jc (Jh (zoA (Qi (Qj x) Qg (dlv 2) (dl (JN QF QB T.len Qp (Ji (dlv 0) Jt Jp))) (Jk _)) (YW (Qi QC QA (dl (Je U x (dbv 1 Ja))) (dl (Jm (dl (Jm (dlv 0) (dlv 2))) dli)) (Jk _))))))),?_⟩;intro ts n R hl S;obtain⟨bits,bs,b,rfl,b0,Y,P,C,B,h⟩:=S;have h0:=B.1;have I:b.2<=1000:=by have:=B.2.1;lia
 wp_walk using zfg Y P C (fun k hk lo up=>?_),Zt h0 I ?_;rw[JC]at hc;refine h true ⟨fun _ p y=>?_,fun _=>rfl⟩;obtain⟨j,v,e⟩:=aW y;exact .inl (lo j p (by lia) (by rw[ah v,e]))
 ·rw[JC]at hc;have o:k<bs.length:=by lia
  have J:(pD bs)[k]?=some (.tuple [.int bs[k].1,.int bs[k].2]):=by rw[pD,aD,ah o];rfl
  refine zr7 J ?_;wp_walk;refine h _ ?_;rw[decide_eq_true_eq];constructor;intro z p y;obtain⟨j,v,rfl⟩:=aW y;rcases cM j k with q|q|q;exact .inl (lo j _ q (ah v));subst q;exact .inr z;have:=aV.mp P.2 k j o v q;have:=Qd bs[k];exact .inr (by unfold eB at *;lia);intro z;have:=up k bs[k] (av _) (ah o);rcases z bs[k] (cW o) with q|q;lia;exact q
def ze3:GD:=fun ts n R=>∃(bits:Int) (ps:qB),ts=[.int bits,.tuple (pD ps)]/\0<=bits/\bits<=64/\Ptc bits ps/\ps.length<=10000/\∀bs:BL,PInv bits ps bs bs.length->bs.length<=1+130*ps.length->R (.list (pD bs)) n
theorem zj0{bits:Int}{ps:qB}{n:Nat}{R:qN}(v:0<=bits)(o:bits<=64)(P:Ptc bits ps)(l:ps.length<=10000)(h:∀bs:BL,PInv bits ps bs bs.length->bs.length<=1+130*ps.length->R (.list (pD bs)) n):ze3 [.int bits,.tuple (pD ps)] n R:=⟨bits,ps,rfl,v,o,P,l,h⟩
def zeU(Z:ZZ):Prop:=FQ Z "parts_of" (top 22) ["bits","patch"] 7 (spD Z.K 2 ze3)
theorem zhH(D:Dq Z.K Z.mg "parts_of" (top 22) ["bits","patch"]) (Hg:zdZ Z) (Hb:zc7 Z) (E9:Vr Z) (T:Txt Z.mg):zeU Z:=by
 refine' okQ D (fnS (N:=["bits","patch","parts","at","block"]) (by decide +kernel)) rfl fun f cdv A outer s H E G=>⟨_,(Jb (Qz (i:=2) (ndB rfl) rfl (d6 rfl) (J8 (dbc (Jx (dbc Jf (dbv 0 Ja))) Ja))) (Jb (dsv 3 (ndB rfl) Jf) (Jb (zfQ bq (Jz (Uu G) Uq (dlv 3) (dl (JN QF QB T.len Qp (Ji (Q3 2) Jt Jp))) (Jk _)) (Jb (dsv 4 (ndB rfl) (Jm (Q3 2) (dlv 3))) (Jb (JJ (Qu (UU (QR (J9 (dl (Je Hg G (dbv 1 (dbv 4 Ja)))))) (UX (QR (J9 (dl (Je Hb G (dbv 1 (dbv 4 Ja))))))))) (Jc (zjQ 2 (Je E9 G (dbv 4 Ja)))) JK) (Jc (zs1 (i:=3) (ndB rfl) rfl (d6 rfl) Jf zsh))))) (QE 2 (Jc (Jh (Jo 2))))))),?_⟩;intro ts n R hl hh;obtain⟨bits,ps,rfl,J,U,P,l,h⟩:=hh;wp_walk;refine zkb (m:=msz ([(0,bits)]:BL)) (fun m ρ n'=>n'=n/\∃(bs:BL) (k:Nat) (c:Option Cell),ρ=[some (.val (.int bits)),some (.val (.tuple (pD ps))),some (.own (pD bs)),some (.val (.int (k:Int))),c]/\PInv bits ps bs k/\k<=bs.length/\msz (bs.drop k)<=m) ⟨rfl,[(0,bits)],0,_,rfl,PInv.start J,by simp,av _⟩ ?_;rintro m ρ n' K RT BK ⟨rfl,bs,k,c,rfl,I,kl,hm⟩ hK hRT hBK;have ln:=I.len U P.1;wp_walk
 ·rw[JC]at hc;have L:k<bs.length:=by lia
  have x:bs[k]?=some bs[k]:=ah L;generalize bs[k]=b at x;have gb:(pD bs)[k]?=some (.tuple [.int b.1,.int b.2]):=by rw[pD,aD,x];rfl
  have B:=I.bk b (aB x);have S:b.2<=1000:=by have:=B.2.1;lia
  have lp:ps.length<1000000:=by lia
  refine zr8 gb ?_;wp_walk using zhf J U P lp B (fun al C=>?_);subst hc;refine hK _ _ _ ?_ ⟨rfl,bs,k+1,_,by rw[kh],I.no x (fun z=>z.2 (C.mp rfl)),L,av _⟩;have:=zoi x;lia
  ·subst hc;wp_walk using zff J U P lp B (fun no y=>?_);subst hc;refine hK _ _ _ ?_ ⟨rfl,bs,k+1,_,by rw[kh],I.no x (fun z=>z.1 (y.mp rfl)),L,av _⟩;have:=zoi x;lia
   ·subst hc;have pr:Prt ps b:=⟨fun z=>absurd (y.mpr z) (by decide),fun z=>absurd (C.mpr z) (by decide)⟩;have Y:=pr.pos B;wp_walk using UY Y S ?_;rw[JC];show bs.length+2<=_;lia;have ep:pD bs++[kZ [.int b.1,.int (b.2 - 1)],.tuple [.int (bV b.1 (2 ^ (b.2 - 1).toNat)),.int (b.2 - 1)]]=pD (bs++[loH b,upH b]):=by simp[pD,prD]
    refine hK _ _ _ ?_ ⟨rfl,bs++[loH b,upH b],k+1,_,by rw[kh,ep],I.yes J x pr,by rw[bE];lia,av _⟩;have:=zpt x Y;lia
 ·rw[JC]at hc;have e:k=bs.length:=by lia
  subst e;refine hBK _ _ ?_;wp_walk;exact h bs I ln
def zek:GD:=fun ts n R=>∃(bits:Int) (ps:qB) (o:PR) (b:Int×Int),ts=[.tuple (pD ps),.dict (Jq (prK o)),.tuple [.int b.1,.int b.2]]/\0<=bits/\bits<=64/\Ptc bits ps/\ps.length<1000000/\IsBk bits b.1 b.2/\∀no al:Bool,(no=true↔HasN ps b)->(al=true↔HasA ps b)->R (optD (bpD no al o b)) n
theorem zh_{bits:Int}{ps:qB}{o:PR}{b:Int×Int}{n:Nat}{R:qN}(v:0<=bits)(x:bits<=64)(P:Ptc bits ps)(y:ps.length<1000000)(B:IsBk bits b.1 b.2)(h:∀no al:Bool,(no=true↔HasN ps b)->(al=true↔HasA ps b)->R (optD (bpD no al o b)) n):zek [.tuple (pD ps),.dict (Jq (prK o)),.tuple [.int b.1,.int b.2]] n R:=⟨bits,ps,o,b,rfl,v,x,P,y,B,h⟩
def zd1(Z:ZZ):Prop:=FQ Z "best_pair" (top 23) ["patch","pairs","block"] 7 (spD Z.K 3 zek)
theorem zgs(D:Dq Z.K Z.mg "best_pair" (top 23) ["patch","pairs","block"]) (Hb:zc7 Z) (Hg:zdZ Z) (E9:Vr Z) (T:Txt Z.mg):zd1 Z:=by
 refine' okQ D (fnS (N:=["patch","pairs","block","lower","upper","zeros","ones"]) (by decide +kernel)) rfl fun f cdv A outer s H E o=>⟨_,(Jb (JJ (J9 (dl (Je Hb o (dbv 0 (dbv 2 Ja))))) (Jc (Jh (Jx (dbc Jf (dbc Jf Ja))))) JK) (Jb (JJ (J9 (dl (Je Hg o (dbv 0 (dbv 2 Ja))))) (Jc (Jh (Jx (dbc Jf (dbc Jf Ja))))) JK) (Jb (Um (Je E9 o (dbv 2 Ja)) (J7 rfl (Ju (dgv 3 (ndB rfl)) (Ju (dgv 4 (ndB rfl)) J5)))) (Jb (JJ (Qu (Q1 (Jz (zkX (Qa o)) zlQ (dlv 3) (dlv 1) rfl) (YE (Jz (zkX (Qa o)) zlQ (dlv 4) (dlv 1) rfl)))) (Jc (Jh YV)) JK) (Jb (dsv 5 (ndB rfl) (JM (dl (Jm (dl (QQ (Qa o) (dlv 1) (dlv 3))) dli)) (dl (Jm (dl (QQ (Qa o) (dlv 1) (dlv 4))) dli)))) (Jb (dsv 6 (ndB rfl) (JM (dl (Jm (dl (QQ (Qa o) (dlv 1) (dlv 3))) dli)) (dl (Jm (dl (QQ (Qa o) (dlv 1) (dlv 4))) dli)))) (Jc (Jh (Jx (dbc (JN (Uy rfl) Ur T.min UE (Ji (dlv 5) (Ji (dl (JM (dlv 6) dli)) Jt UT) Jp)) (dbc (JN (Uy rfl) Ur T.min UE (Ji (dlv 6) (Ji (dl (JM (dlv 5) dli)) Jt UT) Jp)) Ja))))))))))),?_⟩;intro ts n R hl hh;obtain⟨bits,ps,C,b,rfl,b0,b1,P,J,B,h⟩:=hh;have Y:b.2<=1000:=by have:=B.2.1;lia
 wp_walk using zff b0 b1 P J B (fun no v=>?_);subst hc
 classical
 exact h true (decide (HasA ps b)) v (by rw[decide_eq_true_eq])
 ·subst hc;wp_walk using zhf b0 b1 P J B (fun al G=>?_);subst hc;exact h false true v G
  ·subst hc;have U:1<=b.2:=by
    have h0:=B.1;rcases eM 0 b.2 with z|z;lia;rcases zfJ (ps:=ps) (b:=b) (by lia) with q|q;exact absurd (v.mpr q) (by decide);exact absurd (G.mpr q) (by decide)
   have key:=h false false v G;cases e1:valP C (loH b) with
   | none =>
    have S:valT (prK C) (loH b)=none:=by rw[QN,e1];rfl
    have I:bpD false false C b=none:=by simp[bpD,e1]
    rw[I]at key;wp_walk using UY U Y ?_,Uh (k:=loH b) ?_;exact key;rw[S]at hc;cases hc
   | some x =>
    have S:valT (prK C) (loH b)=some (.tuple [.int x.1,.int x.2]):=by rw[QN,e1];rfl
    cases e2:valP C (upH b) with
    | none =>
     have L:valT (prK C) (upH b)=none:=by rw[QN,e2];rfl
     have I:bpD false false C b=none:=by simp[bpD,e1,e2]
     rw[I]at key;wp_walk using UY U Y ?_,Uh (k:=loH b) ?_,Uh (k:=upH b) ?_;exact key;exact key;rw[L]at hc;cases hc
    | some y =>
     have L:valT (prK C) (upH b)=some (.tuple [.int y.1,.int y.2]):=by rw[QN,e2];rfl
     have I:bpD false false C b=some (if x.2+y.2+1<x.1+y.1 then x.2+y.2+1 else x.1+y.1,if x.1+y.1+1<x.2+y.2 then x.1+y.1+1 else x.2+y.2):=by simp only[bpD,e1,e2];rfl
     rw[I]at key;wp_walk using UY U Y ?_,Uh (k:=loH b) ?_,Uh (k:=upH b) ?_,QP S ?_,QP L ?_;rw[S]at hc;cases hc;rw[L]at hc;cases hc;exact key
def ze4:GD:=fun ts n R=>∃(bits:Int) (bs:BL),ts=[.int bits,.tuple (pD bs)]/\0<=bits/\bits<=64/\Bks bits bs/\bs.length<64/\bs.length<=10000/\∀(ps:BL) (o:PR),CanP (fun x=>mB x bs) ps->PrOk bits ps o->R (.dict (Jq (prK o))) n
theorem zfe{bits:Int}{bs:BL}{n:Nat}{R:qN}(y:0<=bits)(v:bits<=64)(B:Bks bits bs)(l:bs.length<64)(l2:bs.length<=10000)(h:∀(ps:BL) (o:PR),CanP (fun x=>mB x bs) ps->PrOk bits ps o->R (.dict (Jq (prK o))) n):ze4 [.int bits,.tuple (pD bs)] n R:=⟨bits,bs,rfl,y,v,B,l,l2,h⟩
def zc6(Z:ZZ):Prop:=FQ Z "pairs_of" (top 21) ["bits","patch"] 8 (spD Z.K 2 ze4)
theorem zhI(D:Dq Z.K Z.mg "pairs_of" (top 21) ["bits","patch"]) (HQ:ziy Z) (HF:zeU Z) (Hz:zd1 Z) (T:Txt Z.mg):zc6 Z:=by
 refine' okQ D (fnS (N:=["bits","patch","wanted","pairs","block"]) (by decide +kernel)) rfl fun f cdv A outer s H E L=>⟨_,(Jb (dsv 2 (ndB rfl) (Je HQ L (dbv 1 Ja))) (Jb (zp8 (i:=3) (ndB rfl) rfl (d6 rfl)) (Jb (JZ bq rfl (zow T.rev (Je HF L (dbv 0 (dbv 2 Ja)))) (dgv 4 (ndB rfl)) (Jc (zlZ 3 (Qa L) (Jo 4) (zoB Hz L (Ji (dlv 2) (Ji (zhZ 3) (Ji (dlv 4) Jt Jp) Jp) Jp))))) (Jc (zp9 3))))),?_⟩;intro ts n R hl hh;obtain⟨bits,bs,rfl,G,b1,B,l,l2,h⟩:=hh;wp_walk using znY (.inr rfl) G b1 B l (fun ps C lp=>?_);have P:Ptc bits ps:=C.ptc G fun x hx=>Yx G B hx;have l3:ps.length<=10000:=by lia
 wp_walk using zj0 G b1 P l3 (fun y I lw=>?_);have er:(pD y).reverse=pD y.reverse:=by simp[pD]
 rw[er];refine Qn (fun k ρ m'=>m'=n/\∃o:PR,∃U,ρ=[some (.val (.int bits)),some (.val (.tuple (pD bs))),some (.val (.tuple (pD ps))),some (.dtt (prK o)),U]/\PrsI bits ps y k o) ⟨rfl,[],_,rfl,PrsI.start⟩ ?_ ?_
 ·rintro k t ρ m' K et ⟨rfl,o,U,rfl,J⟩ hK;obtain⟨i,h,S,rfl⟩:=UR et;have Bb:=I.bk _ (fL.mp (aB S));have Y:ps.length<1000000:=by lia
  have lq:o.length<=y.length:=by have:=congrArg dA J.keys;simp at this;lia
  wp_walk using zh_ (b:=(i,h)) G b1 P Y Bb (fun no al hn ha=>?_);obtain⟨v,e,fr,J2⟩:=J.step I S hn ha;rw[e];rfl;rw[prK,aP];lia;obtain⟨v,e,fr,J2⟩:=J.step I S hn ha;rw[e,show optD (some v)=twoD v from rfl,zo1 fr];exact hK _ _ ⟨rfl,_,_,rfl,J2⟩
 ·rintro ρ m' ⟨rfl,o,U,rfl,J⟩;rw[JC,d0]at J;wp_walk;exact h ps o C ⟨y,I,J⟩
def zbs:GD:=fun ts n R=>∃(o:PR) (b:Int×Int),ts=[.dict (Jq (prK o)),.tuple [.int b.1,.int b.2]]/\0<=b.2/\b.2<=1000/\(b.2=0\/valP o (loH b)=none->R (.tuple []) n)/\(1<=b.2->∀v,valP o (loH b)=some v->R (.tuple [.tuple [.int (loH b).1,.int (loH b).2],.tuple [.int (upH b).1,.int (upH b).2]]) n)
theorem zbA{o:PR}{b:Int×Int}{n:Nat}{R:qN}(h0:0<=b.2)(x:b.2<=1000)(C:b.2=0\/valP o (loH b)=none->R (.tuple []) n)(y:1<=b.2->∀v,valP o (loH b)=some v->R (.tuple [.tuple [.int (loH b).1,.int (loH b).2],.tuple [.int (upH b).1,.int (upH b).2]]) n):zbs [.dict (Jq (prK o)),.tuple [.int b.1,.int b.2]] n R:=⟨o,b,rfl,h0,x,C,y⟩
def zbp(Z:ZZ):Prop:=FQ Z "parted_halves" (top 25) ["pairs","block"] 3 (spD Z.K 2 zbs)
theorem zdC(D:Dq Z.K Z.mg "parted_halves" (top 25) ["pairs","block"]) (J:Vr Z) (T:Txt Z.mg):zbp Z:=by
 refine' okQ D (fnS (N:=["pairs","block","lower","upper"]) (by decide +kernel)) rfl fun f S A outer s H E o=>⟨_,(Jb (JJ (Jz (Qj o) Qg (dl (Jm (dlv 1) dli)) dli (Jk _)) (Jc (Jh (Jx Ja))) JK) (Jb (Um (Je J o (dbv 1 Ja)) (J7 rfl (Ju (dgv 2 (ndB rfl)) (Ju (dgv 3 (ndB rfl)) J5)))) (Jc (Jh (zfS (Jz (zrG (Qa o)) zlQ (dlv 2) (dlv 0) rfl) (Jx (dbv 2 (dbv 3 Ja))) (Jx Ja)))))),?_⟩;intro ts n R Y U;obtain⟨y,b,rfl,h0,I,G,L⟩:=U;by_cases z:b.2=0
 ·have k:=G (.inl z);wp_walk;exact k;exact absurd hc (by simp[z])
 ·have v:1<=b.2:=by lia
  cases e1:valP y (loH b) with
  | none =>
   have C:valT (prK y) (loH b)=none:=by rw[QN,e1];rfl
   have k:=G (.inr e1);wp_walk using UY v I ?_,Uh (k:=loH b) ?_;exact absurd (by simpa using hc) z;rw[C]at hc;cases hc;exact k
  | some x =>
   have C:valT (prK y) (loH b)=some (.tuple [.int x.1,.int x.2]):=by rw[QN,e1];rfl
   have k:=L v x e1;wp_walk using UY v I ?_,Uh (k:=loH b) ?_;exact absurd (by simpa using hc) z;exact k;rw[C]at hc;cases hc
def zcv:GD:=fun ts n R=>∃(bits:Int) (ps:BL) (o:PR) (b v:Int×Int) (a:Int),ts=[.dict (Jq (prK o)),.tuple [.int b.1,.int b.2],.int a]/\bits<=64/\PrOk bits ps o/\(b,v)∈o/\(a=0\/a=1)/\(¬Prt ps b->R (.int (if v.1=0 then 0 else 1)) n)/\(Prt ps b->∀x y,valP o (loH b)=some x->valP o (upH b)=some y->R (.int (sgn a x y)) n)
theorem zh9{bits:Int}{ps:BL}{o:PR}{b v:Int×Int}{a:Int}{n:Nat}{R:qN}(C:bits<=64)(Q:PrOk bits ps o)(m:(b,v)∈o)(I:a=0\/a=1)(J:¬Prt ps b->R (.int (if v.1=0 then 0 else 1)) n)(G:Prt ps b->∀x y,valP o (loH b)=some x->valP o (upH b)=some y->R (.int (sgn a x y)) n):zcv [.dict (Jq (prK o)),.tuple [.int b.1,.int b.2],.int a] n R:=⟨bits,ps,o,b,v,a,rfl,C,Q,m,I,J,G⟩
def zd0(Z:ZZ):Prop:=FQ Z "best_sign" (top 24) ["pairs","block","ahead"] 4 (spD Z.K 3 zcv)
theorem zgr(D:Dq Z.K Z.mg "best_sign" (top 24) ["pairs","block","ahead"]) (E1:zbp Z) (T:Txt Z.mg):zd0 Z:=by
 refine' okQ D (fnS (N:=["pairs","block","ahead","within","costs"]) (by decide +kernel)) rfl fun f cdv A outer s H E L=>⟨_,(Jb (dsv 3 (ndB rfl) (Je E1 L (dbv 0 (dbv 1 Ja)))) (Jb (JJ (QR (J9 (dlv 3))) (Jc (Jh (zmd (QQ (Qa L) (dlv 0) (dlv 1)) Jf))) JK) (Jb (zhY (zl2 (i:=4) (ndB rfl) rfl (d6 rfl) (own:=["sign"]) (capt:=[3,0]) (cv:=aN "sign") rfl (Qc.of rfl) (dil (UO (Jx (dbc Jf (dbc Jf Ja))))) (fun _ _ _ _=>(dgv 0 (ndB rfl))) (by decide) (fun _ _ _ _=>UW) (fun _ _ _ _=>(JN (zmw rfl) zsH T.sum zmD (Ji (dl (JS (dnc ["half"] [0,2] (dil (UO (Jo 1))) (fun _ _ _ _=>(dgv 0 (ndB rfl))) (fun _ _ _ _=>(Jm (dl (QQ (Qa L) (dlv 2) (dlv 0))) (dlv 1)))))) Jt Vg))))) (Jc (Jh (zfS (Jz QC QA (dl (Jm (dlv 4) (dlv 2))) (dl (JM (dl (Jm (dlv 4) (dl (Qt dli (dlv 2))))) dli)) (Jk _)) (Jo 2) (Qt dli (dlv 2)))))))),?_⟩;intro ts n R hl hh;obtain⟨bits,ps,Y,b,v,a,rfl,b1,Q,m,ha,hn,hp⟩:=hh;have B:=Q.bk _ m;have h0:0<=b.2:=B.1;have h1:b.2<=1000:=by have:=B.2.1;dsimp only at this;lia
 have vt:valT (prK Y) b=some (.tuple [.int v.1,.int v.2]):=by rw[QN,zoH Q.nd m];rfl
 by_cases p:Prt ps b
 ·obtain⟨x,y,J,e2,_⟩:=Q.kids m p;have k:=hp p x y J e2;have v1:valT (prK Y) (loH b)=some (.tuple [.int x.1,.int x.2]):=by rw[QN,J];rfl
  have v2:valT (prK Y) (upH b)=some (.tuple [.int y.1,.int y.2]):=by rw[QN,e2];rfl
  have gp:=p.pos B;wp_walk using zbA h0 h1 (fun z=>?_) (fun U w I=>?_);exfalso;rcases z with z|z;lia;rw[J]at z;cases z;exfalso;rcases z with z|z;lia;rw[J]at z;cases z;cases hc
  ·refine Uz (cs:=([0,1]:List Int)) (D:=bo) (fun s=>.int (if s=0 then x.1+y.1 else x.2+y.2)) (by decide) ?_ ?_
   ·intro s hs K2 X2 S;have ne:upH b≠loH b:=fun z=>by
     rw[up_eq B gp]at z;have e:=congrArg mw z;have:=Uc (b.2 - 1).toNat;dsimp only at e;lia
    wp_walk;refine Uz (cs:=[loH b,upH b]) (D:=prD) (fun c=>.int (if c=loH b then(if s=0 then x.1 else x.2) else(if s=0 then y.1 else y.2))) (show 2<=16777216 by decide) ?_ ?_
    ·intro c hc K3 X3 C;have G:s=0\/s=1:=by simpa using hs
     rcases aC.mp hc with rfl|hc
     ·rw[if_pos rfl]at C;rcases G with rfl|rfl
      ·wp_walk using QP v1 ?_;exact C
      ·wp_walk using QP v1 ?_;exact C
     ·rw[aJ]at hc;subst hc;rw[if_neg ne]at C;rcases G with rfl|rfl
      ·wp_walk using QP v2 ?_;exact C
      ·wp_walk using QP v2 ?_;exact C
    ·have G:s=0\/s=1:=by simpa using hs
     have em:[loH b,upH b].map (fun c=>bo (if c=loH b then(if s=0 then x.1 else x.2) else(if s=0 then y.1 else y.2)))=[if s=0 then x.1 else x.2,if s=0 then y.1 else y.2].map bo:=by rw[aG,aG,dM,if_pos rfl,if_neg ne];rfl
     rw[em];wp_walk;refine⟨_,rfl,?_⟩;have es:[if s=0 then x.1 else x.2,if s=0 then y.1 else y.2].sum=if s=0 then x.1+y.1 else x.2+y.2:=by rcases G with rfl|rfl;simp;simp
     rw[es];exact S
   ·rw[show([0,1]:List Int).map (fun s=>bo (if s=0 then x.1+y.1 else x.2+y.2))=[.int (x.1+y.1),.int (x.2+y.2)] from rfl];unfold sgn at k;rcases ha with rfl|rfl
    ·wp_walk;rw[show(1:Int) - 0=1 from rfl];wp_walk;rw[if_pos rfl,if_pos hc]at k;exact k;rw[if_pos rfl,if_neg hc]at k;exact k
    ·wp_walk;rw[show(1:Int) - 1=0 from rfl];wp_walk;rw[if_neg (by decide),if_pos hc]at k;exact k;rw[if_neg (by decide),if_neg hc]at k;exact k
 ·have k:=hn p;have vz:v.1=0\/v.2=0:=by rcases Q.leaf m p with⟨_,e⟩|⟨_,_,e⟩ <;> simp[e]
  wp_walk using zbA h0 h1 (fun z=>?_) (fun U w I=>?_)
  ·refine QP vt ?_;refine⟨v.1,v.2,rfl,?_⟩;wp_walk;rfl;exact vz;exact k
  cases hc;exfalso;rw[Q.nokid m p U]at I;cases I;exfalso;rw[Q.nokid m p U]at I;cases I
theorem zsU{g:DTG}{l:DTS}{D:JH}{t:ab}{ts:qD}{u:En}{n:Nat}(h:g t u fun o=>l { D with nx:=forP g l D ts,ct:=forP g l D ts,bk:=D.nx } o n):forP g l D (t::ts) u n:=h
theorem zsT{g:DTG}{o:DTS}{D:JH}{l:En}{n:Nat}(h:D.nx l n):forP g o D [] l n:=h
theorem zie{ks:KT2}{k b:Int×Int}{t:ab}:valT (putT ks k t) b=if b=k then some t else valT ks b:=by
 have mp:∀ks:KT2,valT (ks.map fun z=>if z.1=k then(z.1,t) else z) b=if b=k then(valT ks b).map (fun _=>t) else valT ks b:=by
  intro ks;induction ks with
  | nil=>unfold valT;split <;> rfl
  | cons q ks o =>
   unfold valT at o ⊢;rw[aG,cg,cg];by_cases e:q.1=b;by_cases z:b=k;simp[e,z];have:¬q.1=k:=fun y=>z (e.symm.trans y);simp[e,z];have u:¬(if q.1=k then(q.1,t) else q).1=b:=by split <;> exact e
   simp only[e,u,decide_false];exact o
 unfold putT;split;rename_i h;rw[mp];by_cases z:b=k;subst z;rw[if_pos rfl,if_pos rfl];obtain⟨q,l,e⟩:=gY.mp h;unfold valT;cases f:ks.find? fun z=>decide (z.1=b) with
 | none=>exact absurd e (by simpa using gj.mp f q l)
 | some y=>rfl
 rw[if_neg z,if_neg z];rename_i h;have v:∀q∈ks,¬q.1=k:=fun q l e=>h (gY.mpr ⟨q,l,decide_eq_true e⟩);unfold valT;rw[nS];by_cases z:b=k;subst z;rw[if_pos rfl,gj.mpr fun q l=>by simpa using v q l];simp;rw[if_neg z];simp[fc z]
theorem zkH{ks:KT2}{k:Int×Int}{t:ab}:(putT ks k t).length<=ks.length+1:=by unfold putT;split;rw[aP];lia;rw[bE];simp
def zcn:GD:=fun ts n R=>∃(bits:Int) (bs:BL),ts=[.int bits,.tuple (pD bs)]/\0<=bits/\bits<=64/\Bks bits bs/\bs.length<64/\bs.length<=10000/\∀(ps:BL) (rs:RL),CanP (fun x=>mB x bs) ps->Rls bits rs->(rs.length:Int)=zcs bits ps->(∀x,0<=x->x<2 ^ bits.toNat->(SgX rs x 1↔mB x bs))->R (.tuple (L2.rD rs)) n
theorem zeL{bits:Int}{bs:BL}{n:Nat}{R:qN}(v:0<=bits)(o:bits<=64)(B:Bks bits bs)(l:bs.length<64)(l2:bs.length<=10000)(h:∀(ps:BL) (rs:RL),CanP (fun x=>mB x bs) ps->Rls bits rs->(rs.length:Int)=zcs bits ps->(∀x,0<=x->x<2 ^ bits.toNat->(SgX rs x 1↔mB x bs))->R (.tuple (L2.rD rs)) n):zcn [.int bits,.tuple (pD bs)] n R:=⟨bits,bs,rfl,v,o,B,l,l2,h⟩
def Rch(bits:Int)(ps l:BL)(k:Nat)(b:Int×Int):Prop:=b=(0,bits)\/∃(j:Nat) (p:Int×Int),j<k/\l[j]?=some p/\Prt ps p/\(b=loH p\/b=upH p)
theorem znb{bits:Int}{ps u:BL}(I:PInv bits ps u u.length){k:Nat}{b:Int×Int}(o:u[k]?=some b):Rch bits ps u k b:=by rcases I.par b (aB o) with z|⟨j,p,C,v,pp,z⟩;exact .inl z;refine .inr ⟨j,p,?_,v,pp,z⟩;obtain⟨⟨G,N,y⟩,⟨J,L,e2⟩⟩:=I.kid j p C v pp;have x:=(ao.mp o).1;rcases z with z|z;rw[<- z]at y;have:=(fy x I.nd).mp (o.trans y.symm);lia;rw[<- z]at e2;have:=(fy x I.nd).mp (o.trans e2.symm);lia
theorem zoX{rs:RL}{r:(Int×Int)×Int}:L2.rD rs++[.tuple [.tuple [.int r.1.1,.int r.1.2],.int r.2]]=L2.rD (rs++[r]):=by simp[L2.rD]
theorem zio{bits:Int}{ps o:BL}{k:Nat}{b:Int×Int}(u:o[k]?=some b):(o.take (k+1)).filterMap (frB bits ps)=(o.take k).filterMap (frB bits ps)++(if sF bits ps b=aF bits ps b then[] else[(b,sF bits ps b)]):=by rw[eY,u,List.filterMap_append];congr 1;show[b].filterMap (frB bits ps)=_;unfold frB;rw[cI];split;rename_i e;split at e;rename_i z;rw[if_pos z];rfl;cases e;rename_i r e;split at e;cases e;rename_i z;cases e;rw[if_neg z];rfl
def zcl(Z:ZZ):Prop:=FQ Z "fewest_rules" (top 19) ["bits","patch"] 9 (spD Z.K 2 zcn)
theorem zd8(D:Dq Z.K Z.mg "fewest_rules" (top 19) ["bits","patch"]) (Hc:zc6 Z) (HA:zd0 Z) (E1:zbp Z) (T:Txt Z.mg):zcl Z:=by
 refine' okQ D (fnS (N:=["bits","patch","pairs","ahead","rules","block","sign","half"]) (by decide +kernel)) rfl fun f cdv A outer s H E G=>⟨_,(Jb (dsv 2 (ndB rfl) (Je Hc G (dbv 0 (dbv 1 Ja)))) (Jb (znN (i:=3) (Qa G) (ndB rfl) rfl (d6 rfl) (Jx (dbc Jf (dbv 0 Ja))) Jf) (Jb (Qz (i:=4) (ndB rfl) rfl (d6 rfl) (J8 Ja)) (Jb (JZ bq rfl (zow T.rev (JS (znQ rfl T.lst (Jo 2)))) (dgv 5 (ndB rfl)) (Jb (dsv 6 (ndB rfl) (Je HA G (dbv 2 (dbv 5 (dbc (QQ (Qa G) (zhZ 3) (dlv 5)) Ja))))) (Jb (JJ (Jz (UQ G) UJ (dlv 6) (dl (QQ (Qa G) (zhZ 3) (dlv 5))) (Jk _)) (Jc (QD 4 (Jx (dbv 5 (dbv 6 Ja))))) JK) (Jc (JZ bq rfl (UO (Je E1 G (dbv 2 (dbv 5 Ja)))) (dgv 7 (ndB rfl)) (Jc (zlZ 3 (Qa G) (Jo 7) (Jo 6)))))))) (QE 4 (Jc (Jh (Ul ZB Zg T.tup U4 (Ji (dl (JS (ze9 G T.srt (dlv 4) Jp))) Jt U3))))))))),?_⟩;intro ts n R hl hh;obtain⟨bits,bs,rfl,b0,b1,B,l,l2,h⟩:=hh;have w:∀x,mB x bs->0<=x/\x<2 ^ bits.toNat:=fun x hx=>Yx b0 B hx;wp_walk using zfe b0 b1 B l l2 (fun ps J C Q=>?_);have P:Ptc bits ps:=C.ptc b0 w;have lp:=C.le b0 B;obtain⟨L,I,ek⟩:=Q.mem;have lw:=I.len b1 P.1;refine⟨prK J,rfl,?_⟩;have et:((prK J).map fun q=>L2.blkT q.1).reverse=pD L:=by
  have e1:(prK J).map (fun q=>L2.blkT q.1)=(J.map (·.1)).map L2.blkT:=by simp[prK,fw]
  rw[e1,ek,<- List.map_reverse,List.reverse_reverse];rfl
 show forP _ _ _ ((prK J).map fun q=>L2.blkT q.1).reverse _ _;rw[et];refine Qn (fun k ρ m'=>m'=n/\∃ks:KT2,∃c5 c6 c7,ρ=[some (.val (.int bits)),some (.val (.tuple (pD bs))),some (.val (.dict (Jq (prK J)))),some (.dtt ks),some (.own (L2.rD ((L.take k).filterMap (frB bits ps)))),c5,c6,c7]/\ks.length<=2*k+1/\∀b∈L,Rch bits ps L k b->valT ks b=some (.int (aF bits ps b))) ⟨rfl,_,_,_,_,rfl,av _,fun b hb z=>?_⟩ ?_ ?_;rcases z with rfl|⟨j,p,hj,_⟩;rw[zmJ];simp[valT];lia
 ·rintro k t ρ m' K et ⟨rfl,ks,c5,c6,c7,rfl,lk,va⟩ hK;obtain⟨i,g,S,rfl⟩:=UR et;obtain⟨b,U⟩:∃b:Int×Int,b=(i,g):=⟨_,rfl⟩;have ei:i=b.1:=by rw[U]
  have eg:g=b.2:=by rw[U]
  rw[<- U]at S;subst ei eg;have mb:=aB S;have Bb:=I.bk b mb;have vb:=va b mb (znb I S);have kl:=(ao.mp S).1;have h0:0<=b.2:=Bb.1;have h1:b.2<=1000:=by have:=Bb.2.1;lia
  obtain⟨v,mv⟩:∃v,(b,v)∈J:=by
   have:b∈J.map (·.1):=by rw[ek];exact fL.mpr mb
   obtain⟨q,hq,e⟩:=bh.mp this;exact⟨q.2,by rw[<- e];exact hq⟩
  have a01:=ztf (bits:=bits) (ps:=ps) (b:=b);have cb:∀{R':qN} {n':Nat},R' (.int (sF bits ps b)) n'->zcv [.dict (Jq (prK J)),.tuple [.int b.1,.int b.2],.int (aF bits ps b)] n' R':=fun G=>by
   refine zh9 b1 Q mv a01 (fun np=>?_) (fun p x y e1 e2=>?_);have:(if v.1=0 then(0:Int) else 1)=sF bits ps b:=by unfold sF sB;rw[if_neg np];rcases Q.leaf mv np with⟨hN,e⟩|⟨hN,_,e⟩;rw[e,if_pos hN];rfl;rw[e,if_neg hN];rfl
   rw[this];exact G;have:sgn (aF bits ps b) x y=sF bits ps b:=by unfold sF sB;rw[if_pos p];have ex:=Q.val (b.2 - 1).toNat _ (Q7 e1) rfl;have ey:=Q.val (b.2 - 1).toNat _ (Q7 e2) rfl;dsimp only at ex ey;rw[<- ex,<- ey]
   rw[this];exact G
  have lr:((L.take k).filterMap (frB bits ps)).length<=L.length:=bA (List.length_filterMap_le ..) (by rw[eW];lia);have tail:∀(D':JH) (cl:qD),D'.nx=K->cl=L2.rD ((L.take (k+1)).filterMap (frB bits ps))->zbs [.dict (Jq (prK J)),.tuple [.int b.1,.int b.2]] m' fun t n'=>lTup t fun ts=>forP (Qb 7) (ZQ 3 (dVar 7) (dVar 6)) D' ts [some (.val (.int bits)),some (.val (.tuple (pD bs))),some (.val (.dict (Jq (prK J)))),some (.dtt ks),some (.own cl),some (.val (.tuple [.int b.1,.int b.2])),some (.val (.int (sF bits ps b))),c7] n':=fun D' cl hD hcl=>by
   subst hcl;refine zbA h0 h1 (fun z=>?_) (fun g0 w' ew=>?_);show D'.nx _ _;rw[hD];refine hK _ _ ⟨rfl,ks,_,_,_,rfl,by lia,fun c hc G=>va c hc ?_⟩;rcases G with G|⟨j,p,hj,Y,pp,y⟩;exact .inl G;rcases ng (nU hj) with q|q;exact .inr ⟨j,p,q,Y,pp,y⟩;exfalso;rw[q,S]at Y;cases Y;obtain⟨x',y',e1,_⟩:=Q.kids mv pp;have:=pp.pos Bb;rcases z with z|z;lia;rw[e1]at z;cases z
   ·have l1:=zkH (ks:=ks) (k:=((loH b).1,(loH b).2)) (t:=.int (sF bits ps b));have l2':=zkH (ks:=putT ks ((loH b).1,(loH b).2) (.int (sF bits ps b))) (k:=((upH b).1,(upH b).2)) (t:=.int (sF bits ps b));wp_walk using zsU ?_,zsT ?_;lia;lia;rw[hD];refine hK _ _ ⟨rfl,_,_,_,_,rfl,by lia,fun c hc G=>?_⟩;rw[zie,zie];by_cases z1:c=((upH b).1,(upH b).2);rw[if_pos z1,ZS Bb g0 (.inr z1)];by_cases z2:c=((loH b).1,(loH b).2);rw[if_neg z1,if_pos z2,ZS Bb g0 (.inl z2)];rw[if_neg z1,if_neg z2];refine va c hc ?_;rcases G with G|⟨j,p,hj,Y,pp,y⟩;exact .inl G;rcases ng (nU hj) with q|q;exact .inr ⟨j,p,q,Y,pp,y⟩;exfalso;rw[q,S]at Y;cases Y;rcases y with y|y;exact z2 y;exact z1 y
  wp_walk using QP (k:=b) vb ?_,cb ?_;refine tail _ _ rfl ?_;rw[zio S,if_pos hc,bS];have lz:(L2.rD ((L.take k).filterMap (frB bits ps))).length=((L.take k).filterMap (frB bits ps)).length:=by simp[L2.rD]
  rw[lz];refine iB lr ?_;have h3:130*dA ps<=130*10000:=Nat.mul_le_mul_left _ (bA lp l2);exact iB lw (iB (Nat.add_le_add_left h3 1) (by decide));refine tail _ _ rfl ?_;rw[zio S,if_neg hc,<- zoX]
 ·rintro ρ m' ⟨rfl,ks,c5,c6,c7,rfl,lk,va⟩;rw[JC,cX];obtain⟨f1,f2,f3⟩:=zgV b0 C w I (rs:=L.filterMap (frB bits ps)) .rfl;have ml:=zhQ b0 C w P (C.mem);wp_walk;refine⟨_,rfl,by lia,f1.ok b1,fun rs' pm pw=>?_⟩;wp_walk;obtain⟨g1,g2,g3⟩:=zgV b0 C w I pm;exact h ps rs' C (f1.sort b1 pm pw) g2 g3
def zdq:GD:=fun ts n R=>∃(bits:Int) (bs:BL),ts=[.int bits,.tuple (pD bs)]/\0<=bits/\bits<=64/\Bks bits bs/\bs.length<64/\bs.length<=10000/\∀ps:BL,CanP (fun x=>mB x bs) ps->R (.int (zcs bits ps)) n
theorem zdy{bits:Int}{bs:BL}{n:Nat}{R:qN}(v:0<=bits)(o:bits<=64)(B:Bks bits bs)(l:bs.length<64)(l2:bs.length<=10000)(h:∀ps:BL,CanP (fun x=>mB x bs) ps->R (.int (zcs bits ps)) n):zdq [.int bits,.tuple (pD bs)] n R:=⟨bits,bs,rfl,v,o,B,l,l2,h⟩
def zbY(Z:ZZ):Prop:=FQ Z "many_rules" (top 20) ["bits","patch"] 9 (spD Z.K 2 zdq)
theorem zfA(D:Dq Z.K Z.mg "many_rules" (top 20) ["bits","patch"]) (x:zc6 Z) (T:Txt Z.mg):zbY Z:=by
 refine' okQ D (fnS (N:=["bits","patch"]) (by decide +kernel)) rfl fun f G A outer s H E o=>⟨_,(Jc (Jh (Jm (dl (QQ (Qa o) (dl (Je x o (dbv 0 (dbv 1 Ja)))) (dl (Jx (dbc Jf (dbv 0 Ja)))))) dli))),?_⟩;intro ts n R U I;obtain⟨bits,bs,rfl,S,L,B,l,l2,h⟩:=I;wp_walk using zfe S L B l l2 (fun ps y C Q=>?_);obtain⟨v,ev⟩:=Q.root;have J:valT (prK y) (0,bits)=some (.tuple [.int v.1,.int v.2]):=by rw[QN,ev];rfl
 refine QP (k:=(0,bits)) J ?_;wp_walk;rw[Q.many ev];exact h ps C
theorem scH:Qs ["_law_script","_law_k","_law_cell"] ["_law_script","_law_k"] (JE (top 27)):=⟨rfl,rfl,rfl,by decide +kernel,rfl,by decide +kernel,by decide +kernel⟩
theorem zgx{f:af}{fd:cH}(D:Def K mg "_law_hand" (top 27) ["_law_script","_law_k"] f fd) (T:Txt mg):FnOk P w K mg base CX0 1 f fd ["_law_script","_law_k"] (YC K):=by
 refine D.F.ok scH (fun C H Q E h=>?_) (fun G A outer s H C Q E I h=>?_);obtain⟨a,ns,k,rfl,_⟩:=h;rfl;obtain⟨a,ns,k,rfl,v,L,x,J,q⟩:=h;refine⟨_,Qo (Qm (i:=2) scH.nd rfl (d6 rfl) JD)
  (Qo (zo7 (zhD zrE (pv 1) (UG zhd T.len Qp (pb_v 0 Qk)) (Jk _)) (Zc (Qm (i:=2) scH.nd rfl (d6 rfl) (QZ Ua (pv 0) (pv 1) (fun _ _=>rfl)))) zhE)
  (Zc (YB (zkQ (zof (JF QT (pv 2) (ZH zet T.int boot_int (zrt (zkS zrH (pv 2) (JF zog JD JD) (Jk _)) Qk)))
   (zof (JF QS (JF QS (JF Uv (pv 2) JD) (JF QT JD (pv 1))) JD) (pb_i Qk))))))),?_⟩
 refine⟨_,rfl,_,rfl,a,_,rfl,.inl v,_,_,rfl,rfl,_,rfl,?_⟩;have fin:∀c:Int,tRet (tLst (Qw (tOp (rI CMul fun i j=>V.int (i*j)) (tVar 2) (tCB (fun xs H Q=>(∃i,xs=[.int i]/\Q (.int i) H)\/∃k,xs=[.bl k]/\Q (.int (if k then 1 else 0)) H) (Qw (tOp (rI0 fun i j=>.bl (decide (j<=i))) (tVar 2) (tOp (rI CPow fun i j=>.int (i ^ j.toNat)) (tC (.int 10)) (tC (.int 18)))) tNil)))
   (Qw (tOp (rI0 fun i j=>.int (i+j)) (tOp (rI0 fun i j=>.int (i+j)) (tOp (rI (fun _ j=>0<j) fun i j=>.int (i % j)) (tVar 2) (tC (.int 2305843009213693951))) (tOp (rI CMul fun i j=>V.int (i*j)) (tC (.int 7919)) (tVar 1))) (tC (.int 3))) (Qw (tC (.int 0)) tNil))))
   { nx:=fun _ H'=>Q .non H',rt:=Q } [some (.ref a),some (.int k),some (.int c)] H:=by
  intro c;refine⟨_,rfl,_,rfl,_,_,rfl,rfl,⟨by decide,by decide,by decide⟩,_,_,rfl,rfl,.inr ⟨_,rfl,_,_,rfl,rfl,.inr ?_,?_⟩⟩;split <;> decide;refine⟨_,rfl,_,_,rfl,rfl,(by show(0:Int)<2305843009213693951;decide),_,rfl,_,_,rfl,rfl,.inl ⟨by decide,by decide⟩,_,_,rfl,rfl,_,_,rfl,rfl,(by show 3<=sizeLine;decide),fun l u=>?_⟩;refine q l _ u ⟨_,_,_,JB,?_,?_,aK _,aK _⟩ (zm0 u);lia;lia
 refine zsg (fun c=>?_) (fun c=>?_);have y:k.toNat<ns.length:=by rw[aP]at c;lia
 refine⟨_,rfl,_,rfl,a,_,_,V.int (ns[k.toNat]),rfl,rfl,v,?_,?_⟩;exact zfZ x (by rw[aD,ah y];rfl);exact fin _;exact fin 0
def zd3(Z:ZZ):Prop:=FQ Z "_law_hand" (top 27) ["_law_script","_law_k"] 1 (YC Z.K)
theorem zfy(D:Dq Z.K Z.mg "_law_hand" (top 27) ["_law_script","_law_k"]) (T:Txt Z.mg):zd3 Z:=by obtain⟨f,fd,D⟩:=D;exact⟨f,fd,D,zgx D T⟩
theorem zgg{H:Hp}{hd:af}{o:HO}:ztg hd H (upd H hd o):=fun b u e n=>by rw[Jg n];exact e
theorem scT:Qs ["_law_hand_here","_law_many","_law_digit","_law_turn","_law_mixed","_law_odd"] ["_law_hand_here","_law_many"] (JE (top 28)):=⟨rfl,rfl,rfl,by decide +kernel,rfl,by decide +kernel,by decide +kernel⟩
theorem znm{f:af}{fd:cH}(D:Def K mg "_law_take" (top 28) ["_law_hand_here","_law_many"] f fd) (T:Txt mg):FnOk P w K mg base CX0 1 f fd ["_law_hand_here","_law_many"] zn8:=by
 refine D.F.ok scT (fun G H Q E h=>?_) (fun y A outer s H G Q E I h=>?_);obtain⟨hd,many,n,rfl,_⟩:=h;rfl;obtain⟨hd,many,n,rfl,⟨d,m,t,u,m0,x,t0,t1⟩,J,v,C,q⟩:=h;refine⟨_,Qo (zo7 (zhD ZG (QZ Ua (pv 0) JD (fun _ _=>rfl)) JD (Jk _))
   (Qo (Qm (i:=2) scT.nd rfl (d6 rfl) (JF Uv (QZ Ua (pv 0) JD (fun _ _=>rfl)) (pv 1)))
   (Qo (YA (JF Vq (QZ Ua (pv 0) JD (fun _ _=>rfl)) (pv 1)) (pg_sub (pv 0) JD set_list))
   (Zc (YB (pv 2))))) zhE)
  (Qo (YA (JF QS (QZ Ua (pv 0) JD (fun _ _=>rfl)) JD) (pg_sub (pv 0) JD set_list))
  (Qo (Qm (i:=3) scT.nd rfl (d6 rfl) (QZ Ua (pv 0) JD (fun _ _=>rfl)))
  (Qo (Qm (i:=4) scT.nd rfl (d6 rfl) (JF Uv (JF QT (QZ Ua (pv 0) JD (fun _ _=>rfl)) (JF QS (JF QS JD (JF QT (JF QT JD (pv 3)) (pv 3))) (JF QT JD (pv 3)))) JD))
  (Qo (Qm (i:=5) scT.nd rfl (d6 rfl) (JF QS (JF QS (JF Uv (pv 4) JD) (JF QT (pv 3) JD)) JD))
  (Qo (Qm (i:=4) scT.nd rfl (d6 rfl) (JF Uv (JF QT (pv 4) (pv 5)) JD))
  (Zc (YB (JF Uv (JF QS (JF Vq (pv 4) JD) (JF Vq (pv 4) JD)) (pv 1))))))))),?_⟩
 refine⟨_,rfl,hd,_,_,_,rfl,rfl,.of u,rfl,_,_,rfl,rfl,_,rfl,?_⟩;refine zsg (fun c=>?_) (fun c=>?_);refine⟨_,rfl,hd,_,_,_,rfl,rfl,.of u,rfl,_,rfl,_,_,rfl,rfl,v,?_⟩;refine⟨_,rfl,hd,_,_,_,rfl,rfl,.of u,rfl,_,rfl,_,_,rfl,rfl,⟨v,C⟩,?_⟩;refine⟨_,rfl,hd,_,_,0,rfl,rfl,u,rfl,?_⟩;refine⟨_,rfl,?_⟩;exact q _ _ (lG _ (by lia)) (iC _ v) ⟨_,_,_,JB,m0,x,t0,by lia⟩ zgg;refine⟨_,rfl,hd,_,_,_,rfl,rfl,.of u,rfl,_,_,rfl,rfl,?_⟩;refine⟨_,rfl,hd,_,_,2,rfl,rfl,u,rfl,?_⟩;refine⟨_,rfl,hd,_,_,_,rfl,rfl,.of JB,rfl,?_⟩;refine⟨_,rfl,hd,_,_,_,rfl,rfl,.of JB,rfl,_,rfl,_,_,rfl,rfl,.inl ⟨by decide,by decide⟩,_,rfl,_,_,rfl,rfl,.inr ⟨by lia,by lia⟩,_,_,rfl,rfl,_,rfl,_,_,rfl,rfl,.inl ⟨by decide,by decide⟩,_,_,rfl,rfl,_,_,rfl,rfl,.inl ⟨by lia,by lia⟩,_,_,rfl,rfl,(by show(0:Int)<2305843009213693921;decide),?_⟩;refine⟨_,rfl,_,_,rfl,rfl,(by show(0:Int)<1000003;decide),_,rfl,_,_,rfl,rfl,.inr ⟨by decide,by decide⟩,_,_,rfl,rfl,_,_,rfl,rfl,?_⟩;refine⟨_,rfl,_,rfl,_,_,rfl,rfl,.inl ⟨by lia,by lia⟩,_,_,rfl,rfl,(by show(0:Int)<2305843009213693907;decide),?_⟩;refine⟨_,rfl,_,_,rfl,rfl,⟨by decide,by decide⟩,_,rfl,_,_,rfl,rfl,⟨by decide,by decide⟩,_,_,rfl,rfl,_,rfl,_,_,rfl,rfl,v,?_⟩;exact q _ _ (lG _ (by lia)) (iC _ v) ⟨_,_,_,JB,m0,x,by lia,by lia⟩ zgg
theorem zgt{f:af}{fd:cH}(D:Def K mg "_law_take" (top 28) ["_law_hand_here","_law_many"] f fd) (T:Txt mg):FnOk P w K mg base CX0 1 f fd ["_law_hand_here","_law_many"] (spD K 2 Uo) :=
 (znm D T).imp zmW
def Zv(Z:ZZ):Prop:=FQ Z "_law_take" (top 28) ["_law_hand_here","_law_many"] 1 (spD Z.K 2 Uo)
theorem zfx(D:Dq Z.K Z.mg "_law_take" (top 28) ["_law_hand_here","_law_many"]) (T:Txt Z.mg):Zv Z:=by obtain⟨f,fd,D⟩:=D;exact⟨f,fd,D,zgt D T⟩
def VD:GD:=fun ts n R=>match ts with
 | [h,.list xs]=>h=HAND/\xs≠[]/\xs.length<=1000000/\n<=1000000000000/\∀x∈xs,R x (n+1)
 | [h,.tuple xs]=>h=HAND/\xs≠[]/\xs.length<=1000000/\n<=1000000000000/\∀x∈xs,R x (n+1)
 | _=>False
theorem VC{xs:qD}{n:Nat}{R:qN}(h0:xs≠[])(o:xs.length<=1000000)(u:n<=1000000000000)(h:∀x∈xs,R x (n+1)):VD [HAND,.list xs] n R:=⟨rfl,h0,o,u,h⟩
def Zu(Z:ZZ):Prop:=FQ Z "_law_pick" (top 29) ["_law_hand_here","_law_some"] 2 (spD Z.K 2 VD)
theorem zgv(D:Dq Z.K Z.mg "_law_pick" (top 29) ["_law_hand_here","_law_some"]) (y:Zv Z) (T:Txt Z.mg):Zu Z:=by
 refine' okQ D (fnS (N:=["_law_hand_here","_law_some"]) (by decide +kernel)) rfl fun f I A outer s H E v=>⟨_,(Jc (Jh (Jm (dlv 1) (dl (Je y v (dbv 0 (dbc (JN QF QB T.len Qp (Ji (dlv 1) Jt Jp)) Ja))))))),?_⟩;intro ts n R J h;unfold VD at h;split at h
 ·rename_i hd xs;obtain⟨rfl,h0,C,o,h⟩:=h;have x:0<xs.length:=mP.mpr h0;wp_walk using UN (by lia) (by lia) o (fun r u G=>?_);have l:r.toNat<xs.length:=by lia
  rw[UL (zfZ u (ah l))];exact h _ (cW l)
 ·rename_i hd xs;obtain⟨rfl,h0,C,o,h⟩:=h;have x:0<xs.length:=mP.mpr h0;wp_walk using UN (by lia) (by lia) o (fun r u G=>?_);have l:r.toNat<xs.length:=by lia
  rw[ZE (zfZ u (ah l))];exact h _ (cW l)
 exact h.elim
def zb8:GD:=fun ts n R=>match ts with
 | [h,.int bits]=>h=HAND/\1<=bits/\bits<=64/\n<=1000000000000 - 10/\∀i h:Int,IsBk bits i h->R (.tuple [.int i,.int h]) (n+3)
 | _=>False
theorem zdA{bits:Int}{n:Nat}{R:qN}(x:1<=bits)(o:bits<=64)(v:n<=1000000000000 - 10)(h:∀i h:Int,IsBk bits i h->R (.tuple [.int i,.int h]) (n+3)):zb8 [HAND,.int bits] n R:=⟨rfl,x,o,v,h⟩
def zb0(Z:ZZ):Prop:=FQ Z "_law_block" (top 30) ["_law_hand_here","_law_bits"] 3 (spD Z.K 2 zb8)
theorem zfG(D:Dq Z.K Z.mg "_law_block" (top 30) ["_law_hand_here","_law_bits"]) (G:Zu Z) (y:Zv Z) (T:Txt Z.mg):zb0 Z:=by
 refine' okQ D (fnS (N:=["_law_hand_here","_law_bits","_law_height"]) (by decide +kernel)) rfl fun f L A outer s H E v=>⟨_,(Jb (dsv 2 (ndB rfl) (JN (Uy rfl) Ur T.min UE (Ji (dlv 1) (Ji (dl (Je G v (dbv 0 (dbc (JS (J8 (dbc Jf (dbc Jf (dbc Jf (dbc Jf (dbc Jf (dbc Jf (dbc (Je y v (dbv 0 (dbc (JM (dlv 1) dli) Ja))) (dbv 1 Ja)))))))))) Ja)))) Jt U3) Jp))) (Jc (Jh (Jx (dbc (zmc (dl (Je y v (dbv 0 (dbc (JT dli (dl (Qt (dlv 1) (dlv 2)))) Ja)))) (dl (JT dli (dlv 2)))) (dbv 2 Ja)))))),?_⟩;intro ts n R hl h;unfold zb8 at h;split at h;rename_i hd bits;obtain⟨rfl,b0,b1,Y,h⟩:=h;simp only[Z2,Z1,Z3,Z0,u_dC,ZP,ZU,ZW,ZV,Vi,ZO,Vu,Vw,Vk,Vj,Vv,ZY,Z6,Zb,YD,YX,Y9,Za,YY,YZ,Ze,Yr,Ys,oSub,oMul,oMod,Uj,oPow,oShl,oShr,oXor,oAnd,isNone,isInt,isBool,isTup,l_gI,ZD,YH,Ye,Yh,Yg,Ym,Yn,Y3,Zj,Yj,Yi,YL,YM,YJ,YK,YN,YO,YQ,Yd,Yl,Yk,YI,Zk,Y4,Zi,U2,Zz,Ux,UZ,JV,Jw,capV,aG,dM,aE,bK,bG,fQ,cY,dB,bS,dS,e8,gk,gm,fR,fS,eJ,Nat.reduceAdd,Nat.reduceSub,gP,true_and,and_true,aI,if_true,if_false,ite_true,ite_false,fq,eX,gZ,VD,Uo];refine⟨by lia,by lia,by lia,fun r r0 r1=>⟨by simp,by decide,by lia,fun x hx=>?_⟩⟩;have S:∃b:Int,x=.int b/\0<=b:=by simp only[aC,cV,or_false]at hx;rcases hx with h|h|h|h|h|h|h|h <;> first|exact⟨_,h,by decide⟩|exact⟨_,h,by lia⟩
 obtain⟨b,rfl,bb⟩:=S;simp only[Z2,Z1,Z3,Z0,u_dC,ZP,ZU,ZW,ZV,Vi,ZO,Vu,Vw,Vk,Vj,Vv,ZY,Z6,Zb,YD,YX,Y9,Za,YY,YZ,Ze,Yr,Ys,oSub,oMul,oMod,Uj,oPow,oShl,oShr,oXor,oAnd,isNone,isInt,isBool,isTup,l_gI,ZD,YH,Ye,Yh,Yg,Ym,Yn,Y3,Zj,Yj,Yi,YL,YM,YJ,YK,YN,YO,YQ,Yd,Yl,Yk,YI,Zk,Y4,Zi,U2,Zz,Ux,UZ,JV,Jw,capV,aG,dM,aE,bK,bG,fQ,cY,dB,bS,dS,e8,gk,gm,fR,fS,eJ,Nat.reduceAdd,Nat.reduceSub,gP,true_and,and_true,aI,if_true,if_false,ite_true,ite_false,fq,eX,gZ,Uo];have key:∀m:Int,0<=m->m<=bits->(CPow 1 (bits - m)/\(0:Int)<1*2 ^ (bits - m).toNat/\1*2 ^ (bits - m).toNat<(2:Int) ^ 128/\n+1+1<=1000000000000/\∀r:Int,0<=r->r<1*2 ^ (bits - m).toNat->CPow 1 m/\CMul r (1*2 ^ m.toNat)/\R (.tuple [.int (r*(1*2 ^ m.toNat)),.int m]) (n+1+1+1)):=by intro m m0 J;have U:(1:Int)*2 ^ (bits - m).toNat=2 ^ (bits - m).toNat:=bI _;have e2:(1:Int)*2 ^ m.toNat=2 ^ m.toNat:=bI _;rw[U,e2];refine⟨cpow (by lia) (by lia),Uc _,zkK (by lia),by lia,fun k C I=>⟨cpow m0 (by lia),.inl ⟨by lia,?_⟩,?_⟩⟩;have:=zfw (k:=(bits - m).toNat) (by lia);lia;exact h _ m ⟨m0,J,k,C,rfl,I⟩
 exact key (if b<bits then b else bits) (by split <;> lia) (by split <;> lia);exact h.elim
def zem:GD:=fun ts n R=>∃bits i h:Int,ts=[HAND,.int bits,.tuple [.int i,.int h]]/\1<=bits/\bits<=64/\n<=1000000000000 - 100/\IsBk bits i h/\∀j g:Int,IsBk bits j g->R (.tuple [.int j,.int g]) (n+7)
theorem zex{bits i h:Int}{n:Nat}{R:qN}(x:1<=bits)(o:bits<=64)(v:n<=1000000000000 - 100)(B:IsBk bits i h)(h':∀j g:Int,IsBk bits j g->R (.tuple [.int j,.int g]) (n+7)):zem [HAND,.int bits,.tuple [.int i,.int h]] n R:=⟨_,_,_,rfl,x,o,v,B,h'⟩
def zd2(Z:ZZ):Prop:=FQ Z "_law_near" (top 31) ["_law_hand_here","_law_bits","_law_block_here"] 4 (spD Z.K 3 zem)
theorem zgw(D:Dq Z.K Z.mg "_law_near" (top 31) ["_law_hand_here","_law_bits","_law_block_here"]) (G:Zu Z) (C:zb0 Z) (T:Txt Z.mg):zd2 Z:=by
 refine' okQ D (fnS (N:=["_law_hand_here","_law_bits","_law_block_here","_law_begin","_law_height","_law_size","_law_some"]) (by decide +kernel)) rfl fun f I A outer s H E v=>⟨_,(Jb (Um (Jo 2) (J7 rfl (Ju (dgv 3 (ndB rfl)) (Ju (dgv 4 (ndB rfl)) J5)))) (Jb (dsv 5 (ndB rfl) (JT dli (dlv 4))) (Jb (Qz (i:=6) (ndB rfl) rfl (d6 rfl) (J8 (dbv 2 (dbc (Jx (dbv 3 (dbc (JN (zes rfl) zlO T.max zez (Ji dli (Ji (dl (Qt (dlv 4) dli)) Jt UT) zkj)) Ja))) (dbc (Je C v (dbv 0 (dbv 1 Ja))) (dbc (Je C v (dbv 0 (dbv 1 Ja))) Ja)))))) (Jb (JJ (Jz ZG gp_B (dlv 4) dli (Jk _)) (Jc (QD 6 (Jx (dbc (JM (dlv 3) (dl (zh0 (dlv 5) dli))) (dbc (Qt (dlv 4) dli) Ja))))) JK) (Jb (JJ (Jz (Uu v) Uq (dlv 4) (dlv 1) (Jk _)) (Jb (QD 6 (Jx (dbc (Qt (dlv 3) (dl (Vb (dlv 3) (dl (zmc dli (dlv 5)))))) (dbc (JM (dlv 4) dli) Ja)))) (Jc (QD 6 (Jx (dbc (zoy (dlv 3) (dlv 5)) (dbv 4 Ja)))))) JK) (Jb (JJ (Jz QC QA (dl (JM (dlv 3) (dl (zmc dli (dlv 5))))) (dl (JT dli (dlv 1))) (Jk _)) (Jc (QD 6 (Jx (dbc (JM (dlv 3) (dlv 5)) (dbv 4 Ja))))) JK) (QE 6 (Jc (Jh (Je G v (dbv 0 (dbv 6 Ja)))))))))))),?_⟩;intro ts n R U y;obtain⟨bits,i,h,rfl,b0,Y,L,B,y⟩:=y;have h0:=B.1;have S:=B.2.1;have o:∀j g:Int,IsBk bits j g->∀m,m=n+7->R (.tuple [.int j,.int g]) m:=fun j g b m e=>e▸y j g b;have J:IsBk bits i (if h - 1 > 0 then h - 1 else 0):=by
  split;exact B.low (by lia);by_cases z:h=0;subst z;exact B;have:h=1:=by lia
  subst this;exact B.low (by decide)
 wp_walk using zdA ?_ ?_ ?_ (fun _ _ _=>?_),VC ?_ ?_ ?_ ?_;all_goals first
  | lia
  | exact cpow (by lia) (by lia)
  | exact zvx
  | exact zta
  | (rw[U0];exact Int.mul_pos (by decide) (Uc _))
  | (intro z;simp at z;done)
  | (simp only[cY,dB,aE,bK];decide)
  | skip
 all_goals
  simp only[cY,dB,List.forall_mem_cons,U0]at *;repeat' (with_reducible refine mG ?_ ?_)
 all_goals first
  | exact o _ _ B _ rfl
  | exact o _ _ J _ rfl
  | exact o _ _ (by assumption) _ rfl
  | exact o _ _ (B.up (by lia)) _ rfl
  | exact o _ _ (B.abt (by lia)) _ rfl
  | exact o _ _ (B.oth (by lia)) _ rfl
  | exact o _ _ (B.nxt (by assumption)) _ rfl
  | (intro x hx;simp at hx)
def zcV:GD:=fun ts n R=>∃bits most:Int,ts=[HAND,.int bits,.int most]/\1<=bits/\bits<=64/\0<=most/\most<=1000/\n<=1000000000000 - 100000/\∀(bs:qB) (m:Nat),Bks bits bs->bs.length<=most.toNat->m<=n+1+12*most.toNat->R (.list (pD bs)) m
theorem zfY{bits most:Int}{n:Nat}{R:qN}(x:1<=bits)(u:bits<=64)(m0:0<=most)(o:most<=1000)(v:n<=1000000000000 - 100000)(h:∀(bs:qB) (m:Nat),Bks bits bs->bs.length<=most.toNat->m<=n+1+12*most.toNat->R (.list (pD bs)) m):zcV [HAND,.int bits,.int most] n R:=⟨bits,most,rfl,x,u,m0,o,v,h⟩
def zcF(Z:ZZ):Prop:=FQ Z "_law_blocks" (top 32) ["_law_hand_here","_law_bits","_law_most"] 5 (spD Z.K 3 zcV)
theorem zeD(D:Dq Z.K Z.mg "_law_blocks" (top 32) ["_law_hand_here","_law_bits","_law_most"]) (EY:Zv Z) (E3:zb0 Z) (HB:zd2 Z) (EZ:Zu Z) (T:Txt Z.mg):zcF Z:=by
 refine' okQ D (fnS (N:=["_law_hand_here","_law_bits","_law_most","_law_found","_law_k","_law_block_here"]) (by decide +kernel)) rfl fun f cdv A outer s H E G=>⟨_,(Jb (Qz (i:=3) (ndB rfl) rfl (d6 rfl) (J8 Ja)) (Jb (JZ bq rfl (QW T.ran (Je EY G (dbv 0 (dbc (JM (dlv 2) dli) Ja)))) (dgv 4 (ndB rfl)) (Jb (dsv 5 (ndB rfl) (Je E3 G (dbv 0 (dbv 1 Ja)))) (Jb (JJ (Qu (UU (Jz (UQ G) UJ (Q3 3) (dl (JS (J8 Ja))) (Jk _)) (UX (Jz ZG gp_B (dl (Je EY G (dbv 0 (dbc Jf Ja)))) dli (Jk _))))) (Jc (dsv 5 (ndB rfl) (Je HB G (dbv 0 (dbv 1 (dbc (zoB EZ G (Ji (dlv 0) (Ji (Q3 3) Jt Jp) Jp)) Ja)))))) JK) (Jc (QD 3 (Jo 5)))))) (QE 3 (Jc (Jh (Jo 3)))))),?_⟩;intro ts n R hl U;obtain⟨bits,most,rfl,b0,b1,m0,m1,hn,U⟩:=U;wp_walk using UN ?_ ?_ ?_ (fun r r0 r1=>?_);lia;lia;lia;lia;lia;refine Qn (fun k ρ m=>∃bs:List (Int×Int),∃L J,ρ=[some (.val HAND),some (.val (.int bits)),some (.val (.int most)),some (.own (pD bs)),L,J]/\Bks bits bs/\bs.length=k/\m<=n+1+12*k) ⟨[],_,_,rfl,(fun b I=>nomatch I),rfl,by lia⟩ ?_ ?_
 ·rintro k t ρ m K et ⟨bs,L,J,rfl,B,S,hm⟩ hK;obtain⟨hk2,rfl⟩:=UF et;have hk3:k<1000:=by lia
  have fin:∀(i h:Int) (x4 x5:Option Cell) (Y:Nat),IsBk bits i h->Y<=m+12->K [some (.val HAND),some (.val (.int bits)),some (.val (.int most)),some (.own (pD bs++[.tuple [.int i,.int h]])),x4,x5] Y:=fun i h x4 x5 Y C hm' =>
   hK _ _ ⟨bs++[(i,h)],_,_,by rw[<- Va],B.app C,by simp[S],by lia⟩
  wp_walk using zdA ?_ ?_ ?_ (fun i h C=>?_),UN ?_ ?_ ?_ (fun q q0 q1=>?_),VC ?_ ?_ ?_ ?_,zex ?_ ?_ ?_ ?_ (fun j g C'=>?_);all_goals first
   | lia
   | exact zrL
   | exact zpn
   | (rw[JC];lia)
   | decide
   | (intro z
      have y:cq (.list (pD bs)) (.list [])=false:=by assumption
      rw[zp3]at y;have y2:bs=[]:=by have:=congrArg dA z;rw[JC]at this;exact List.length_eq_zero_iff.mp this
      rw[y2]at y;cases y)
   | exact fin _ _ _ _ _ (by assumption) (by lia)
   | skip
  all_goals
   intro x hx;obtain⟨b,I,rfl⟩:=bh.mp hx;refine⟨zjB,?_⟩;have C0:=B b I;wp_walk using zex ?_ ?_ ?_ ?_ (fun j g C'=>?_);all_goals first
    | lia
    | exact C0
    | (rw[JC];lia)
    | exact fin _ _ _ _ _ (by assumption) (by lia)
 ·rintro ρ m ⟨bs,L,J,rfl,B,S,hm⟩;have el:bs.length<=most.toNat:=by
   rw[S];unfold JX;simp;lia
  wp_walk;exact U bs m B el (by lia)
def zdu:GD:=fun ts n R=>∃bits most:Int,ts=[HAND,.int bits,.int most]/\1<=bits/\bits<=64/\0<=most/\most<64/\n<=1000000000000 - 100000/\∀(bs:qB) (m:Nat),Ptc bits bs->bs.length<=most.toNat->m<=n+1+12*most.toNat->R (.tuple (pD bs)) m
theorem zhi{bits most:Int}{n:Nat}{R:qN}(y:1<=bits)(v:bits<=64)(m0:0<=most)(o:most<64)(x:n<=1000000000000 - 100000)(h:∀(bs:qB) (m:Nat),Ptc bits bs->bs.length<=most.toNat->m<=n+1+12*most.toNat->R (.tuple (pD bs)) m):zdu [HAND,.int bits,.int most] n R:=⟨bits,most,rfl,y,v,m0,o,x,h⟩
def zdm(Z:ZZ):Prop:=FQ Z "_law_patch" (top 33) ["_law_hand_here","_law_bits","_law_most"] 6 (spD Z.K 3 zdu)
theorem zfE(D:Dq Z.K Z.mg "_law_patch" (top 33) ["_law_hand_here","_law_bits","_law_most"]) (Ho:zcF Z) (T:Txt Z.mg):zdm Z:=by
 refine' okQ D (fnS (N:=["_law_hand_here","_law_bits","_law_most","_law_found","_law_begin","_law_height"]) (by decide +kernel)) rfl fun f cdv A outer s H E Y=>⟨_,(Jb (Qz (i:=3) (ndB rfl) rfl (d6 rfl) (J8 Ja)) (Jb (JZ bq rfl (Y2 (Je Ho Y (dbv 0 (dbv 1 (dbv 2 Ja))))) (J7 rfl (Ju (dgv 4 (ndB rfl)) (Ju (dgv 5 (ndB rfl)) J5))) (Jc (JJ (J9 (dl (JN (zmz rfl) zsJ T.all zmF (Ji (dl (JS (dnc ["_law_one"] [4,5] (znS (Q3 3)) (fun _ _ _ _=>(dgv 0 (ndB rfl))) (fun _ _ _ _=>(zoA (Qi QC QA (dl (JM (dlv 1) (dl (JT dli (dlv 2))))) (dl (Jm (dlv 0) dli)) (Jk _)) (YW (Qi QC QA (dl (JM (dl (Jm (dlv 0) dli)) (dl (JT dli (dl (Jm (dlv 0) dli)))))) (dlv 1) (Jk _)))))))) Jt Vg)))) (Jc (QD 3 (Jx (dbv 4 (dbv 5 Ja))))) JK))) (QE 3 (Jc (Jh (Ul ZB Zg T.tup U4 (Ji (dl (JS (zgY Y T.srt (dlv 3) Jp))) Jt U3))))))),?_⟩;intro ts n R hl L;obtain⟨bits,most,rfl,b0,b1,m0,m1,hn,L⟩:=L;wp_walk using zfY ?_ ?_ ?_ ?_ ?_ (fun bs m B hlen hm=>?_);lia;lia;lia;lia;lia;refine Qn (fun k U S=>S=m/\∃cs:List (Int×Int),∃J I,U=[some (.val HAND),some (.val (.int bits)),some (.val (.int most)),some (.own (pD cs)),J,I]/\Bks bits cs/\(cs.Pairwise fun a b=>eB a<=b.1\/eB b<=a.1)/\cs.length<=k) ⟨rfl,[],_,_,rfl,(fun b x=>nomatch x),.nil,av _⟩ ?_ ?_
 ·rintro k t U S K et ⟨rfl,cs,J,I,rfl,C,u,hk⟩ hK;obtain⟨i,h,eb,rfl⟩:=UR et;have x:=B _ (aB eb);have h0:0<=h:=x.1;have h1:h<=bits:=x.2.1;have hk3:k<64:=by
   have:=(ao.mp eb).1;lia
  wp_walk;refine Uz (D:=prD) (fun b=>.bool (decide (i+2 ^ h.toNat<=b.1)||decide (eB b<=i))) (by lia) ?_ ?_
  ·rintro⟨i',h'⟩ y K2 X2 hK2;have G:=C _ y;have h0':0<=h':=G.1;have h1':h'<=bits:=G.2.1;wp_walk;exact cpow (by lia) (by lia);have hc:i+2 ^ h.toNat<=i':=by rw[U0]at hc;exact hc
   rw[decide_eq_true hc]at hK2;exact hK2;exact cpow (by lia) (by lia);have hc:¬i+2 ^ h.toNat<=i':=by rw[U0]at hc;exact hc
   rw[decide_eq_false hc]at hK2;rw[U0];exact hK2
  ·wp_walk using zsF ?_;rw[JC];lia;have al:∀b∈cs,i+2 ^ h.toNat<=b.1\/eB b<=i:=fun b x=>by
    have:=cU.mp hc b x;simpa using this
   refine hK _ _ ⟨rfl,cs++[(i,h)],_,_,by rw[<- Va],C.app x,?_,by simp;lia⟩;rw[eO];refine⟨u,gr _ _,fun a ha b y=>?_⟩;cases aJ.mp y;rcases al a ha with z|z;exact .inr z;exact .inl z;exact hK _ _ ⟨rfl,cs,_,_,rfl,C,u,by lia⟩
 ·rintro U S ⟨rfl,cs,J,I,rfl,C,u,hk⟩;rw[JC]at hk;wp_walk;refine zr1 b1 C u (by lia) fun es P pm=>?_;wp_walk;exact L es _ P (by have:=pm.length_eq;lia) (by lia)
def zel:GD:=fun ts n R=>∃(bits:Int) (rs:RL) (a:Int) (t:ab),ts=[t,.int a]/\(t=.list (L2.rD rs)\/t=.tuple (L2.rD rs))/\bits<=64/\0<=a/\(∀r∈rs,IsBk bits r.1.1 r.1.2)/\rs.length<64/\∀s,SgX rs a s->R (.int s) n
theorem zew{bits:Int}{rs:RL}{a:Int}{t:ab}{n:Nat}{R:qN}(v:t=.list (L2.rD rs)\/t=.tuple (L2.rD rs))(x:bits<=64)(o:0<=a)(A:∀r∈rs,IsBk bits r.1.1 r.1.2)(l:rs.length<64)(h:∀s,SgX rs a s->R (.int s) n):zel [t,.int a] n R:=⟨bits,rs,a,t,rfl,v,x,o,A,l,h⟩
def hgtD:ab->Int
 | .tuple [.tuple [_,.int h],_]=>h
 | _=>0
theorem zoY{rs:RL}{ts:qD}(pm:ts.Perm (L2.rD rs)):∃o:RL,o.Perm rs/\ts=L2.rD o:=by
 have e:L2.rD rs=(rs.map fun r=>(r,kZ [.tuple [.int r.1.1,.int r.1.2],.int r.2])).map (·.2):=by unfold L2.rD;rw[bR];rfl
 rw[e]at pm;obtain⟨v,p1,p2⟩:=U1 pm;refine⟨v.map (·.1),?_,?_⟩;have:=p1.map (·.1);rw[bR]at this;simpa[fw] using this;rw[<- p2];unfold L2.rD;rw[bR];refine dX fun w hw=>?_;obtain⟨r,_,rfl⟩:=bh.mp (p1.mem_iff.mp hw);rfl
theorem zlI{bits b g a:Int}(ok:IsBk bits b g):(a / 2 ^ g.toNat=b / 2 ^ g.toNat)↔inb (b,g) a:=by obtain⟨y,g1,k,u,rfl,_⟩:=ok;have p:=Uc g.toNat;rw[mO _ (by lia)];have e:=Int.emod_add_mul_ediv a (2 ^ g.toNat);have x:=lG a (show(2:Int) ^ g.toNat≠0 by lia);have e2:=iC a p;show _↔k*2 ^ g.toNat<=a/\a<k*2 ^ g.toNat+2 ^ g.toNat;constructor;intro h;rw[h,bZ]at e;lia;rintro⟨o,l⟩;have v:k<=a / 2 ^ g.toNat:=(kH p).mpr o;have l2:a / 2 ^ g.toNat<k+1:=(kI p).mpr (by rw[cA,bI];exact l);lia
def QL:Str:=aN "_law_sign.<locals>.<lambda>"
theorem zvy:(aN "_law_sign" ++ aN ".<locals>.")++aN "<lambda>" = QL:=by decide +kernel
def zcq(Z:ZZ)(l:af):Prop:=FQT Z l QL "_law_sign" (top 34) ["_law_rules","_law_address"] 4 2 zel
theorem zgu  {cL PL:af}(LZ:LamZ Z "_law_sign" cL PL) (D:Dq Z.K Z.mg "_law_sign" (top 34) ["_law_rules","_law_address"]) (T:Txt Z.mg):zcq Z PL:=by
 refine' okQT LZ D (fnS (N:=["_law_rules","_law_address","_law_block_here","_law_sign_here"]) (by decide +kernel)) rfl fun f A outer s H E C hP=>⟨_,(Jb (JZ bq rfl (Y2 (JS (zjR (x:="_law_rule") C T.srt (dlv 0) Jp LZ.2 hP rfl zvy (fnS (by decide +kernel)) rfl rfl (fun _ _ _ _=>rfl) (fun _ _ _ _ _=>(Jm (dl (Jm (dlv 0) dli)) dli))))) (J7 rfl (Ju (dgv 2 (ndB rfl)) (Ju (dgv 3 (ndB rfl)) J5))) (Jc (JJ (Jz (Qj C) Qg (dl (zmb (dlv 1) (dl (Jm (dlv 2) dli)))) (dl (zmb (dl (Jm (dlv 2) dli)) (dl (Jm (dlv 2) dli)))) (Jk _)) (Jc (Jh (Jo 3))) JK))) (Jc (Jh Jf))),?_⟩;intro ts n R hl h;obtain⟨bits,rs,a,t,rfl,ht,b1,a0,A,l,h⟩:=h;have it:∀{Rl:List ab->Prop},Rl (L2.rD rs)->JW t Rl:=by rintro Rl h;rcases ht with rfl|rfl;exact zlD h;exact ziQ h
 wp_walk;refine it ⟨by rw[QU];exact l,hgtD,fun t ht R' hR=>?_,fun ts' pm pw=>?_⟩
 ·obtain⟨r,C,rfl⟩:=bh.mp ht;wp_walk;exact hR
 obtain⟨Y,U,rfl⟩:=zoY pm;wp_walk;refine zot 2 3 (fun k _ _ m=>m=n/\∀(i:Nat) r,i<k->Y[i]?=some r->¬inb r.1 a) ⟨rfl,fun i r z=>by lia⟩ ?_ ?_
 ·rintro k t _ _ m K RT BK v ⟨rfl,hi⟩ hK hRT hBK;obtain⟨r,G,rfl⟩:∃r,Y[k]?=some r/\t=.tuple [.tuple [.int r.1.1,.int r.1.2],.int r.2]:=by
   unfold L2.rD at v;rw[aD]at v;cases z:Y[k]? with
   | none=>rw[z]at v;cases v
   | some r=>rw[z]at v;exact⟨r,rfl,(au v).symm⟩
  have mr:r∈rs:=U.mem_iff.mp (aB G);have ok:=A r mr;have k0:=ok.1;have k1:=ok.2.1;wp_walk;all_goals try exact k0
  rw[zlI ok]at hc;refine hRT _ _ (h r.2 (.inr ⟨r,mr,hc,rfl,fun L J z=>?_⟩));obtain⟨j,o⟩:=mD (U.mem_iff.mpr J);rcases cM k j with kj|rfl|kj;have I:=(ao.mp o);have hk:=(ao.mp G);unfold L2.rD at pw;rw[bt]at pw;have:=aV.mp pw k j hk.1 I.1 kj;rw[hk.2,I.2]at this;exact this;rw[G]at o;cases o;exact aK _;exact absurd z (hi j L kj o);rw[zlI ok]at hc;refine hK _ _ _ ⟨rfl,fun i L S e=>?_⟩;rcases Nat.lt_succ_iff_lt_or_eq.mp S with z|rfl;exact hi i L z e;rw[G]at e;cases e;exact hc
 ·rintro _ _ m ⟨rfl,hi⟩;wp_walk;refine h 0 (.inl ⟨rfl,fun r C=>?_⟩);obtain⟨j,o⟩:=mD (U.mem_iff.mpr C);have I:=(ao.mp o).1;exact hi j r (by rw[QU];exact I) o
def bD(l:List Bool):List ab:=l.map d7
def ThOk(bits:Int)(l:List Bool)(Z:Int->Prop):Prop:=(l.length:Int)=2 ^ bits.toNat/\∀x:Nat,x<l.length->(l[x]?=some true↔Z x)
theorem zoE{o:List Bool}:(bD o).length=o.length:=aP ..
theorem ztd{u:List Bool}{i:Nat}:(bD u).set i (.bool true)=bD (u.set i true):=by unfold bD;rw[List.map_set]
theorem p8b{bits:Int}(o:0<=bits)(l:bits<=8):1<=(2:Int) ^ bits.toNat/\(2:Int) ^ bits.toNat<=256:=by
 have:bits.toNat<=8:=by lia
 generalize bits.toNat=m at *;rcases m with _|_|_|_|_|_|_|_|_|m <;> first|decide|lia
noncomputable def kL (Z:Int->Prop) (t m:Nat):BL:=(bY m).map fun j:Nat=>kst Z t ((j:Int)*2 ^ t)
theorem zpF{Z:Int->Prop}{t m:Nat}:kL Z t (m+1)=kL Z t m++[kst Z t ((m:Int)*2 ^ t)]:=by unfold kL;rw[oX,cP];rfl
theorem YG{Z:Int->Prop}{t m:Nat}:(kL Z t m).length=m:=by simp[kL]
theorem zlC{Z:Int->Prop}{t m j:Nat}(h:j<m):(kL Z t m)[j]?=some (kst Z t ((j:Int)*2 ^ t)):=by unfold kL;rw[aD,dY h];rfl
theorem zuT(l u:Int×Int):kZ [.int (if 1+(l.2+u.2)<l.1+u.1 then 1+(l.2+u.2) else l.1+u.1),.int (if 1+(l.1+u.1)<l.2+u.2 then 1+(l.1+u.1) else l.2+u.2)]=prD (jn l u):=by unfold jn prD;rw[nF 1,nF 1]
theorem zpC{Z:Int->Prop}{t j:Nat}:kst Z (t+1) ((j:Int)*2 ^ (t+1))=jn (kst Z t (((2*j:Nat):Int)*2 ^ t)) (kst Z t (((2*j+1:Nat):Int)*2 ^ t)):=by
 have l:(j:Int)*2 ^ (t+1)=((2*j:Nat):Int)*2 ^ t:=by rw[aY,<- ck,Int.mul_right_comm];congr 1;lia
 have e2:(((2*j:Nat):Int)*2 ^ t)+2 ^ t=((2*j+1:Nat):Int)*2 ^ t:=by rw[show((2*j+1:Nat):Int)=((2*j:Nat):Int)+1 by lia,cA,bI]
 rw[l,<- e2];rfl
def boI(b:Bool):Int:=if b then 1 else 0
theorem ztZ{bits:Int}{l:List Bool}{Z:Int->Prop}(T:ThOk bits l Z):(l.map fun b=>kZ [.int (boI b),.int (1 - boI b)])=pD (kL Z 0 l.length):=by
 refine iK fun x=>?_;unfold pD;rw[aD,aD];rcases bw x l.length with h|h;have o:=T.2 x h;rw[zlC h,ah h]at *;unfold kst;have e:((x:Int)*2 ^ 0)=x:=by simp
 rw[e];generalize l[x]=b at *;cases b with
 | true=>rw[if_pos (o.mp rfl)];rfl
 | false=>rw[if_neg fun z=>by cases o.mpr z];rfl
 rw[bp h,bp (by rw[YG];exact h)];rfl
def zdv:GD:=fun ts n R=>∃(bits:Int) (o:List Bool) (Z:Int->Prop),ts=[.int bits,.list (bD o)]/\0<=bits/\bits<=8/\ThOk bits o Z/\R (.int (kst Z bits.toNat 0).1) n
theorem zhj{bits:Int}{o:List Bool}{Z:Int->Prop}{n:Nat}{R:qN}(v:0<=bits)(u:bits<=8)(T:ThOk bits o Z)(h:R (.int (kst Z bits.toNat 0).1) n):zdv [.int bits,.list (bD o)] n R:=⟨bits,o,Z,rfl,v,u,T,h⟩
def zdn(Z:ZZ):Prop:=FQ Z "_law_least" (top 35) ["_law_bits","_law_there_here"] 1 (spD Z.K 2 zdv)
theorem zfF(D:Dq Z.K Z.mg "_law_least" (top 35) ["_law_bits","_law_there_here"]) (T:Txt Z.mg):zdn Z:=by
 refine' okQ D (fnS (N:=["_law_bits","_law_there_here","_law_pairs","_law_turn","_law_longer","_law_k","_law_a","_law_b","_law_c","_law_d","_law_keep","_law_other"]) (by decide +kernel)) rfl fun f cdv A outer s H E hr=>⟨_,(Jb (zhY (zi5 (i:=2) (ndB rfl) rfl (d6 rfl) (own:=["_law_one"]) (capt:=[]) rfl (JO.of rfl) (dil (Y2 (Jo 1))) (fun _ _ _ _=>(dgv 0 (ndB rfl))) (by decide) (fun _ _ _ _=>UW) (fun _ _ _ _=>(Jx (dbc (Ul zet zoq T.int boot_int (Ji (dlv 0) Jt Jp)) (dbc (Qt dli (dl (Ul zet zoq T.int boot_int (Ji (dlv 0) Jt Jp)))) Ja)))))) (Jb (JZ bq rfl (QW T.ran (Jo 0)) (dgv 3 (ndB rfl)) (Jb (Qz (i:=4) (ndB rfl) rfl (d6 rfl) (J8 Ja)) (Jb (JZ bq rfl (zgZ T.ran Jf (JN QF QB T.len Qp (Ji (dlv 2) Jt Jp)) Jf) (dgv 5 (ndB rfl)) (Jb (zp7 rfl (znP (dlv 2) (zl1 (Jo 5)) (zl1 (JM (dlv 5) dli))) (Ju (J7 rfl (Ju (dgv 6 (ndB rfl)) (Ju (dgv 7 (ndB rfl)) J5))) (Ju (J7 rfl (Ju (dgv 8 (ndB rfl)) (Ju (dgv 9 (ndB rfl)) J5))) J5))) (Jb (zs0 (i:=10) (j:=11) rfl (ndB rfl) rfl rfl (by decide) rfl rfl (dbc (JM (dlv 6) (dlv 8)) (dbc (JM (dlv 7) (dlv 9)) Ja))) (Jc (QD 4 (Jx (dbc (JN (Uy rfl) Ur T.min UE (Ji (dlv 10) (Ji (dl (JM dli (dlv 11))) Jt UT) Jp)) (dbc (JN (Uy rfl) Ur T.min UE (Ji (dlv 11) (Ji (dl (JM dli (dlv 10))) Jt UT) Jp)) Ja)))))))) (QE 4 (Jc (dsv 2 (ndB rfl) (Jo 4))))))) (Jc (Jh (Jm (dl (Jm (dlv 2) dli)) dli))))),?_⟩;intro ts n R hl hh;obtain⟨bits,C,Z,rfl,b0,b1,T,h⟩:=hh;have p8:=p8b b0 b1;have tl:=T.1;wp_walk;refine Uz (cs:=C) (D:=d7) (fun b=>.tuple [.int (boI b),.int (1 - boI b)]) (by lia) ?_ ?_
 ·intro p hp K2 X2 I;wp_walk;cases p <;> exact I
 rw[ztZ T];wp_walk;any_goals lia
 have ez:2 ^ (bits.toNat - 0)=C.length:=by
  have:((2 ^ bits.toNat:Nat):Int)=C.length:=by rw[tl];simp
  rw[kM];lia
 refine zp2 2 3 4 5 6 7 8 9 10 11 (fun t x _ _ _ _ _ _ _ _ _ m=>m=n/\x=some (.val (.list (pD (kL Z t (2 ^ (bits.toNat - t))))))) ⟨rfl,by rw[ez];rfl⟩ ?_ ?_
 ·rintro t u x _ _ _ _ _ _ _ _ _ m K RT BK S ⟨rfl,rfl⟩ hK hRT hBK;obtain⟨ht,rfl⟩:=UF S;obtain⟨q,eq⟩:∃q:Nat,2 ^ (bits.toNat - t)=2*q/\q=2 ^ (bits.toNat - (t+1)):=⟨_,by rw[show bits.toNat - t=(bits.toNat - (t+1))+1 by lia,gJ];lia,rfl⟩;have q8:q<=256:=by
   have:2 ^ (bits.toNat - (t+1))<=2 ^ 8:=fC (by lia) (by lia);lia
  rw[eq.1];wp_walk;any_goals lia
  rw[JC,YG];lia;have lk:(pD (kL Z t (2*q))).length=2*q:=by rw[JC,YG]
  have L:rngN 0 ((pD (kL Z t (2*q))).length:Int) 2=q:=by
   have qi:(q:Int)=2 ^ (bits.toNat - (t+1)):=by rw[eq.2];simp
   rw[JC,YG,show((2*q:Nat):Int)=2 ^ ((bits.toNat - (t+1))+1) by rw[aY,<- qi];lia];exact(zkz (g:=1)).trans eq.2.symm
  refine zsQ 4 5 6 7 8 9 10 11 (fun j G _ _ _ _ _ _ _ J=>J=m/\G=some (.own (pD (kL Z (t+1) j)))) ?_ ?_ ?_;exact⟨rfl,rfl⟩
  ·rintro j u G _ _ _ _ _ _ _ J K' U Y y ⟨rfl,rfl⟩ hK' hRT' hBK';obtain⟨hj,rfl⟩:=zjt y;rw[L]at hj;have cut:cutD (pD (kL Z t (2*q))) (some (0+(j:Int)*2)) (some (0+(j:Int)*2+2))=[prD (kst Z t (((2*j:Nat):Int)*2 ^ t)),prD (kst Z t (((2*j+1:Nat):Int)*2 ^ t))]:=by
    unfold cutD;have e1:(0:Int)+(j:Int)*2=((2*j:Nat):Int):=by lia
    have e2:(0:Int)+(j:Int)*2+2=((2*j+2:Nat):Int):=by lia
    rw[e1,show((2*j:Nat):Int)+2=((2*j+2:Nat):Int) by lia,lk,HT.zkt,HT.zkt,lF (by lia),lF (by lia),show 2*j+2 - 2*j=2 by lia];have g1:(pD (kL Z t (2*q)))[2*j]?=some (prD (kst Z t (((2*j:Nat):Int)*2 ^ t))):=by unfold pD;rw[aD,zlC (by lia)];rfl
    have g2:(pD (kL Z t (2*q)))[2*j+1]?=some (prD (kst Z t (((2*j+1:Nat):Int)*2 ^ t))):=by unfold pD;rw[aD,zlC (by lia)];rfl
    obtain⟨h1,g1⟩:=ao.mp g1;obtain⟨h2,g2⟩:=ao.mp g2;rw[bf h1,bf h2,g1,g2];rfl
   wp_walk;rw[cut];wp_walk;rw[JC,YG];lia;refine hK' _ _ _ _ _ _ _ _ _ ⟨rfl,?_⟩;rw[zuT,<- zpC,zpF];unfold pD;rw[cP];rfl
  ·rintro G _ _ _ _ _ _ _ J ⟨rfl,rfl⟩;rw[zjs,L];wp_walk;exact hK _ _ _ _ _ _ _ _ _ _ _ ⟨rfl,by rw[<- eq.2]⟩
 ·rintro x _ _ _ _ _ _ _ _ _ m ⟨rfl,rfl⟩;rw[Zy,gP];have e:pD (kL Z bits.toNat (2 ^ 0))=[prD (kst Z bits.toNat 0)]:=by simp[pD,kL]
  rw[e];wp_walk;exact h
def zds:GD:=fun ts n R=>∃(bits:Int) (ps:BL),ts=[.int bits,.tuple (pD ps)]/\0<=bits/\bits<=8/\Bks bits ps/\∀o,ThOk bits o (fun x=>mB x ps)->R (.list (bD o)) n
theorem zhh{bits:Int}{ps:BL}{n:Nat}{R:qN}(y:0<=bits)(v:bits<=8)(B:Bks bits ps)(h:∀o,ThOk bits o (fun x=>mB x ps)->R (.list (bD o)) n):zds [.int bits,.tuple (pD ps)] n R:=⟨bits,ps,rfl,y,v,B,h⟩
theorem zuO{x:Int}{ps:BL}{k:Nat}{b:Int×Int}(e:ps[k]?=some b):mB x (ps.take (k+1))↔mB x (ps.take k)\/inb b x:=by rw[eY,e];unfold mB inb;simp[or_and_right,exists_or]
theorem ThOk.put{bits:Int}{o:List Bool}{Z:Int->Prop}{i:Nat}(T:ThOk bits o Z)(hi:i<o.length):ThOk bits (o.set i true) fun x=>Z x\/x=i:=by refine⟨by rw[lh];exact T.1,fun x hx=>?_⟩;rw[lh]at hx;rw[gE];by_cases e:i=x;subst e;simp[hi];rw[if_neg e,T.2 x hx];constructor;exact .inl;rintro(z|z);exact z;lia
theorem ThOk.congr{bits:Int}{o:List Bool}{Z l:Int->Prop}(T:ThOk bits o Z)(h:∀x,Z x↔l x):ThOk bits o l:=⟨T.1,fun x hx=>(T.2 x hx).trans (h x)⟩
theorem zpJ{l:Nat}{j:Int}(h0:0<=j)(o:j<l):ixN l j=some j.toNat:=by unfold ixN;rw[if_pos h0,if_pos (by lia)]
def zdk(Z:ZZ):Prop:=FQ Z "_law_there" (top 36) ["_law_bits","_law_patch_here"] 1 (spD Z.K 2 zds)
theorem zfC(D:Dq Z.K Z.mg "_law_there" (top 36) ["_law_bits","_law_patch_here"]) (T:Txt Z.mg):zdk Z:=by
 refine' okQ D (fnS (N:=["_law_bits","_law_patch_here","_law_there_here","_law_begin","_law_height","_law_address"]) (by decide +kernel)) rfl fun f cdv A outer s H E hr=>⟨_,(Jb (Qz (i:=2) (ndB rfl) rfl (d6 rfl) (zs3 (dl (JS (J8 (dbc QO Ja)))) (dl (JT dli (dlv 0))))) (Jb (JZ bq rfl (UO (Jo 1)) (J7 rfl (Ju (dgv 3 (ndB rfl)) (Ju (dgv 4 (ndB rfl)) J5))) (Jc (JZ bq rfl (zl7 T.ran (Jo 3) (JM (dlv 3) (dl (JT dli (dlv 4))))) (dgv 5 (ndB rfl)) (Jc (zov 2 (Jo 5) QO))))) (QE 2 (Jc (Jh (Jo 2)))))),?_⟩;intro ts n R hl hh;obtain⟨bits,ps,rfl,b0,b1,B,h⟩:=hh;have p8:=p8b b0 b1;wp_walk;exact cpow (by lia) (by lia);lia;lia;refine Qn (fun k G U=>U=n/\∃(y:List Bool) (S L C:Option Cell),G=[some (.val (.int bits)),some (.val (.tuple (pD ps))),some (.own (bD y)),S,L,C]/\ThOk bits y fun x=>mB x (ps.take k)) ⟨rfl,aU (1*(2:Int) ^ bits.toNat).toNat false,_,_,_,by unfold bD;rw[List.map_replicate],by rw[gQ];lia,fun x hx=>?_⟩ ?_ ?_;rw[cS];unfold mB;split <;> simp
 ·rintro k t G U K J ⟨rfl,y,S,L,C,rfl,T⟩ hK;obtain⟨i,g,Y,rfl⟩:=UR J;have mb:=aB Y;have I:=B _ mb;have bd:=I.bounds b0;have g0:0<=g:=I.1;have g1:g<=1000:=by have:=I.2.1;lia
  have pg:=Bd.Uc g.toNat;wp_walk;any_goals (first|lia|exact cpow (by lia) (by lia))
  refine Qn (fun j G m=>m=U/\∃(y:List Bool) (C:Option Cell),G=[some (.val (.int bits)),some (.val (.tuple (pD ps))),some (.own (bD y)),some (.val (.int i)),some (.val (.int g)),C]/\ThOk bits y fun x=>mB x (ps.take k)\/(i<=x/\x<i+j)) ⟨rfl,y,_,rfl,T.congr fun x=>⟨.inl,fun z=>z.elim id fun z=>by lia⟩⟩ ?_ ?_
  ·rintro j t G m K' J ⟨rfl,y,C,rfl,T⟩ hK';obtain⟨hj,rfl⟩:=UF J;have lt:i+(j:Int)<y.length:=by rw[T.1];lia
   wp_walk;refine zoe (k:=(i+j).toNat) (zpJ (by lia) (by rw[zoE];lia)) ?_;wp_walk;rw[ztd];refine hK' _ _ ⟨rfl,_,_,rfl,(T.put (i:=(i+j).toNat) (by lia)).congr fun x=>?_⟩;constructor;rintro((z|z)|z);exact .inl z;exact .inr (by lia);exact .inr (by lia);rintro(z|z);exact .inl (.inl z);by_cases e:x=((i+j).toNat:Nat);exact .inr e;exact .inl (.inr (by lia))
  rintro G m ⟨rfl,y,C,rfl,T⟩;refine hK _ _ ⟨rfl,_,_,_,_,rfl,T.congr fun x=>?_⟩;rw[zuO Y];unfold inb eB;rw[Zy];dsimp only;have:=Bd.Uc g.toNat;constructor;rintro(z|z);exact .inl z;exact .inr (by lia);rintro(z|z);exact .inl z;exact .inr (by lia)
 ·rintro G m ⟨rfl,y,S,L,C,rfl,T⟩;wp_walk;rw[JC,cX]at T;exact h y T
def zb7:GD:=fun ts n R=>∃(bits:Int) (rs:RL),ts=[.int bits,.tuple (L2.rD rs)]/\0<=bits/\bits<=8/\Rls bits rs/\rs.length<64/\R (.bool true) n
theorem zey{bits:Int}{rs:RL}{n:Nat}{R:qN}(x:0<=bits)(v:bits<=8)(A:Rls bits rs)(l:rs.length<64)(h:R (.bool true) n):zb7 [.int bits,.tuple (L2.rD rs)] n R:=⟨bits,rs,rfl,x,v,A,l,h⟩
theorem zoR{bits:Int}{rs:RL}(h:Rls bits rs):Rls0 bits rs:=⟨h.1,bt.mpr (h.2.imp fun {a b} z e=>by rw[e]at z;unfold bkLt at z;lia)⟩
def zbZ(Z:ZZ):Prop:=FQ Z "_law_is_rules" (top 37) ["_law_bits","_law_told"] 1 (spD Z.K 2 zb7)
theorem zdD(D:Dq Z.K Z.mg "_law_is_rules" (top 37) ["_law_bits","_law_told"]) (T:Txt Z.mg):zbZ Z:=by
 refine' okQ D (fnS (N:=["_law_bits","_law_told","_law_begin","_law_height","_law_sign_here"]) (by decide +kernel)) rfl fun f J A outer s H E o=>⟨_,(Jb (JJ (Qu (Q1 (QR (J9 (dl (Vl znF T.isi T.tup U4 (dlv 1) Jp)))) (Q1 (Jz (UQ o) UJ (dl (JS (zl3 T.lst (dlv 1) Jp))) (dl (JS (ze9 o T.srt (dlv 1) Jp))) (Jk _)) (YE (Jz (UQ o) UJ (dl (zqc rfl o T.len T.dct (zl3 T.lst (dlv 1) Jp))) (dl (JN QF QB T.len Qp (Ji (dlv 1) Jt Jp))) (Jk _)))))) (Jc (Jh QO)) JK) (Jb (JZ bq rfl (UO (Jo 1)) (J7 rfl (Ju (J7 rfl (Ju (dgv 2 (ndB rfl)) (Ju (dgv 3 (ndB rfl)) J5))) (Ju (dgv 4 (ndB rfl)) J5))) (Jb (JJ (Qu (Q1 (Jz (zkW o) znH (dlv 4) (dl (Jx (dbc Jf (dbc Jf Ja)))) rfl) (Q1 (J9 (dl (Vl zlK T.isi T.boo zfh (dlv 4) Jp))) (YE (QR (zi4 QC QA QC QA dli (dlv 3) (dlv 0))))))) (Jc (Jh QO)) JK) (Jc (JJ (Qu (Q1 (QR (zi4 QC QA (Uu o) Uq dli (dlv 2) (dl (JT dli (dlv 0))))) (YE (Jz (UQ o) UJ (dl (Vb (dlv 2) (dl (JT dli (dlv 3))))) dli (Jk _))))) (Jc (Jh QO)) JK)))) (Jc (Jh QO)))),?_⟩;intro ts n R hl L;obtain⟨bits,rs,rfl,C,Y,A,l,h⟩:=L;have R0:Rls0 bits rs:=zoR A;have ok:=R0.ok (show bits<=64 by lia);wp_walk;refine⟨rs,rfl,by lia,ok,fun rs' pm pw=>?_⟩;obtain⟨rfl,nd⟩:=(zjm ok pm pw).mpr A.2;wp_walk;exact zoh.1;exact zoh.1
 rotate_left
 rw[zsX]at hc;simp at hc;refine⟨kR rs,zrW.symm,?_⟩;rw[zpw.mpr nd];wp_walk
 rotate_left
 exact absurd (by rw[QU]) hc;refine zos 2 3 4 (fun j _ _ _ m=>m=n) rfl ?_ ?_
 ·rintro j u _ _ _ m K RT BK v rfl S I U;obtain⟨r,G,rfl⟩:∃r,rs[j]?=some r/\u=.tuple [.tuple [.int r.1.1,.int r.1.2],.int r.2]:=by
   unfold L2.rD at v;rw[aD]at v;cases z:rs[j]? with
   | none=>rw[z]at v;cases v
   | some r=>rw[z]at v;exact⟨r,rfl,(au v).symm⟩
  obtain⟨B,s0,s1⟩:=A.1 r (aB G);have bd:=B.bounds C;have p8:=p8b C Y;have h0:=B.1;have h1:=B.2.1;have pg:=Bd.Uc r.1.2.toNat;have md:r.1.1 % (1*2 ^ r.1.2.toNat)=0:=by obtain⟨_,_,k,_,e,_⟩:=B;rw[e,bI,nL]
  wp_walk;any_goals (first|lia|exact cpow (by lia) (by lia))
  exact Ux _;intro t x;rcases aC.mp x with rfl|x;exact Ux _;cases aJ.mp x;exact Ux _;exact S _ _ _ _ rfl;have:r.2=0\/r.2=1:=by lia
  rcases this with e|e <;> rw[e]at hc <;> simp[cq]at hc
 ·rintro _ _ _ m rfl;wp_walk;exact h
theorem zfu{bits:Int}{rs:RL}(h:Rls0 bits rs):Rok rs:=zky (bits:=bits) (fun r l=>⟨(h.1 r l).1,by have:=(h.1 r l).2;lia⟩) h.2
theorem Z9{o:List Bool}:Okd (.list (bD o)):=by
 have:∀o:List Bool,bB (bD o)=true/\cf (bD o)<=1:=by
  intro o;induction o with
  | nil=>exact⟨by simp[bD,bB],by simp[bD,cf]⟩
  | cons b l u =>refine⟨?_,?_⟩;have:=u.1;simp only[bD,aG,bB,cz,g9]at this ⊢;exact this;have:=u.2;simp only[bD,aG,cf,d4]at this ⊢;lia
 exact⟨by simp only[cz];exact(this o).1,by have:=(this o).2;simp only[d4];lia⟩
theorem zlV{o tk:List Bool}:cq (.list (bD o)) (.list (bD tk))=decide (o=tk):=by
 have key:∀o tk:List Bool,cE (bD o) (bD tk)=decide (o=tk):=by
  intro o;induction o with
  | nil =>intro tk;cases tk <;> simp[bD,cE]
  | cons a l v =>
   intro tk;cases tk with
   | nil=>simp[bD,cE]
   | cons b u =>have i:=v u;unfold bD at i ⊢;rw[aG,aG,cE,i,cO];cases a <;> cases b <;> simp[cq]
 rw[cq];exact key o tk
theorem zqP{bits:Int}{rs:RL}{Z:Int->Prop}{x s:Int}(R:Rok rs)(e2:∀x,0<=x->x<2 ^ bits.toNat->(SgX rs x 1↔Z x))(h0:0<=x)(l:x<2 ^ bits.toNat)(h:SgX rs x s):s=1↔Z x:=by rw[<- e2 x h0 l];exact⟨fun e=>e▸h,fun z=>ziq R h z⟩
def zdt:GD:=fun ts n R=>∃(bits:Int) (ps:BL),ts=[.int bits,.tuple (pD ps)]/\0<=bits/\bits<=8/\Bks bits ps/\ps.length<64/\∀v rs,CanP (fun x=>mB x ps) v->Rls bits rs->(rs.length:Int)=zcs bits v->(∀x,0<=x->x<2 ^ bits.toNat->(SgX rs x 1↔mB x ps))->R (.bool true) n
theorem zdz{bits:Int}{ps:BL}{n:Nat}{R:qN}(C:0<=bits)(y:bits<=8)(B:Bks bits ps)(l:ps.length<64)(h:∀v rs,CanP (fun x=>mB x ps) v->Rls bits rs->(rs.length:Int)=zcs bits v->(∀x,0<=x->x<2 ^ bits.toNat->(SgX rs x 1↔mB x ps))->R (.bool true) n):zdt [.int bits,.tuple (pD ps)] n R:=⟨bits,ps,rfl,C,y,B,l,h⟩
def zdl(Z:ZZ)(l:af):Prop:=FQT Z l QL "_law_right" (top 38) ["_law_bits","_law_patch_here"] 10 2 zdt
theorem zfD  {PL:af}(D:Dq Z.K Z.mg "_law_right" (top 38) ["_law_bits","_law_patch_here"]) (Hv:zdk Z) (Hj:zcl Z) (E4:zbY Z) (He:zbZ Z) (Hw:zdn Z) (E5:zcq Z PL) (T:Txt Z.mg):zdl Z PL:=by
 obtain⟨f,fd,D⟩:=D;refine⟨f,fd,D,D.okT (fnS (N:=["_law_bits","_law_patch_here","_law_there_here","_law_told","_law_many"]) (by decide +kernel)) rfl fun cdv A outer s H E _ u hP=>?_⟩;refine'⟨_,(Jb (dsv 2 (ndB rfl) (Je Hv u (dbv 0 (dbv 1 Ja)))) (Jb (Um (Jx (dbc (Je Hj u (dbv 0 (dbv 1 Ja))) (dbc (Je E4 u (dbv 0 (dbv 1 Ja))) Ja))) (J7 rfl (Ju (dgv 3 (ndB rfl)) (Ju (dgv 4 (ndB rfl)) J5)))) (Jb (JJ (Qu (Q1 (QR (J9 (dl (Je He u (dbv 0 (dbv 3 Ja)))))) (Q1 (J9 (dl (Vl zlK T.isi T.boo zfh (dlv 4) Jp))) (YE (QR (J9 (dl (Vl zsG T.isi T.int boot_int (dlv 4) Jp)))))))) (Jc (Jh QO)) JK) (Jb (JJ (Jz (UQ u) UJ (dl (JS (dnc ["_law_address"] [3] (dil (QW T.ran (JT dli (dlv 0)))) (fun _ _ _ _=>(dgv 0 (ndB rfl))) (fun _ _ _ _=>(Qi (Qj u) Qg (dl (YU E5 (zn7 hP) u (dbv 1 (dbv 0 Ja)))) dli (Jk _)))))) (dlv 2) (Jk _)) (Jc (Jh QO)) JK) (Jc (Jh (zh2 (Qi (Qj u) Qg (dl (JN QF QB T.len Qp (Ji (dlv 3) Jt Jp))) (dlv 4) (Jk _)) (YW (Qi (Qj u) Qg (dlv 4) (dl (Je Hw u (dbv 0 (dbv 2 Ja)))) (Jk _)))))))))),?_⟩;intro ts n R hl hh;obtain⟨bits,ps,rfl,v,L,B,l,h⟩:=hh;have l1:ps.length<64:=by lia
 have l2:ps.length<=10000:=by lia
 have G:bits<=64:=by lia
 have w:∀x,mB x ps->0<=x/\x<2 ^ bits.toNat:=fun x hx=>Yx v B hx;have p8:=p8b v L;wp_walk using zhh v L B (fun y T=>?_),zeL v G B l1 l2 (fun qs rs C A e U=>?_),zdy v G B l1 l2 (fun I C2=>?_);obtain rfl:I=qs:=C2.uniq C fun x=>aR;have P:Ptc bits I:=C.ptc v w;have lq:=C.le v B;have ml:=zhQ v C w P C.mem;have S:rs.length<64:=by lia
 have RO:=zfu (zoR A);wp_walk using zey v L A S ?_;any_goals (first|lia|exact cpow (by lia) (by lia))
 have N:(1*(2:Int) ^ bits.toNat).toNat=y.length:=by have:=T.1;lia
 refine Uz (cs:=bY (1*(2:Int) ^ bits.toNat).toNat) (D:=fun k:Nat=>bo (0+(k:Int))) (fun k=>.bool (y.getD k false)) (by rw[dz];lia) ?_ ?_
 ·intro k hk K2 X2 J;have hk:=dO.mp hk;wp_walk;refine zew (.inr rfl) G (by lia) (fun r u=>(A.1 r u).1) S (fun s hs=>?_);have hx:(0:Int)+(k:Int)<2 ^ bits.toNat:=by lia
  have dk:=zqP RO (e2:=U) (by lia) hx hs;rw[h8]at dk;have tk:y[k]?=some true↔mB (k:Int) ps:=T.2 k (by lia);have hg:y.getD k false=decide (s=1):=by
   rw[aM,cO,decide_eq_true_iff,dk,<- tk];cases y[k]? with
   | none=>simp
   | some b=>simp
  rw[hg]at J;wp_walk;exact J
 have el:((bY (1*(2:Int) ^ bits.toNat).toNat).map fun k=>d7 (y.getD k false))=bD y:=by rw[N];refine ot (by simp[bD]) fun i h1 Y=>?_;simp[bD]at Y;simp[bD,Y]
 rw[el];wp_walk;exact Z9;exact Z9
 ·refine zhj v L T ?_;wp_walk;rw[zfI v C w,decide_eq_true rfl];exact h I rs C A e U
 exact absurd (show((L2.rD rs).length:Int)=_ by rw[QU];exact e) hc;rw[zlV]at hc;simp at hc
def rowB(b h:Nat):BL:=(bY (2 ^ (b - h))).map fun k:Nat=>((k:Int)*2 ^ h,(h:Int))
def allB(b h:Nat):BL:=(bY h).flatMap (rowB b)
theorem allB_snoc{b h:Nat}:allB b (h+1)=allB b h++rowB b h:=by unfold allB;rw[oX,List.flatMap_append];simp
theorem zje{b:Nat}(o:b<=2):∀{h:Nat},(allB b h).length<=4*h
 | 0=>by simp[allB]
 | h+1=>by have:=zje o (h:=h);have e:2 ^ (b - h)<=2 ^ 2:=fC (by lia) (by lia);rw[allB_snoc,bE];simp only[rowB,aP,dz];lia
def ze7:GD:=fun ts n R=>∃bits:Int,ts=[.int bits]/\0<=bits/\bits<=2/\R (.list (pD (allB bits.toNat (bits.toNat+1)))) n
theorem zj1{bits:Int}{n:Nat}{R:qN}(u:0<=bits)(o:bits<=2)(h:R (.list (pD (allB bits.toNat (bits.toNat+1)))) n):ze7 [.int bits] n R:=⟨bits,rfl,u,o,h⟩
def zeV(Z:ZZ):Prop:=FQ Z "_law_all" (top 39) ["_law_bits"] 1 (spD Z.K 1 ze7)
theorem zhL(D:Dq Z.K Z.mg "_law_all" (top 39) ["_law_bits"]) (T:Txt Z.mg):zeV Z:=by
 refine' okQ D (fnS (N:=["_law_bits","_law_found","_law_height"]) (by decide +kernel)) rfl fun f G A outer s H E L=>⟨_,(Jb (Qz (i:=1) (ndB rfl) rfl (d6 rfl) (J8 Ja)) (Jb (JZ bq rfl (QW T.ran (JM (dlv 0) dli)) (dgv 2 (ndB rfl)) (Jc (zl0 1 (JS (dnc ["_law_begin"] [2] (dil (zgZ T.ran Jf (JT dli (dlv 0)) (JT dli (dlv 2)))) (fun _ _ _ _=>(dgv 0 (ndB rfl))) (fun _ _ _ _=>(Jx (dbv 0 (dbv 1 Ja))))))))) (QE 1 (Jc (Jh (Jo 1)))))),?_⟩;intro ts n R hl I;obtain⟨bits,rfl,J,b1,h⟩:=I;wp_walk;any_goals lia
 refine zot 1 2 (fun j l _ m=>m=n/\l=some (.own (pD (allB bits.toNat j)))) ?_ ?_ ?_;exact⟨rfl,rfl⟩
 ·rintro j u l _ m K RT U C ⟨rfl,rfl⟩ hK hRT hBK;obtain⟨hj,rfl⟩:=UF C;have h0:0<=(0:Int)+(j:Int):=by lia
  have h1:(0:Int)+(j:Int)<=2:=by lia
  have Y:=p8b J (show bits<=8 by lia);have pj:=p8b h0 (show(0:Int)+(j:Int)<=8 by lia);have x:((0:Int)+(j:Int)).toNat=j:=by lia
  wp_walk;any_goals (first|lia|exact cpow (by lia) (by lia)|decide)
  have y:rngN 0 (1*2 ^ bits.toNat) (1*2 ^ (0+(j:Int)).toNat)=2 ^ (bits.toNat - j):=by have:=zkz (g:=j) (e:=bits.toNat - j);rw[show bits.toNat - j+j=bits.toNat by lia]at this;rw[x,bI,bI];exact this
  have S:2 ^ (bits.toNat - j)<=2 ^ 2:=fC (by lia) (by lia);have ll:=zje (b:=bits.toNat) (by lia) (h:=j);rw[y,x];refine Uz (cs:=bY (2 ^ (bits.toNat - j))) (D:=fun k:Nat=>bo (0+(k:Int)*(1*2 ^ j))) (fun k:Nat=>prD ((k:Int)*2 ^ j,(j:Int))) (by rw[dz];lia) ?_ ?_
  ·intro k hk K2 X2 v;wp_walk;rw[h8,bI,h8];exact v
  wp_walk;rw[JC,aP,dz];lia;refine hK _ _ _ ⟨rfl,?_⟩;rw[allB_snoc];unfold pD;rw[cP];unfold rowB;rw[bR];rfl
 ·rintro l _ m ⟨rfl,rfl⟩;rw[Zy];wp_walk;rw[show(bits+1).toNat=bits.toNat+1 by lia];exact h
def ruN:BL->Int->RL
 | [],_=>[]
 | b::l,N=>(if N % 3 > 0 then[(b,N % 3 - 1)] else[])++ruN l (N / 3)
theorem zir{b:Int×Int}:∀{l:BL}{N:Int},ruN (l++[b]) N=ruN l N++if N / 3 ^ l.length % 3 > 0 then[(b,N / 3 ^ l.length % 3 - 1)] else[]
 | [],N=>by simp[ruN]
 | c::l,N=>by rw[cY,ruN,ruN,zir,iJ,aE,aY,bZ,km (by decide)]
theorem zhB:∀{l:BL}{N:Int}{r:(Int×Int)×Int},r∈ruN l N->r.1∈l/\0<=r.2/\r.2<=1
 | b::l,N,r,h=>by rw[ruN,aT]at h;rcases h with h|h;split at h;cases aJ.mp h;exact⟨.head _,by lia,by lia⟩;cases h;have:=zhB h;exact⟨.tail _ this.1,this.2⟩
theorem Vd:∀{l:BL}{N:Int},((ruN l N).map (·.1)).Sublist l
 | [],N=>.slnil
 | b::l,N=>by rw[ruN];split;exact .cons₂ _ Vd;exact .cons _ Vd
theorem zkx{l:BL}{N:Int}:(ruN l N).length<=l.length:=by have:=(Vd (l:=l) (N:=N)).length_le;rwa [aP]at this
theorem zjd{bits:Int}(G:0<=bits){b:Int×Int}:b∈allB bits.toNat (bits.toNat+1)↔IsBk bits b.1 b.2:=by
 unfold allB rowB;simp only[oh,bh,dO];constructor;rintro⟨h,y,k,C,rfl⟩;refine⟨by simp,by dsimp only;lia,k,by lia,by simp,?_⟩;have e:(bits - (h:Int)).toNat=bits.toNat - h:=by lia
 dsimp only;rw[e];have:((2 ^ (bits.toNat - h):Nat):Int)=2 ^ (bits.toNat - h):=by simp
 lia;rintro⟨h0,x,k,u,l,v⟩;refine⟨b.2.toNat,by lia,k.toNat,?_,?_⟩;have e:(bits - b.2).toNat=bits.toNat - b.2.toNat:=by lia
 rw[e]at v;have:((2 ^ (bits.toNat - b.2.toNat):Nat):Int)=2 ^ (bits.toNat - b.2.toNat):=by simp
 lia;refine cx ?_ ?_;show((k.toNat:Nat):Int)*2 ^ b.2.toNat=b.1;rw[l,mL u];show((b.2.toNat:Nat):Int)=b.2;lia
theorem zqq{bits:Int}(v:1<=bits)(l:bits<=2):(allB bits.toNat (bits.toNat+1)).Nodup:=by rcases(show bits=1\/bits=2 by lia) with rfl|rfl <;> decide
theorem zkw{bits:Int}(x:1<=bits)(v:bits<=2){N:Int}:Rls0 bits (ruN (allB bits.toNat (bits.toNat+1)) N) :=
 ⟨fun r o=>⟨(zjd (by lia)).mp (zhB o).1,(zhB o).2⟩,(zqq x v).sublist Vd⟩
def encR(rs:RL):BL->Int
 | []=>0
 | b::l=>((sgAt rs b).map (·+1)).getD 0+3*encR rs l
theorem zl5{rs:RL}(A:∀r∈rs,0<=r.2/\r.2<=1)(b:Int×Int):0<=((sgAt rs b).map (·+1)).getD 0/\((sgAt rs b).map (·+1)).getD 0<=2:=by
 cases e:sgAt rs b with
 | none=>exact⟨by simp,by simp⟩
 | some s =>have:=A _ (Q9 e);simp only[eF,dG];dsimp only at this;lia
theorem zou{rs:RL}(A:∀r∈rs,0<=r.2/\r.2<=1):∀{l:BL},0<=encR rs l/\encR rs l<3 ^ l.length
 | []=>⟨by simp[encR],by simp[encR]⟩
 | b::l=>by have:=zl5 A b;have:=zou A (l:=l);rw[encR,aE,aY];lia
theorem zhC{rs:RL}(A:∀r∈rs,0<=r.2/\r.2<=1):∀{l:BL},∀r∈ruN l (encR rs l),r∈rs
 | b::l,r,h=>by
  have u:=zl5 A b;have o:(((sgAt rs b).map (·+1)).getD 0+3*encR rs l) % 3=((sgAt rs b).map (·+1)).getD 0:=by lia
  have e2:(((sgAt rs b).map (·+1)).getD 0+3*encR rs l) / 3=encR rs l:=by lia
  rw[encR,ruN,o,e2,aT]at h;rcases h with h|h;split at h;rename_i g;cases aJ.mp h;cases e:sgAt rs b with
  | none=>rw[e]at g;simp at g
  | some s =>have:=Q9 e;simpa using this
  cases h;exact zhC A r h
theorem zlW{rs:RL}(A:∀r∈rs,0<=r.2/\r.2<=1)(nd:(rs.map (·.1)).Nodup):∀{l:BL},∀r∈rs,r.1∈l->r∈ruN l (encR rs l)
 | b::l,r,hr,h=>by
  have y:=zl5 A b;have x:(((sgAt rs b).map (·+1)).getD 0+3*encR rs l) % 3=((sgAt rs b).map (·+1)).getD 0:=by lia
  have e2:(((sgAt rs b).map (·+1)).getD 0+3*encR rs l) / 3=encR rs l:=by lia
  rw[encR,ruN,x,e2,aT];by_cases z:r.1=b;left;have:=Vf nd hr;have C:=A r hr;rw[z]at this;rw[this];simp only[eF,dG];rw[if_pos (by lia)];refine aJ.mpr (cx z ?_);dsimp only;lia;right;exact zlW A nd r hr ((aC.mp h).resolve_left z)
def DecR(bits:Int)(Z:Int->Prop)(rs:RL):Prop:=∀x,0<=x->x<2 ^ bits.toNat->(SgX rs x 1↔Z x)
theorem zmY{rs l:RL}(h:∀r,r∈rs↔r∈l){x s:Int}:SgX rs x s↔SgX l x s:=by unfold SgX;simp only[h]
theorem zqp{bits:Int}{Z:Int->Prop}(I:1<=bits)(G:bits<=2){rs:RL}(A:Rls0 bits rs)(D:DecR bits Z rs):∃N:Int,0<=N/\N<3 ^ (allB bits.toNat (bits.toNat+1)).length/\DecR bits Z (ruN (allB bits.toNat (bits.toNat+1)) N)/\(ruN (allB bits.toNat (bits.toNat+1)) N).length<=rs.length:=by
 have v:∀r∈rs,0<=r.2/\r.2<=1:=fun r C=>(A.1 r C).2;have lt:=zou v (l:=allB bits.toNat (bits.toNat+1));refine⟨_,lt.1,lt.2,fun x h0 y=>(zmY fun r=>⟨zhC v r,fun h=>zlW v A.2 r h ((zjd (by lia)).mpr (A.1 r h).1)⟩).trans (D x h0 y),?_⟩;have nd:(ruN (allB bits.toNat (bits.toNat+1)) (encR rs (allB bits.toNat (bits.toNat+1)))).Nodup:=by have:=(zkw I G (N:=encR rs (allB bits.toNat (bits.toNat+1)))).2;rw[eh]at this ⊢;exact(bt.mp this).imp fun h e=>h (by rw[e])
 exact nd.length_le_of_subset fun r h=>zhC v r h
theorem zqH{bits:Int}{rs:RL}{l:List Bool}{Z:Int->Prop}(R:Rok rs)(I:QY bits.toNat rs)(T:ThOk bits l Z):(((bY l.length).map fun k:Nat=>decide (decT (sgAt rs) bits.toNat 0 0 (k:Int)=1))=l)↔DecR bits Z rs:=by
 have y:=T.1;constructor;intro e x h0 u;obtain⟨k,rfl⟩:∃k:Nat,(k:Int)=x:=⟨x.toNat,by lia⟩;have v:k<l.length:=by lia
 rw[<- T.2 k v,Y8 R I h0 u,<- e,aD,dY (by lia)];simp;intro D;refine ot (by simp) fun i u o=>?_;have d:=D (i:Int) (by lia) (by lia);rw[Y8 R I (by lia) (by lia),<- T.2 i o,ah o]at d;rw[List.getElem_map,List.getElem_range,cO,decide_eq_true_iff,d];simp
def zcU:GD:=fun ts n R=>∃(bits:Int) (o:List Bool) (Z:Int->Prop),ts=[.int bits,.list (bD o)]/\1<=bits/\bits<=2/\ThOk bits o Z/\∀m:Int,(∀rs,Rls0 bits rs->DecR bits Z rs->m<=(rs.length:Int))->(m=99\/∃rs:RL,Rls0 bits rs/\DecR bits Z rs/\m=(rs.length:Int))->R (.int m) n
theorem zfX{bits:Int}{o:List Bool}{Z:Int->Prop}{n:Nat}{R:qN}(v:1<=bits)(u:bits<=2)(T:ThOk bits o Z)(h:∀m:Int,(∀rs,Rls0 bits rs->DecR bits Z rs->m<=(rs.length:Int))->(m=99\/∃rs:RL,Rls0 bits rs/\DecR bits Z rs/\m=(rs.length:Int))->R (.int m) n):zcU [.int bits,.list (bD o)] n R:=⟨bits,o,Z,rfl,v,u,T,h⟩
theorem cp3{k:Int}(h:0<=k/\k<=10):CPow 3 k:=⟨h.1,by lia,by decide⟩
def zcE(Z:ZZ)(l:af):Prop:=FQT Z l QL "_law_of_all" (top 40) ["_law_bits","_law_there_here"] 5 2 zcU
theorem zeC  {PL:af}(D:Dq Z.K Z.mg "_law_of_all" (top 40) ["_law_bits","_law_there_here"]) (HG:zeV Z) (E5:zcq Z PL) (T:Txt Z.mg):zcE Z PL:=by
 obtain⟨f,fd,D⟩:=D;refine⟨f,fd,D,D.okT (fnS (N:=["_law_bits","_law_there_here","_law_blocks_here","_law_least_here","_law_number","_law_rules","_law_block_here","_law_signs"]) (by decide +kernel)) rfl fun cdv A outer s H E _ C hP=>?_⟩;refine'⟨_,(Jb (dsv 2 (ndB rfl) (Je HG C (dbv 0 Ja))) (Jb (dsv 3 (ndB rfl) Jf) (Jb (JZ bq rfl (QW T.ran (zfS (Jz (Qj C) Qg (dlv 0) dli (Jk _)) (zoz dli dli) (zoz dli dli))) (dgv 4 (ndB rfl)) (Jb (Qz (i:=5) (ndB rfl) rfl (og rfl) (J8 Ja)) (Jb (JZ bq rfl (Y2 (Jo 2)) (dgv 6 (ndB rfl)) (Jb (JJ (Jz ZG gp_B (dl (Vb (dlv 4) dli)) dli (Jk _)) (Jc (QD 5 (Jx (dbv 6 (dbc (Qt (dl (Vb (dlv 4) dli)) dli) Ja))))) JK) (Jc (dsv 4 (ndB rfl) (zh0 (dlv 4) dli))))) (QE 5 (Jb (zhY (zi5 (i:=7) (ndB rfl) rfl (d6 rfl) (own:=["_law_address"]) (capt:=[5]) rfl (JO.of rfl) (dil (QW T.ran (JT dli (dlv 0)))) (fun _ _ _ _=>(dgv 0 (ndB rfl))) (by decide) (fun _ _ _ _=>UW) (fun _ _ _ _=>(Qi (Qj C) Qg (dl (YU E5 (zn7 hP) C (dbv 1 (dbv 0 Ja)))) dli (Jk _))))) (Jc (JJ (Qu (UU (Jz (Uu C) Uq (dl (JN QF QB T.len Qp (Ji (dlv 5) Jt Jp))) (dlv 3) (Jk _)) (UX (Jz (Qj C) Qg (dlv 7) (dlv 1) (Jk _))))) (Jc (dsv 3 (ndB rfl) (JN QF QB T.len Qp (Ji (dlv 5) Jt Jp)))) JK))))))) (Jc (Jh (Jo 3)))))),?_⟩;intro ts n R hl hh;obtain⟨bits,th,Z,rfl,b1,b2,T,h⟩:=hh;have b0:0<=bits:=by lia
 have p8:=p8b b0 (show bits<=8 by lia);wp_walk;refine zj1 b0 b2 ?_;obtain⟨L,U⟩:∃L,L=allB bits.toNat (bits.toNat+1):=⟨_,rfl⟩;have l7:L.length<=7/\(3:Int) ^ L.length=if bits=2 then 3 ^ 7 else 3 ^ 3:=by rw[U];rcases(show bits=1\/bits=2 by lia) with rfl|rfl <;> decide
 rw[<- U];have ie:∀{R':qN} {n':Nat} {c1 c2 J I G c6 c7:Option Cell},R' (.int (3 ^ L.length)) n'->dIfE (Uk (dOp oEq (dVar 0) (dC (bo 2)))) (dOp oPow (dC (bo 3)) (dC (bo 7))) (dOp oPow (dC (bo 3)) (dC (bo 3))) [some (.val (.int bits)),c1,c2,J,I,G,c6,c7] n' R':=fun {R' n' c1 c2 J I G c6 c7} h=>by rw[l7.2]at h;wp_walk;exact cp3 (by decide);rw[if_pos hc]at h;exact h;exact cp3 (by decide);rw[if_neg hc]at h;exact h
 have l3:(3:Int) ^ L.length<=2187/\0<=(3:Int) ^ L.length:=by rw[l7.2];split <;> decide
 wp_walk using ie ?_;any_goals lia
 refine zsR 3 4 5 6 7 (fun k J _ _ _ _ m=>m=n/\∃a:Int,J=some (.val (.int a))/\(∀N:Int,0<=N->N<k->DecR bits Z (ruN L N)->a<=(ruN L N).length)/\(a=99\/∃N:Int,DecR bits Z (ruN L N)/\a=(ruN L N).length)) ?_ ?_ ?_;exact⟨rfl,99,rfl,fun N h0 h1=>by lia,.inl rfl⟩
 ·rintro k t J _ _ _ _ m K RT BK et ⟨rfl,a,rfl,Y,hx⟩ hK hRT hBK;obtain⟨hk,rfl⟩:=UF et;wp_walk;refine zos 4 5 6 (fun j I G _ m'=>m'=m/\I=some (.val (.int ((0+(k:Int)) / 3 ^ j)))/\G=some (.own (L2.rD (ruN (L.take j) (0+(k:Int)))))) ?_ ?_ ?_;exact⟨rfl,by simp,by rfl⟩
  ·rintro j u I G _ m' K' RT' BK' et' ⟨rfl,rfl,rfl⟩ hK' hRT' hBK';obtain⟨i,g,eb,rfl⟩:=UR et';have lj:=(ao.mp eb).1;have es:L.take (j+1)=L.take j++[(i,g)]:=by rw[eY,eb];rfl
   have lt:(L.take j).length=j:=by rw[eW];lia
   have lr:=zkx (l:=L.take j) (N:=0+(k:Int));have p3:(0:Int)<=3 ^ j:=Int.pow_nonneg (by decide);have e3:(0+(k:Int)) / 3 ^ j / 3=(0+(k:Int)) / 3 ^ (j+1):=by rw[aY,km p3]
   have er:ruN (L.take (j+1)) (0+(k:Int))=ruN (L.take j) (0+(k:Int))++if (0+(k:Int)) / 3 ^ j % 3 > 0 then[((i,g),(0+(k:Int)) / 3 ^ j % 3 - 1)] else[]:=by rw[es,zir,lt]
   wp_walk;any_goals (first|decide|(rw[QU];lia))
   exact⟨by decide,by decide⟩;rw[e3];refine hK' _ _ _ _ ⟨rfl,rfl,?_⟩;rw[er,if_pos hc];simp[L2.rD];exact⟨by decide,by decide⟩;rw[e3];refine hK' _ _ _ _ ⟨rfl,rfl,?_⟩;rw[er,if_neg hc,bS]
  ·rintro I G _ m' ⟨rfl,rfl,rfl⟩;rw[JC,cX];have lr:=zkx (l:=L) (N:=0+(k:Int));obtain⟨rs,y⟩:∃rs,rs=ruN L (0+(k:Int)):=⟨_,rfl⟩;have RO:Rls0 bits rs:=by rw[y,U];exact zkw b1 b2
   have RK:=zfu RO;have IR:QY bits.toNat rs:=Vo b0 fun r C=>(RO.1 r C).1;rw[<- y]at lr ⊢;have N:=T.1;wp_walk;any_goals (first|lia|exact cpow (by lia) (by lia))
   refine Uz (cs:=bY (1*(2:Int) ^ bits.toNat).toNat) (D:=fun k:Nat=>bo (0+(k:Int))) (fun k=>.bool (decide (decT (sgAt rs) bits.toNat 0 0 (k:Int)=1))) (by rw[dz];lia) ?_ ?_
   ·intro x hx K2 X2 S;have hx:=dO.mp hx;wp_walk;refine zew (.inl rfl) (show bits<=64 by lia) (by lia) (fun r C=>(RO.1 r C).1) (by lia) (fun s hs=>?_);rw[h8]at hs;rw[(Y8 RK IR (by lia) (by lia)).mp hs]at S;wp_walk;exact S
   have el:((bY (1*(2:Int) ^ bits.toNat).toNat).map fun k:Nat=>d7 (decide (decT (sgAt rs) bits.toNat 0 0 (k:Int)=1)))=bD ((bY th.length).map fun k:Nat=>decide (decT (sgAt rs) bits.toNat 0 0 (k:Int)=1)):=by unfold bD;rw[bR,show(1*(2:Int) ^ bits.toNat).toNat=th.length by lia];rfl
   rw[el];have ti:=zqH RK IR T;have less:∀b:Int,b<=a->(DecR bits Z rs->b<=rs.length)->∀N:Int,0<=N->N<((k+1:Nat):Int)->DecR bits Z (ruN L N)->b<=(ruN L N).length:=fun b hb hd N h0 h1 D=>by
    by_cases e:N<k;have:=Y N h0 e D;lia;have eN:ruN L N=rs:=by rw[y,show N=0+(k:Int) by lia]
    rw[eN]at D ⊢;exact hd D
   wp_walk;exact Z9;exact Z9;rename_i hlt;refine hK _ _ _ _ _ _ ⟨rfl,_,rfl,less _ (by lia) (fun _=>by rw[QU];exact aK _),.inr ⟨0+(k:Int),?_,by rw[QU,y]⟩⟩;rw[<- y];exact ti.mp (by rw[zlV]at hc;exact of_decide_eq_true hc);exact hK _ _ _ _ _ _ ⟨rfl,a,rfl,less a (aK _) (fun D=>absurd (ti.mpr D) (by rw[zlV]at hc;exact of_decide_eq_false hc)),hx⟩;exact hK _ _ _ _ _ _ ⟨rfl,a,rfl,less a (aK _) (fun _=>by rw[QU]at hc;lia),hx⟩
 ·rintro J _ _ _ _ m ⟨rfl,a,rfl,Y,hx⟩;rw[Zy]at Y;wp_walk;refine h a (fun rs A D=>?_) (hx.imp id fun⟨N,D,e⟩=>⟨_,U▸zkw b1 b2,D,e⟩);obtain⟨N,n0,n1,D',l'⟩:=zqp b1 b2 A D;rw[<- U]at n1 D' l';have:=Y N n0 (by lia) D';lia
theorem zql{bits:Int}(v:0<=bits){l:List Nat}(h:∀k∈l,(k:Int)<2 ^ bits.toNat):Bks bits (l.map fun k:Nat=>((k:Int),(0:Int))):=fun b o=>by obtain⟨k,u,rfl⟩:=bh.mp o;exact⟨aK _,v,k,by lia,by simp,by simpa using h k u⟩
theorem zrN{x:Int}{l:List Nat}:mB x (l.map fun k:Nat=>((k:Int),(0:Int)))↔∃k∈l,(k:Int)=x:=by unfold mB eB;simp only[bh];constructor;rintro⟨b,⟨k,o,rfl⟩,u,v⟩;refine⟨k,o,?_⟩;simp at u v;lia;rintro⟨k,o,rfl⟩;exact⟨_,⟨k,o,rfl⟩,by simp,by simp;lia⟩
theorem zrM{f:af}{fd:cH}{PL:af}(D:Def Z.K Z.mg "law" (top 41) ["_law_script"] f fd) (Hk:zd3 Z) (EZ:Zu Z) (EY:Zv Z) (Hf:zdl Z PL) (E4:zbY Z) (Hq:zcE Z PL) (Hx:zdm Z) (T:Txt Z.mg):FnOk Z.P Z.w Z.K Z.mg Z.base CX0 11 f fd ["_law_script"] (spT PL QL (spD Z.K 1 zsL)):=by
 refine D.okT (fnS (N:=["_law_script","_law_k","_law_hand_here","_law_bits","_law_there_here","_law_patch_here"]) (by decide +kernel)) rfl fun cdv A outer s H E _ u hP=>?_;refine'⟨_,(Jb (JZ bq rfl (QW T.ran (JN (zes rfl) zlO T.max zez (Ji dli (Ji (dl (JN (Uy rfl) Ur T.min UE (Ji (dl (JN QF QB T.len Qp (Ji (dlv 0) Jt Jp))) (Ji dli Jt zkj) U3))) Jt U3) zkj))) (dgv 1 (ndB rfl)) (zlX (i:=2) (j:=1) Hk u (ndB rfl) rfl (og rfl) (Jb (dsv 3 (ndB rfl) (Je EZ u (dbv 2 (dbc (JS (J8 (dbc Jf (dbc Jf (dbc Jf (dbc Jf (dbc Jf (dbc Jf (dbc Jf (dbc Jf Ja)))))))))) Ja)))) (Jc (JJ (QR (J9 (dl (YU Hf hP u (dbv 3 (dbc (Je Hx u (dbv 2 (dbv 3 (dbc (Je EZ u (dbv 2 (dbc (JS (J8 (dbc Jf (dbc Jf (dbc Jf (dbc Jf (dbc Jf (dbc Jf (dbc Jf (dbc Jf Ja)))))))))) Ja))) Ja)))) Ja)))))) (Jc (Jh QO)) JK))))) (zlY (i:=2) Hk u (ndB rfl) rfl (og rfl) (Jb (dsv 3 (ndB rfl) (JM dli (dl (Je EY u (dbv 2 (dbc Jf Ja)))))) (Jb (dsv 4 (ndB rfl) (JS (dnc ["_law_address"] [2] (dil (QW T.ran (JT dli (dlv 3)))) (fun _ _ _ _=>(dgv 0 (ndB rfl))) (fun _ _ _ _=>(Qi (Qj u) Qg (dl (Je EY u (dbv 1 (dbc Jf Ja)))) dli (Jk _)))))) (Jb (dsv 5 (ndB rfl) (Ul ZB Zg T.tup U4 (Ji (dl (JS (dnf ["_law_address"] [4] (dil (QW T.ran (JT dli (dlv 3)))) (fun _ _ _ _=>(dgv 0 (ndB rfl))) (fun _ _ _ _=>(zp6 (J9 (dl (Jm (dlv 1) (dlv 0)))))) (fun _ _ _ _=>(Jx (dbv 0 (dbc Jf Ja))))))) Jt Vg))) (Jc (Jh (zh2 (YU Hf hP u (dbv 3 (dbv 5 Ja))) (YW (Qi (Qj u) Qg (dl (Je E4 u (dbv 3 (dbv 5 Ja)))) (dl (YU Hq hP u (dbv 3 (dbv 4 Ja)))) (Jk _))))))))))),?_⟩;intro ts n R hl hh;obtain⟨ns,rfl,G,hh⟩:=hh;wp_walk;split <;> (try split) <;> lia;split <;> (try split) <;> lia;refine Qn (fun _ ρ m=>(∃c1 c3 c4 c5,ρ=[some (.val (SCR ns)),c1,none,c3,c4,c5])/\m=n) ⟨⟨_,_,_,_,rfl⟩,rfl⟩ ?_ ?_
 ·rintro k t ρ m K et ⟨⟨c1,c3,c4,c5,rfl⟩,rfl⟩ hK;obtain⟨y,rfl⟩:=UF et;have hk8:k<8:=by
   revert y;split <;> (try split) <;> lia
  clear y et;have kn:(0:Int)+(k:Int)<=100:=by lia
  have k0:0<=(0:Int)+(k:Int):=by lia
  generalize (0:Int)+(k:Int)=kk at *;wp_walk;refine znC G (by lia) (by lia) fun NX RT BK CT Y U hBK hCT=>?_;wp_walk;refine VC (by decide) (by decide) (by lia) (fun x hx=>?_);obtain⟨bits,rfl,b0,b1⟩:∃bits:Int,x=.int bits/\1<=bits/\bits<=8:=by simp only[aC,cV,or_false]at hx;rcases hx with rfl|rfl|rfl|rfl|rfl|rfl|rfl|rfl <;> exact⟨_,rfl,by decide,by decide⟩
  wp_walk;refine VC (by decide) (by decide) (by lia) (fun x hx=>?_);obtain⟨most,rfl,m0,m1⟩:∃most:Int,x=.int most/\0<=most/\most<=40:=by simp only[aC,cV,or_false]at hx;rcases hx with rfl|rfl|rfl|rfl|rfl|rfl|rfl|rfl <;> exact⟨_,rfl,by decide,by decide⟩
  wp_walk;refine zhi b0 (by lia) m0 (by lia) (by lia) fun bs m2 Pb lb hm2=>?_;wp_walk;refine zdz (by lia) b1 Pb.1 (by lia) fun qs rs C A e sg=>?_;wp_walk;exact Y _ _ (hK _ _ ⟨⟨_,_,_,_,rfl⟩,rfl⟩)
 ·rintro ρ m ⟨⟨c1,c3,c4,c5,rfl⟩,rfl⟩;wp_walk;refine znB G fun NX RT BK CT Y U hBK hCT=>?_;wp_walk using UN ?_ ?_ ?_ (fun r r0 r1=>?_);all_goals try lia
  exact cpow (by lia) (by lia);have:=(p8b (bits:=1+r) (by lia) (by lia)).2;lia;obtain⟨b,eb⟩:∃b:Int,b=1+r:=⟨_,rfl⟩;rw[<- eb];have b1:1<=b:=by lia
  have b2:b<=2:=by lia
  have p4:(2:Int)<=2 ^ b.toNat/\(2:Int) ^ b.toNat<=4:=by rcases(show b=1\/b=2 by lia) with e|e <;> rw[e] <;> decide
  clear eb r0 r1;refine zms (fun j L m'=>m'<=1+j/\∃tk:List Bool,L=bD tk/\tk.length=j) ⟨by lia,[],rfl,rfl⟩ ?_ ?_
  ·rintro j x L m' K ek ⟨S,tk,rfl,I⟩ hK;obtain⟨hj,rfl⟩:=UF ek;wp_walk using UN ?_ ?_ ?_ (fun r r0 r1=>?_);any_goals lia
   rw[zoE];lia;refine hK _ _ ⟨by lia,tk++[_],by unfold bD;rw[cP];rfl,by rw[bE];simp;lia⟩
  rintro L m' ⟨S,tk,rfl,I⟩;rw[Zy]at I S;wp_walk;any_goals (first|lia|exact cpow (by lia) (by lia))
  have eN:(1*(2:Int) ^ b.toNat).toNat=tk.length:=I.symm;have tN:(tk.length:Int)=2 ^ b.toNat:=by lia
  rw[eN];refine zh6 (cs:=bY tk.length) (D:=fun k:Nat=>bo (0+(k:Int))) (fun k=>tk.getD k false) (fun k:Nat=>prD ((k:Int),0)) (by rw[dz];lia) ?_ ?_
  ·intro k y K2 X2 hK2 hX2;have y:=dO.mp y;have ix:∀{Q:ab->Prop},Q (.bool (tk.getD k false))->oIx (.list (bD tk)) (.int (0+(k:Int))) Q:=fun {Q} h=>by
    rw[UL (Bd.zfZ (v:=d7 (tk.getD k false)) (by lia) (by rw[show((0:Int)+(k:Int)).toNat=k by lia];unfold bD;rw[aD,ah y,aM,ah y];rfl))];exact h
   wp_walk using ix ?_;rw[h8];exact hK2 hc;exact hX2 hc
  obtain⟨l,el⟩:∃l,l=(bY tk.length).filter fun k=>tk.getD k false:=⟨_,rfl⟩;rw[<- el];have ml:∀{k:Nat},k∈l↔k<tk.length/\tk[k]?=some true:=fun {k}=>by rw[el,fj,dO,aM];constructor;rintro⟨h1,h2⟩;refine⟨h1,?_⟩;rw[ah h1]at h2 ⊢;simpa using h2;rintro⟨h1,h2⟩;exact⟨h1,by rw[h2];rfl⟩
  have ll:l.length<=tk.length:=by rw[el];exact bA (lK ..) (by rw[dz];exact av _)
  obtain⟨ps,ep⟩:∃ps:BL,ps=l.map fun k:Nat=>((k:Int),(0:Int)):=⟨_,rfl⟩;have e5:(l.map fun k:Nat=>prD ((k:Int),0))=pD ps:=by rw[ep];unfold pD;rw[bR];rfl
  have lp:ps.length=l.length:=by rw[ep,aP]
  have B:Bks b ps:=by rw[ep];exact zql (by lia) fun k y=>by have:=(ml.mp y).1;lia
  have T:ThOk b tk fun x=>mB x ps:=⟨tN,fun x hx=>by
   show _↔mB (x:Int) ps;rw[ep,zrN];constructor;exact fun h=>⟨x,ml.mpr ⟨hx,h⟩,rfl⟩;rintro⟨k,y,e⟩;have:k=x:=by lia
   subst this;exact(ml.mp y).2⟩
  rw[e5];wp_walk;refine zdz (by lia) (by lia) B (by lia) fun qs rs C A e sg=>?_;wp_walk;refine zdy (by lia) (by lia) B (by lia) (by lia) fun J C2=>?_;obtain rfl:J=qs:=C2.uniq C fun x=>aR;wp_walk;have w:∀x,mB x ps->0<=x/\x<2 ^ b.toNat:=fun x hx=>Yx (by lia) B hx;have lq:=C.le (by lia) B;have mq:=zhQ (by lia) C w (C.ptc (by lia) w) C.mem;refine zfX b1 b2 T fun a a1 a2=>?_;have l1:=a1 rs (zoR A) sg;have l2:zcs b J<=a:=by rcases a2 with rfl|⟨rs',A',D',rfl⟩;lia;exact ziJ (by lia) C w (zfu A') (Vo (by lia) fun r u=>(A'.1 r u).1) D'
  wp_walk;rw[decide_eq_true (show zcs b J=a by lia)];exact U _ _ (hh _)
end
section
open PySem.W PyProof.Rows
def pw:aO:=PySem.Challenge.pw_blockdeal_k16_fewest_rules
def zuR:dE->Bool
 | .FunctionDef ..=>true
 | .ClassDef ..=>true
 | .Assign [.Name x _] _ _=>!(x == aN "__name__")
 | _=>false
def qv:aO:={ pw with main:={ pw.main with body:=pw.main.body.filter zuR } }
theorem zoU:recsOf qv=(pw.main.body.filter Z4).map recD:=by kernel_rfl
theorem zla{i:Nat}(h:Z4 (top i)=true):recD (top i)∈recsOf qv:=by rw[zoU];exact dZ (fj.mpr ⟨getD_mem h,h⟩)
theorem dqG{i:Nat}{x:Str}{ps:List Str}{C:nM->Option ae}{mg u:qM}{h:ba}{c P:af}(l:pY [(c,P)] h)(T:g6 qv (looseW qv []) C mg u h)(y:BndA x (top i) ps)(o:Z4 (top i)=true:=by kernel_rfl)(v:defName (top i)=x:=by kernel_rfl):Dq (JU (gho h c P)) mg x (top i) ps:=zs2 l T (zla o) v y
def zsM:List Str:=[aN "isinstance",aN "int",aN "bool",aN "tuple",aN "len",aN "min",aN "max",aN "str",aN "repr",aN "all",aN "any",aN "range",aN "sum",aN "sorted",aN "list",aN "abs",aN "zip",aN "dict",aN "reversed",aN "enumerate",aN "ValueError"]
def zsN(x:Str):Bool:=!startupNames.contains x&&!(looseW qv []).contains x&&!((recsOf qv).map (·.name)).contains x&&!((litsOf qv).map (·.1)).contains x&&!((clssOf qv (looseW qv [])).map (·.name)).contains x
theorem zpZ:zsM.all zsN=true:=by kernel_rfl
theorem zp0{o:nM->Option ae}{mg l:qM}{h:ba}(T:g6 qv (looseW qv []) o mg l h){x:Str}(m:x∈zsM):mg x=none:=by have e:=cU.mp zpZ x m;unfold zsN at e;simp only[bL,gO,List.contains_eq_mem,decide_eq_false_iff_not]at e;obtain⟨⟨⟨⟨a,b⟩,c⟩,d⟩,f⟩:=e;exact T.free x a b c d f
theorem zqE{o:nM->Option ae}{mg l:qM}{h:ba}(T:g6 qv (looseW qv []) o mg l h):Txt mg:=by constructor <;> exact zp0 T (List.contains_iff_mem.mp (by kernel_rfl))
theorem zoM:PySem.Challenge.rw_blockdeal_k16_fewest_rules.wellSaid=true:=by kernel_rfl
theorem zrQ(w:br)(os:nT):(Q8 treeTable pw w 11 ((cN (w).params).nsMap mainGlobals "__annotations__") 20000 (zj2 w os) (topStub pw)).map (fun s=>(ZJ pw (cN (w).params) s.abs,(vm g7) s.abs))=some (true,(vn g7) w):=by kernel_rfl
theorem zrP(w:br)(os:nT):(Q8 treeTable pw w 11 ((cN (w).params).nsMap mainGlobals "__annotations__") 20000 (zj2 w os) (topStub pw)).map (fun s=>(openSeen qv [] (importedModules pw.main.body) (fun s=>xlAt qv [] s&&recOk (k6 PySem.Challenge.rw_blockdeal_k16_fewest_rules.row.toRowW) s) true s.abs).1)=some (openGood qv []).1:=by kernel_rfl
theorem zrO(w:br)(os:nT):(Q8 treeTable pw w 11 ((cN (w).params).nsMap mainGlobals "__annotations__") 20000 (zj2 w os) (topStub pw)).map (fun s=>(openSeen qv [] (importedModules pw.main.body) (fun s=>xlAt qv [] s&&recOk (k6 PySem.Challenge.rw_blockdeal_k16_fewest_rules.row.toRowW) s) true s.abs).2)=some (openGood qv []).2:=by kernel_rfl
theorem zuQ(w:br)(os:nT):(Q8 treeTable pw w 11 ((cN (w).params).nsMap mainGlobals "__annotations__") 20000 (zj2 w os) (topStub pw)).map (fun s=>(ZJ pw (cN (w).params) s.abs,openSeen qv [] (importedModules pw.main.body) (fun s=>xlAt qv [] s&&recOk (k6 PySem.Challenge.rw_blockdeal_k16_fewest_rules.row.toRowW) s) true s.abs,(vm g7) s.abs))=some (true,openGood qv [],(vn g7) w):=map3 (zrQ w os) (zrP w os) (zrO w os)
theorem zpA:LeftO pw qv [] (fun s=>xlAt qv [] s&&recOk (k6 PySem.Challenge.rw_blockdeal_k16_fewest_rules.row.toRowW) s) (vm g7) (vn g7) 20000:=zli (by kernel_rfl) (by decide) (fun _=>rfl) (zuQ)
theorem zte{HN:nM->Option ae}{mg mb:qM}{h:ba}{w:br}{N:af}(T0:g6 qv (looseW qv []) HN mg mb h)(J:mg (defName (top 41))=some (.ref N)) :
  ∃(c P:af) (qn:Str) (fd:cH),pY [(c,P)] h/\isCodeTable h P/\(∀(s:ak) (v:ae),oY s fd ⟨[v],[]⟩ [("_law_script",v)])/\∀base:ba,(JU (gho h c P)).In base->base.Ns mainGlobals mg->FnOk PySem.Challenge.rw_blockdeal_k16_fewest_rules.prog w (JU (gho h c P)) mg base CX0 11 N fd ["_law_script"] (spT P qn (zoK (JU (gho h c P)))):=by
 have T:=zqE T0;obtain⟨c,P,l,L,hL⟩:=zt0 (x:="_law_sign") T0 (zla (i:=34) (by kernel_rfl)) (by kernel_rfl);obtain⟨f,fd,DL⟩:=zs2 (x:="law") (ps:=["_law_script"]) l T0 (zla (i:=41) (by kernel_rfl)) (by kernel_rfl) fun _ _ _ _ _ _ us hl=>by obtain⟨_,rfl⟩:=len1 hl;rfl
 have e0:aX f=aX N:=au (DL.m.symm.trans J);cases e0;refine⟨c,P,QL,fd,l,L,fun s v=>?_,fun base hB _=>?_⟩;obtain⟨oc,od,kV,doc,pm,an,cdv,ct,osl,rfl,_,_⟩:=DL.F.ex;exact .of_eq rfl;let Z:ZZ:=⟨PySem.Challenge.rw_blockdeal_k16_fewest_rules.prog,w,JU (gho h c P),mg,base⟩;have LZ:=hL base w PySem.Challenge.rw_blockdeal_k16_fewest_rules.prog hB;have HK:=zjy (Z:=Z) (dqG (i:=1) l T0 (bnd1 fun _ _ _ _ _ _ _=>rfl))  T;have HP:=zk6 (Z:=Z) (dqG (i:=4) l T0 (bnd2 fun _ _ _ _ _ _ _ _=>rfl))  T;have HU:=znn (Z:=Z) (dqG (i:=2) l T0 (bnd2 fun _ _ _ _ _ _ _ _=>rfl)) HP T;have Ht:=zfz (Z:=Z) (dqG (i:=5) l T0 (bnd1 fun _ _ _ _ _ _ _=>rfl))  T;have G:=zk3 (Z:=Z) (dqG (i:=3) l T0 (bnd1 fun _ _ _ _ _ _ _=>rfl)) Ht T;have C:=zk5 (Z:=Z) (dqG (i:=14) l T0 (bnd1 fun _ _ _ _ _ _ _=>rfl)) HK T;have E8:=zcK (Z:=Z) (dqG (i:=15) l T0 (bnd2 fun _ _ _ _ _ _ _ _=>rfl))  T;have HZ:=zpo (Z:=Z) (dqG (i:=8) l T0 (bnd2 fun _ _ _ _ _ _ _ _=>rfl)) C E8 T;have HE:=zhG (Z:=Z) (dqG (i:=16) l T0 (bnd1 fun _ _ _ _ _ _ _=>rfl)) HZ T;have HL:=zjz (Z:=Z) (dqG (i:=17) l T0 (bnd1 fun _ _ _ _ _ _ _=>rfl)) C T;have HQ:=zk4 (Z:=Z) (dqG (i:=7) l T0 (bnd1 fun _ _ _ _ _ _ _=>rfl)) HE HL T;have R:=zhK (Z:=Z) (dqG (i:=13) l T0 (bnd2 fun _ _ _ _ _ _ _ _=>rfl)) C T;have Hu:=zfB (Z:=Z) (dqG (i:=9) l T0 (bnd2 fun _ _ _ _ _ _ _ _=>rfl)) R T;have Hm:=zeB (Z:=Z) (dqG (i:=10) l T0 (bnd2 fun _ _ _ _ _ _ _ _=>rfl)) Hu HU T;have S:=zjA (Z:=Z) (dqG (i:=11) l T0 (bnd2 fun _ _ _ _ _ _ _ _=>rfl)) Hm T;have U:=zhJ (Z:=Z) (dqG (i:=12) l T0 (bnd2 fun _ _ _ _ _ _ _ _=>rfl)) R C T;have HF:=zhH (Z:=Z) (dqG (i:=22) l T0 (bnd2 fun _ _ _ _ _ _ _ _=>rfl)) S U G T;have Hz:=zgs (Z:=Z) (dqG (i:=23) l T0 (bnd3 fun _ _ _ _ _ _ _ _ _=>rfl)) U S G T;have Y:=zhI (Z:=Z) (dqG (i:=21) l T0 (bnd2 fun _ _ _ _ _ _ _ _=>rfl)) HQ HF Hz T;have E1:=zdC (Z:=Z) (dqG (i:=25) l T0 (bnd2 fun _ _ _ _ _ _ _ _=>rfl)) G T;have HA:=zgr (Z:=Z) (dqG (i:=24) l T0 (bnd3 fun _ _ _ _ _ _ _ _ _=>rfl)) E1 T;have Hj:=zd8 (Z:=Z) (dqG (i:=19) l T0 (bnd2 fun _ _ _ _ _ _ _ _=>rfl)) Y HA E1 T;have E4:=zfA (Z:=Z) (dqG (i:=20) l T0 (bnd2 fun _ _ _ _ _ _ _ _=>rfl)) Y T;have Hk:=zfy (Z:=Z) (dqG (i:=27) l T0 (bnd2 fun _ _ _ _ _ _ _ _=>rfl))  T;have u:=zfx (Z:=Z) (dqG (i:=28) l T0 (bnd2 fun _ _ _ _ _ _ _ _=>rfl))  T;have y:=zgv (Z:=Z) (dqG (i:=29) l T0 (bnd2 fun _ _ _ _ _ _ _ _=>rfl)) u T;have E3:=zfG (Z:=Z) (dqG (i:=30) l T0 (bnd2 fun _ _ _ _ _ _ _ _=>rfl)) y u T;have HB:=zgw (Z:=Z) (dqG (i:=31) l T0 (bnd3 fun _ _ _ _ _ _ _ _ _=>rfl)) y E3 T;have Ho:=zeD (Z:=Z) (dqG (i:=32) l T0 (bnd3 fun _ _ _ _ _ _ _ _ _=>rfl)) u E3 HB y T;have Hx:=zfE (Z:=Z) (dqG (i:=33) l T0 (bnd3 fun _ _ _ _ _ _ _ _ _=>rfl)) Ho T;have E5:=zgu (Z:=Z) LZ (dqG (i:=34) l T0 (bnd2 fun _ _ _ _ _ _ _ _=>rfl))  T;have Hw:=zfF (Z:=Z) (dqG (i:=35) l T0 (bnd2 fun _ _ _ _ _ _ _ _=>rfl))  T;have Hv:=zfC (Z:=Z) (dqG (i:=36) l T0 (bnd2 fun _ _ _ _ _ _ _ _=>rfl))  T;have He:=zdD (Z:=Z) (dqG (i:=37) l T0 (bnd2 fun _ _ _ _ _ _ _ _=>rfl))  T
 have Hf:=zfD (Z:=Z) (dqG (i:=38) l T0 (bnd2 fun _ _ _ _ _ _ _ _=>rfl)) Hv Hj E4 He Hw E5 T;have HG:=zhL (Z:=Z) (dqG (i:=39) l T0 (bnd1 fun _ _ _ _ _ _ _=>rfl))  T;have Hq:=zeC (Z:=Z) (dqG (i:=40) l T0 (bnd2 fun _ _ _ _ _ _ _ _=>rfl)) HG E5 T;exact(zrM (Z:=Z) DL Hk y u Hf E4 Hq Hx T).imp fun vs H Q E z=>⟨z.1,zpB vs H Q E z.2⟩
end
end Bd
open PySem PySem.W PyProof.Rows
set_option maxRecDepth 100000 in
set_option maxHeartbeats 0 in
theorem PySem.Challenge.cw_blockdeal_k16_fewest_rules_holds : PySem.Challenge.rw_blockdeal_k16_fewest_rules.Holds := by
 w_on
 refine holds_law Bd.zoM fun l=>?_;refine holds_open (r:=PySem.Challenge.rw_blockdeal_k16_fewest_rules.row) (d:=Bd.recD (Bd.top 41)) (kwd:=[]) Bd.zpA (Hook.of g7) (Hook.keeps g7) (fun s e=>xl_of s (mE.mp e).1) XL.keeps (by kernel_rfl) (by kernel_rfl) (by kernel_rfl) (fun s e=>recFacts_of (mE.mp e).2) (by kernel_rfl) l (by kernel_rfl) ⟨rfl,rfl,rfl,rfl,rfl,by decide +kernel⟩ ?hw ?hc
 case hw=>w_witness2
 case hc=>exact Bd.ztW (lw:=PySem.Challenge.rw_blockdeal_k16_fewest_rules) (k:=11) (by decide) rfl rfl fun w s₀ mg v u h G o=>Bd.zte G.T o