import PyProof.Rows.All
import Wide.All
import OpenK.AllK
import Wide.FinOn
import Lean
import PyProof.EqAt
import PyProof.EqKinds
import PyProof.TupleCall
import PySem.Challenge.RW_blockdeal_k45_deals_shown_and_read
open PySem.Str renaming ofString->aa,empty->fB,length->gn
open PySem renaming wpAny_bind->ab,PyData->ae,Value->af,Addr->ah,wpAny_pure->aj,Shared->ak,Program->aI,Expr->aO,World->aT,Heap->bt,Around->bu,wpAny_truthy_bool->cf,wpAny_field->cC,wpAny_holding->cE,wpAny_mono->cH,FuncData->cJ,OsState->cM,Stmt->cN,NameKind->dA,intText?->dE,wpAny_callSpecial?_slot->dH,wpAny_newObj_type->dI,wpAny_rule->dN,wpAny_standAt->dU,wpAny_seqItems->ef,wpAny_setField_rec->eg,wpAny_passesOwn->eD,Scope->eP,mem_of_lookup->eQ,wpAny_call_entry->eS,Keyword->e8,Paired->gm,wpAny_pyIter_list->gx,typeIs_str->gQ,strLen_append->gY,wpAny_updateSeq_pair->g8,wpAny_execs_nil->g9,Builtin->iq,wpAny_typeOf->ir,wpAny_Call_Name_kw->iF,call_meets->iK,IsPart->i5,wpAny_comprehension_free->i6,Builtin->i9,wpAny_newList->ka,wpAny_onRaise->kc,PassesOwn->kf,noFill_tuple_add->kg,wpAny_pyNext_range_end->kI,wpAny_pyIter_rangeiter->kJ,IsPair->kO,wpAny_loadName_local->lg,IsRangeIter->lh,sizeLine_eq->lj,evalPairs_cons->lI,wpAny_loadName_cell->lN,seq_tuple_add->l8,wpAny_attempt->mf,wpAny_pyIter_tuple->mi,wpAny_pyIter_range->mj,wpAny_assign_Name->mD,codeAny_mono->mF,concat_meets->mH,wpAny_sequenceKey->mI,seqIndex_neg->mJ,wpAny_pyIter_enum->mY,wpAny_execs_cons->m7,wpAny_pyIter_zip->nt,wpAny_getItem_of->ny,seqIndex_of->nA,IsZip->nF,wpAny_letGo->nG,wpAny_loadPart'->nI,pushCells_keeps->nK,codeAny_builtin->nU,wpAny_specialOf->nX,BindsTo->n0,CellsOk->n8,ExcName->oa,wpAny_Name->oh,Operator->oi,Params->oz,wpAny_newTuple->oG,wpAny_setField->oI,JoinOk->oM,Model->rH,CmpOp->rL,DictEntry->rN,PyData->se,Within->sf,merged->tx,Value->uc,ReadsAll->uE,call->wc
open PySem.Heap renaming get?_push_of_some->ai,lt_size->ax,get?_push_size->aB,get?_push_ne->cR,size_push->dX,SameBut->fN,size_update->fR,get?_update_other->kL,get?_update_self->kW,get?_update_ne->lS,ExtBut->uM
open List renaming mem_cons->aq,not_mem_nil->av,size_toArray->ay,append_assoc->aA,getElem?_eq_getElem->aC,mem_append->aD,length_cons->aF,length_map->aJ,map_cons->aK,getElem?_eq_some_iff->aL,length_append->aM,getElem?_append_right->aR,getElem?_map->aU,mem_of_getElem?->aX,mem_map->aY,mem_singleton->ba,getD_eq_getElem?_getD->bg,getElem?_append_left->bh,all_eq_true->bw,take_append_drop->bz,replicate->bM,length_nil->bO,mem_cons_of_mem->bP,getElem?_set_ne->bQ,replicate_succ->bT,mem_append_right->cb,getElem?_eq_none->cc,range->cg,mem_cons_self->cj,append_nil->cq,length_take->cw,map_map->cx,cons_append->cA,drop_eq_getElem_cons->cB,lookup_cons->cK,take_of_length_le->cQ,filterMap_cons->cS,nil_append->cV,pairwise_iff_getElem->cY,length_drop->de,mem_range->dz,mem_of_mem_take->dD,getElem?_replicate->dG,getElem?_cons_succ->dJ,length_eq_zero_iff->dM,map_append->dO,getElem_of_mem->dQ,take_succ->dZ,mem_filter->eC,length->eI,pairwise_map->eM,take_length->eU,getElem?_cons_zero->eW,getElem?_set_self->eZ,drop_of_length_le->ff,set_cons_succ->fj,nodup_cons->fq,of_mem_zip->ft,foldl_cons->fw,getElem?_set->fF,length_range->fI,mem_of_mem_drop->fM,map_nil->fP,replicate_zero->fW,getD_cons_succ->fX,getD_cons_zero->fY,lookup_append->gp,set_cons_zero->gr,flatten_cons->gJ,length_replicate->gL,length_singleton->gM,getElem_mem->gT,forIn_cons->hG,map_congr_left->ie,getElem?_range->ig,perm_append_comm_assoc->ix,mem_filterMap->iC,zip_cons_cons->iH,forIn_nil->iL,pairwise_cons->iP,drop_zero->iQ,any_eq_false->iW,drop_length->km,zipIdx_cons->kB,map_snd_zip->kC,length_set->kS,perm_append_comm->kZ,length_filter_le->k6,mem_append_left->k9,pairwise_append->lC,drop_drop->lD,take_take->lE,forall_mem_cons->lH,zipIdx_map_fst->lW,length_pos_iff->lZ,filter_append->mC,take_sublist->mG,ext_getElem?->mP,mapM_toArray->mS,all_toArray->ni,perm_middle->nj,map_id->nE,take_left'->nP,drop_left'->nQ,zipIdx_nil->nV,length_zip->nW,take_nil->rf,drop_nil->rg,any_cons->rC,all_cons->rD,lookup->uB,take->ym,drop->yn
open Nat renaming lt_of_lt_of_le->au,le_refl->aw,le_trans->aH,ne_of_lt->aN,le_add_right->bL,sub_one_lt_of_lt->bX,zero_le->b5,add_le_add_right->cp,lt_of_succ_lt->cD,le_of_lt->cO,lt_of_le_of_lt->df,min_eq_left->eF,zero_add->e9,lt_of_le_of_ne->fg,eq_zero_of_not_pos->fh,lt_irrefl->fA,add_sub_assoc->fG,lt_trichotomy->fH,add_le_add_left->fU,le_antisymm->gk,eq_or_lt_of_le->gq,le_of_succ_le->gC,sub_self->gD,le_of_lt_succ->gE,le_of_sub_eq_zero->gN,sub_le->gR,le_sub_one_of_lt->g7,add_lt_add_left->ij,lt_trans->iu,lt_or_eq_of_le->iM,shiftLeft_eq->kj,add_sub_cancel_left->kA,ne_of_gt->kH,le_mul_of_pos_left->kM,pow_le_pow_right->lq,one_pos->lB,and_one_is_mod->mn,not_le->mw,lt_or_ge->mO,succ_pos->mQ,lt_succ_of_lt->mT,sub_zero->mX,le_of_not_lt->nc,succ_lt_succ->ng,one_mul->nB,two_pow_pos->nL,not_lt_zero->nZ,add_assoc->rl,le_of_eq->sI,log2_lt->uC,le_succ->uK
open PyProof.Rows renaming wpS_pure->aE,SortSt->aS,wpS_bind->bq,Keyed->br,slot_tuple_getitem->bS,callWith_type1->cL,SortKind->dY,IntsAre->fO,listItems_at->gG,Top->gU,AllBare->ik,wpS_get->iw,size_push'->iN,wpS_lift->ku,subscriptTail_builtinR->kK,wpS_modify->kN,entry_tuple_getitem->lQ,listUpdate_at->mh,args_tuple_getitem->mm,pairsOf_size->mR,callWith_builtin1->m9,get?_update_seq->nS,IsTup->og,slicePart_none->ou,Subscript_->ow,lt_int->ve,valOf->wI
open PySem.Challenge renaming rw_blockdeal_k45_deals_shown_and_read->aG,pw_blockdeal_k45_deals_shown_and_read->dS
open Array renaming length_toList->aP,toList_append->bK,getElem?_toList->bN,perm_iff_toList_perm->ee,getElem?_eq_getElem->iT,toList_push->iY,toList_extract->lF,toList_reverse->lG,toList_modify->lR,toList->sh
open Option.some renaming inj->aQ
open Iff renaming rfl->aV
open Bool renaming false_ne_true->aW,and_eq_true->aZ,false_eq_true->bG,false_and->dW,eq_iff_iff->eE,not_eq_true'->eJ,not_false->eT,not_true->fC,true_and->gi,eq_false_iff->gF,or_eq_true->hW,decide_and->kT,beq_eq_decide_eq->kX,and_false->lp,or_eq_false_iff->lu,and_eq_true_iff->lJ,or_false->p8,and_true->rh
open PySem.Builtin.SmallTypes renaming nextOf->bp,ownedTupleIsFree->cF,ownedTupleHandOut->fV
open PySem.W renaming kia_one->bE,fnOf->cP,boot_heap->dq,kitx_dict->eH,cellsFrom_some->e7,keepIn->gy,codeIn->gz,methodObj->iV,boot_drawn->kP,instObj->kR,lookIn->ll,boot_toks->lL,kitx_tuple->ml,kitx_list->mE,plainGet->m8,findIn->om,kitOne->oo,SharedT->tj
open PySem.PyData renaming str->bH,canLayAll0->bW,hasDict_of_canLay->bZ,hasDict->cm,canLay0->cn,tuple->cG,int->cI,depthAll->cU,eqv->dh,depth->fc,hasDictAll->fE,none->fL,bool->gZ,list->lA,eqvAll->me,dict->uF
open Int renaming le_trans->bR,le_of_lt->cy,mul_le_mul_of_nonneg_right->cz,mul_comm->dw,one_mul->dB,ediv_nonneg->eG,add_mul->eK,le_refl->eL,mul_assoc->eO,pow_succ->fe,emod_lt_of_pos->fo,emod_nonneg->fz,toNat_natCast->fD,not_lt->gS,natCast_zero->gW,pow_add->g6,natCast_nonneg->iD,fdiv_eq_ediv_of_nonneg->iE,eq_ofNat_of_zero_le->ki,ediv_le_self->kD,ediv_ediv_of_nonneg->kF,mul_ediv_add_emod->k7,emod_eq_of_lt->mZ,le_antisymm->nR,ediv_one->sE,zero_add->sY,sub_mul->uG
open PySem.Builtin.Range renaming rangeSize->bU,small->lV,rangeFitsLong->n9
open PySem.NameKind renaming free->bV,cell->gX
open PySem.Value renaming type->bY,ref->cu,none->iA,str->ke,bool->kG,isStrOf->pJ,int->rG,float->ud
open PySem.Txt renaming split->cT,join->eV,endswith->gK,slice->nu
open PySem.PassesOwn renaming never->cW
open Classical renaming byContradiction->cX,choose_spec->cZ,choose->ko
open False renaming elim->c9
open Or renaming inl->dP
open PySem.Builtin.Str renaming strKind->dR
open PySem.Builtin.Slice renaming slicePlaces->eo,sliceAdjust->fT,sliceApplied->iI,slicePartIndex->nJ,sliceFields->o5
open PySem.Builtin.Tuple renaming tupleExact->eN,tupleItemsOf->iJ,tupleCompareSizes->m5,tupleIsExact->oH,tupleHashOf->o7
open PySem.Builtin renaming bitXor->eR,bitAnd->fJ
open PySem.F renaming plainAttrs_str->fk,args_tuple_add_2->gf,entry_tuple_add->gu,plainAttrs_list->gv,slot_tuple_add->gA,args_tuple_iterator_next_1->h7,slot_zip_next->ic,entry_tuple_iterator_next->iz,slot_tuple_iterator_next->iO,args_str_split_2->iS,entry_str_split->iZ,slot_list_append->i7,type_list_append->i8,slot_str_split->kE,args_zip_next_1->mW,entry_zip_next->nq
open List.cons renaming injEq->fv
open PySem.Obj renaming mapSeq->fK,data_mapFields->mB
open Option renaming getD_some->fQ,isSome_iff_exists->fZ,map_some->hY,map_eq_some_iff->kQ
open PySem.PyData.tuple renaming inj->fS,injEq->iR
open PySem.Builtin.List renaming listTooLong->gh,listItems->gH,listExtendWith->iy,listUpdate->rS
open ForInStep renaming yield->gj
open List.Perm renaming append_left->gO,trans->hZ,refl->oE
open True renaming intro->gP
open PySem.W.Hook renaming none->gV,obs->uX,val->uY
open Ne renaming symm->ip
open PySem.Calls renaming Name_function_global->iB,call_len_list->lO
open PySem.SeqAt.EqAt renaming int_int->iG
open Sum renaming inr->iU,inl->lK
open Function renaming comp_def->iX
open List.Pairwise renaming imp_of_mem->kb,sublist->kY,nil->mL,and->xo
open And renaming intro->kh
open PySem.StrLaws renaming strSub_toList->k8,At->wG
open PySem.Heap.SameBut renaming update->lU,refl->xh
open PySem.Paired renaming length->l7
open Prod.mk renaming injEq->l9,inj->uT
open PySem.PyData.dict renaming injEq->mM,inj->yH
open PySem.PyData.list renaming injEq->mN
open PySem.W.RowW renaming records->m4
open PySem.PyData.int renaming injEq->nv
open Sum.inr renaming inj->nz
open Array.Perm renaming refl->nT
open PySem.SeqAt renaming EqAt->ot
open PySem.EqNone renaming eq_none_none->oR,eq_none_bool->oS,eq_bool_none->oT,ne_none_none->oW,ne_none_bool->oX,ne_bool_none->oY,eq_none_int->pM,eq_none_str->pN,eq_int_none->pO,eq_str_none->pQ,ne_none_int->pS,ne_none_str->pU,ne_int_none->pV,ne_str_none->pX
open PySem.EqMixed renaming eq_bool_str->oU,eq_str_bool->oV,ne_bool_str->oZ,ne_str_bool->o4,eq_int_str->pP,eq_str_int->pR,ne_int_str->pW,ne_str_int->pY
open Nat.succ renaming inj->sW
open PySem.W.KIN renaming call_text->tX
open PySem.Data renaming fields->uj,cell->xJ
open PySem.Walks renaming range->uk,list->we
open PySem.IsRange renaming new->um
open Prod renaming ext->uv
open PySem.Shared renaming heap->uN
open PySem.Heap.IsSliceOf renaming new->vV
open PySem.W.WShape renaming has->wb
open PyProof.Rows.SortSt renaming mk'->wj
open PySem.Heap.IsTuple renaming push->xq
open List.Sublist renaming refl->xC
open PySem.W.WData renaming int->x6
open PySem.Heap.IsList renaming push->yi
open PySem.Heap.DictOf renaming new->yV
local macro_rules | `(tactic| walk_at "V") => `(tactic| first | exact Or.inl rfl | exact Or.inr (Or.inl rfl) | exact Or.inr (Or.inr rfl))
local macro_rules | `(tactic| walk_at "F") => `(tactic| first | exact .inl rfl | exact .inr rfl | assumption)
abbrev qF:=PySem.W.Frag
abbrev qB:=List (Int×Int)
abbrev qN:=se->Nat->Prop
abbrev qM:=PySem.Str->Option uc
abbrev qV:=uc->PySem.Shared->Prop
abbrev qD:=List se
abbrev qO:=List (PySem.Addr×PySem.Obj)
set_option Elab.async false
set_option linter.all false
set_option maxRecDepth 100000
set_option maxHeartbeats 4000000
namespace L2
open PySem PySem.Spec PyProof.Rows
abbrev Ndb(x:Str):Prop:=(x == ("__debug__":Str))=false
abbrev Ncd(x:Str):Prop:=(x == ("__classdict__":Str))=false
abbrev Key:=Sum Int Str
def ZA:Key->af->Bool
 | .inl k,v=>Value.isInt k v
 | .inr x,v=>pJ x v
def keyH(w:aT):Key->Int
 | .inl k=>hashInt k
 | .inr x=>hashStr w x
theorem Ui:∀{k:Key}{v:af},ZA k v=true->(∃i t,k=lK i/\v=rG i t)\/(∃x t,k=iU x/\v=ke x t)
 | .inl i,v,h=>by obtain⟨t,e⟩:=Value.isInt_shape (k:=i) (v:=v) h;exact .inl ⟨i,t,rfl,e⟩
 | .inr x,v,h=>by obtain⟨t,e⟩:=Value.isStrOf_shape (x:=x) (v:=v) h;exact .inr ⟨x,t,rfl,e⟩
theorem zkE(x:Str)(t:Tok):ZA (.inr x) (.str x t)=true:=by simp[ZA,pJ]
theorem zrq(a b:Int):decide ((lK a:Key)=lK b)=(a == b):=by by_cases e:a=b;subst e;simp;have h:¬(lK a:Key)=lK b:=fun q=>e (Sum.inl.inj q);rw[decide_eq_false h];exact(beq_eq_false_iff_ne.mpr e).symm
theorem zrn(a b:Str):decide ((iU a:Key)=iU b)=decide (a=b):=by by_cases e:a=b;subst e;simp;have h:¬(iU a:Key)=iU b:=fun q=>e (nz q);rw[decide_eq_false h,decide_eq_false e]
theorem zrp(a:Int)(b:Str):decide ((lK a:Key)=iU b)=false:=decide_eq_false (fun q=>nomatch q)
theorem zro(a:Str)(b:Int):decide ((iU a:Key)=lK b)=false:=decide_eq_false (fun q=>nomatch q)
def UJ(prog:aI)(w:aT):PySem.KeyKind prog w Key where
 is:=ZA
 hash:=keyH w
 inj:=fun v a b ha hb=>by rcases Ui ha with⟨i,t,rfl,rfl⟩|⟨x,t,rfl,rfl⟩;rcases Ui hb with⟨j,u,rfl,e⟩|⟨y,u,rfl,e⟩;injection e with e1 _;rw[e1];exact nomatch e;rcases Ui hb with⟨j,u,rfl,e⟩|⟨y,u,rfl,e⟩;exact nomatch e;injection e with e1 _;rw[e1]
 byValue:=fun k v h=>by rcases Ui h with⟨i,t,rfl,rfl⟩|⟨x,t,rfl,rfl⟩ <;> rfl
 pyHash:=fun l h=>by rcases Ui l with⟨i,t,rfl,rfl⟩|⟨x,t,rfl,rfl⟩;exact wpAny_pyHash_int h;exact wpAny_pyHash_str h
 eqBool:=fun o l h=>by rcases Ui o with⟨i,t,rfl,rfl⟩|⟨x,t,rfl,rfl⟩;rcases Ui l with⟨j,u,rfl,rfl⟩|⟨y,u,rfl,rfl⟩;rw[zrq]at h;exact wpAny_eqBool_int h;rw[zrp]at h;exact SeqAt.EqAt.int_str i t y u _ _ _ _ h;rcases Ui l with⟨j,u,rfl,rfl⟩|⟨y,u,rfl,rfl⟩;rw[zro]at h;exact SeqAt.EqAt.str_int x t j u _ _ _ _ h;rw[zrn]at h;exact wpAny_eqBool_str h
 «strs»:=fun k x t v h=>by rcases Ui h with⟨i,u,rfl,e⟩|⟨y,u,rfl,e⟩;exact nomatch e;injection e with e1 _;subst e1;cases v <;> rfl
theorem VL(prog:aI)(w:aT)(x:Str)(t:Tok):(UJ prog w).is (.inr x) (.str x t)=true:=zkE x t
inductive V where
 | non|bl (b:Bool)|int (i:Int)|str (x:Str)|byt (b:Array UInt8)|flt (b:UInt64)|ref (a:ah)|ty (n:String)
 deriving DecidableEq
def RelV:V->af->Prop
 | .non,u=>u=iA
 | .bl b,u=>u=kG b
 | .int i,u=>∃t,u=rG i t
 | .str x,u=>∃t,u=ke x t
 | .byt b,u=>∃t,u=Value.bytes b t
 | .flt b,u=>∃t,u=ud b t
 | .ref a,u=>u=cu a
 | .ty n,u=>u=bY n
abbrev Vals:List V->List af->Prop:=gm RelV
theorem Vals.length{xs:List V}{us:List af}(r:Vals xs us):xs.length=us.length:=l7 r
theorem Vals.get:∀{xs:List V}{us:List af}{i:Nat}{x:V},Vals xs us->xs[i]?=some x->∃u,us[i]?=some u/\RelV x u
 | _,_,_,_,.nil,e=>by simp at e
 | _,_,0,_,.cons r _,e=>by simp at e;subst e;exact⟨_,rfl,r⟩
 | _,_,i+1,x,.cons _ t,e=>by obtain⟨u,C,v⟩:=Vals.get (i:=i) (x:=x) t (by simpa using e);exact⟨u,by simpa using C,v⟩
theorem Vals.set{x:V}{u:af}(r:RelV x u):∀{xs:List V}{us:List af} (i:Nat),Vals xs us->Vals (xs.set i x) (us.set i u)
 | _,_,_,.nil=>.nil
 | _,_,0,.cons _ t=>.cons r t
 | _,_,i+1,.cons q t=>.cons q (Vals.set r i t)
theorem Vals.append{xs l:List V}{us u:List af}(h:Vals xs us)(s:Vals l u):Vals (xs++l) (us++u):=by
 induction h with
 | nil=>exact s
 | cons r _ v=>exact .cons r v
theorem Vals.take:∀{xs:List V}{us:List af} (n:Nat),Vals xs us->Vals (xs.take n) (us.take n)
 | _,_,0,_=>.nil
 | _,_,_+1,.nil=>.nil
 | _,_,n+1,.cons r t=>.cons r (Vals.take n t)
theorem Vals.drop:∀{xs:List V}{us:List af} (n:Nat),Vals xs us->Vals (xs.drop n) (us.drop n)
 | _,_,0,r=>r
 | _,_,_+1,.nil=>.nil
 | _,_,n+1,.cons _ t=>Vals.drop n t
def RelO:Option V->Option af->Prop
 | some v,some u=>RelV v u
 | none,none=>True
 | _,_=>False
def KV{l:Type}:List (l×V)->List (l×af)->Prop:=gm fun(p:l×V) (q:l×af)=>p.1=q.1/\RelV p.2 q.2
def kV:Key->V
 | .inl i=>.int i
 | .inr x=>.str x
inductive HO where
 | lst (xs:List V)
 | tup (xs:List V)
 | dK (kvs:List (Key×V))|dT (kvs:List (List Key×V))
 | set (S:Int->Bool) (n:Nat)
 | ins (C dx:ah) (fs:List (Str×V))
 | own (x:ah)
 | xd (fs:List (Str×V))
 | met (f x:ah)
 | rng (lo hi:Int)
 | frz (o:Obj) (u:HO)
 | tbl (q:Str)
 | ext (φ:bt->Prop)
abbrev Hp:=ah->Option HO
def upd(H:Hp)(a:ah)(o:HO):Hp:=fun b=>if b=a then some o else H b
theorem JA{H:Hp}{a:ah}{o:HO}:upd H a o a=some o:=by unfold upd;rw[if_pos rfl]
theorem Je{H:Hp}{a b:ah}{o:HO}(h:b≠a):upd H a o b=H b:=by unfold upd;rw[if_neg h]
theorem QE{H:Hp}{a b:ah}{o:HO}(h:H a=some o)(h':H b=none):a≠b:=by intro e;subst e;rw[h]at h';cases h'
def IsTD(h:bt)(a:ah)(items:Array af):Prop:=∃o,h.get? a=some o/\o.cls=.type "tuple" /\ (∃n,o.data=.seq items n)/\o.dict=none
theorem IsTD.tup{h:bt}{a:ah}{items:Array af}(x:IsTD h a items):og h a items:=by obtain⟨o,e,c,d,_⟩:=x;exact⟨o,e,c,d⟩
theorem IsTD.lt{h:bt}{a:ah}{items:Array af}(x:IsTD h a items):a<h.objs.size:=x.tup.lt
theorem IsTD.new(h:bt)(items:Array af):IsTD (h.push { cls:=.type "tuple",data:=.seq items }) h.objs.size items:=⟨_,aB _ rfl,rfl,⟨_,rfl⟩,rfl⟩
def TabOk(H:Hp)(q:Str)(ps:Array af):Prop:=TriplesOk ps.toList/\∀(pos:Pos) (x:af),codeAmong pos ps.toList=some x->∃(c:ah) (o:Obj) (u:HO) (v:Array af) (t:Tok),x=.ref c/\H c=some (.frz o u)/\o.data=.fields v/\v[1]?=some (.str q t)
section
variable(P:aI)(w:aT)
def JE(H:Hp)(h:bt)(a:ah):HO->Prop
 | .lst xs=>xs.length<=sizeLine/\∃(G:List af) (n:Nat),Vals xs G/\h.get? a=some { cls:=.type "list",data:=.seq G.toArray n }
 | .tup xs=>xs.length<=sizeLine/\∃G:List af,Vals xs G/\IsTD h a G.toArray
 | .dK I=>I.length<=sizeLine/\(a == sysModules)=false/\∃U,KV I U/\h.DictOf (UJ P w) a U
 | .dT I=>I.length<=sizeLine/\(a == sysModules)=false/\∃xs:List (List Key×ah×af),
   gm (fun(p:List Key×V) (q:List Key×ah×af)=>p.1=q.1/\H q.2.1=some (.tup (p.1.map kV))/\RelV p.2 q.2.2) I xs /\
   ∃o Y ep,h.get? a=some o/\o.ExactDict/\o.data=.dict Y ep/\Y.toList=xs.map (entryOfKey (tupleKind (UJ P w)))/\(xs.map (·.1)).Nodup
 | .set S n=>h.SetOf (intKind P w) a S n
 | .ins C L fs=>H L=some (.own a)/\fs.length<=1000/\L≠a/\h.get? a=some (kR C L) /\
   ∃J,h.Ns1 L J/\(∀f,RelO (fs.lookup f) (J f))/\sf J (fs.map (·.1))
 | .own _=>∃o,h.get? a=some o
 | .xd fs=>∃J,h.Ns1 a J/\∀f,RelO (fs.lookup f) (J f)
 | .rng lo hi=>∃t u v,h.get? a=some { cls:=.type "range",data:=.fields #[.int lo t,.int hi u,.int 1 v] }
 | .frz o u=>h.get? a=some o/\JE H h a u
 | .tbl q=>∃ps:Array af,h.get? a=some { cls:=.none,data:=.fields ps }/\TabOk H q ps
 | .met f x=>h.get? a=some (iV (.ref f) (.ref x))
 | .ext R=>R h/\(∃o,h.get? a=some o)/\∀h1 Z:bt,R h1->(∀o,h1.get? a=some o->Z.get? a=some o)->R Z
def HOk(H:Hp)(h:bt):Prop:=∀a o,H a=some o->JE P w H h a o
end
section
variable{P:aI}{w:aT}{H H':Hp}{h h':bt}{a:ah}{o:HO}
theorem JE.lt(x:JE P w H h a o):a<h.objs.size:=by
 cases o with
 | lst xs=>obtain⟨_,_,_,_,e⟩:=x;exact ax e
 | tup xs=>obtain⟨_,_,_,p⟩:=x;exact p.lt
 | dK l=>obtain⟨_,_,_,_,o,_,_,e,_⟩:=x;exact ax e
 | dT l=>obtain⟨_,_,_,_,o,_,_,e,_⟩:=x;exact ax e
 | set S n=>obtain⟨o,_,_,_,e,_⟩:=x;exact ax e
 | ins C v fs=>obtain⟨_,_,_,e,_⟩:=x;exact ax e
 | own y=>obtain⟨_,e⟩:=x;exact ax e
 | xd fs=>obtain⟨_,⟨_,_,_,e,_⟩,_⟩:=x;exact ax e
 | rng lo hi=>obtain⟨_,_,_,e⟩:=x;exact ax e
 | frz I u=>obtain⟨e,_⟩:=x;exact ax e
 | tbl q=>obtain⟨_,e,_⟩:=x;exact ax e
 | met f y=>exact ax (show h.get? a=some _ from x)
 | ext G=>obtain⟨_,⟨_,e⟩,_⟩:=x;exact ax e
theorem Paired.mapP{α x:Type}{F G:α->x->Prop}{v:List α}{u:List x}(h:gm F v u)(f:∀a b,F a b->G a b):gm G v u:=by
 induction h with
 | nil=>exact .nil
 | cons r _ C=>exact .cons (f _ _ r) C
theorem JE.stay(x:JE P w H h a o)(k:∀b u,(b=a\/H b=some (.own a))->h.get? b=some u->h'.get? b=some u)
  (Z:∀b,H b=some (.own a)->H' b=some (.own a)) (ht:∀b xs,H b=some (.tup xs)->H' b=some (.tup xs)) (hf:∀b G u,H b=some (.frz G u)->H' b=some (.frz G u)):JE P w H' h' a o:=by
 induction o with
 | lst xs=>obtain⟨z,L,n,r,e⟩:=x;exact⟨z,L,n,r,k _ _ (.inl rfl) e⟩
 | tup xs=>obtain⟨z,L,r,G,e,c⟩:=x;exact⟨z,L,r,G,k _ _ (.inl rfl) e,c⟩
 | dK Y=>obtain⟨z,y,N,r,G,I,J,e,c⟩:=x;exact⟨z,y,N,r,G,I,J,k _ _ (.inl rfl) e,c⟩
 | dT Y =>obtain⟨z,y,xs,r,G,I,J,e,c⟩:=x;exact⟨z,y,xs,Paired.mapP r fun p q z=>⟨z.1,ht _ _ z.2.1,z.2.2⟩,G,I,J,k _ _ (.inl rfl) e,c⟩
 | set S n=>obtain⟨G,I,J,t,e,c⟩:=x;exact⟨G,I,J,t,k _ _ (.inl rfl) e,c⟩
 | ins C dx fs =>obtain⟨d,z,ne,e,R,⟨U,I,J,e2,c⟩,r⟩:=x;exact⟨Z _ d,z,ne,k _ _ (.inl rfl) e,R,⟨U,I,J,k _ _ (.inr d) e2,c⟩,r⟩
 | own y=>obtain⟨G,e⟩:=x;exact⟨G,k _ _ (.inl rfl) e⟩
 | xd fs=>obtain⟨R,⟨U,I,J,e,c⟩,r⟩:=x;exact⟨R,⟨U,I,J,k _ _ (.inl rfl) e,c⟩,r⟩
 | rng lo hi=>obtain⟨t,u,v,e⟩:=x;exact⟨t,u,v,k _ _ (.inl rfl) e⟩
 | frz G u ih=>obtain⟨e,q⟩:=x;exact⟨k _ _ (.inl rfl) e,ih q⟩
 | tbl q =>obtain⟨ps,e,z,r⟩:=x;refine⟨ps,k a _ (.inl rfl) e,z,fun pos cv m=>?_⟩;obtain⟨c,o,u,N,t,e1,e2,e3⟩:=r pos cv m;exact⟨c,o,u,N,t,e1,hf _ _ _ e2,e3⟩
 | met f y =>have e:h.get? a=some (iV (.ref f) (.ref y)):=x;show h'.get? a=some (iV (.ref f) (.ref y));exact k a _ (.inl rfl) e
 | ext φ=>obtain⟨p,⟨o,e⟩,st⟩:=x;exact⟨st _ _ p fun o q=>k _ _ (.inl rfl) q,⟨o,k _ _ (.inl rfl) e⟩,st⟩
theorem HOk.lt(x:HOk P w H h)(e:H a=some o):a<h.objs.size:=(x a o e).lt
theorem HOk.fresh(x:HOk P w H h)(e:h.objs.size<=a):H a=none:=by
 cases q:H a with
 | none=>rfl
 | some u=>exact absurd (au (x.lt q) e) (fA _)
theorem HOk.kept(x:HOk P w H h)(k:∀b u,h.get? b=some u->h'.get? b=some u):HOk P w H h':=fun a o e =>
 (x a o e).stay (fun b u _ q=>k b u q) (fun _ q=>q) (fun _ _ q=>q) fun _ _ _ q=>q
theorem HOk.laid(x:HOk P w H h)(k:∀b u,h.get? b=some u->h'.get? b=some u)(C:h.objs.size<=a)(new:JE P w (upd H a o) h' a o):HOk P w (upd H a o) h':=fun b u e=>by have l:=x.fresh C;by_cases hb:b=a;subst hb;rw[JA]at e;cases e;exact new;rw[Je hb]at e;exact(x b u e).stay (fun c v _ q=>k c v q) (fun c q=>by rw[Je (QE q l)];exact q) (fun c xs q=>by rw[Je (QE q l)];exact q) fun c G xs q=>by rw[Je (QE q l)];exact q
end
def Rd(H:Hp)(a:ah)(u:HO):Prop:=H a=some u\/∃o,H a=some (.frz o u)
theorem Rd.ok{P:aI}{w:aT}{H:Hp}{h:bt}{a:ah}{u:HO}(r:Rd H a u)(x:HOk P w H h):JE P w H h a u:=by rcases r with r|⟨o,r⟩;exact x a u r;obtain⟨_,q⟩:=x a _ r;exact q
def Mut:Option HO->Prop
 | some (.lst _)=>True
 | some (.dK _)=>True
 | some (.dT _)=>True
 | some (.set _ _)=>True
 | some (.ins _ _ _)=>True
 | some (.ext _)=>True
 | _=>False
section
variable{P:aI}{w:aT}{H:Hp}{h h':bt}{x e:ah}{o':HO}
theorem HOk.write(ok:HOk P w H h)(l:Mut (H x))(L:e=x\/H e=some (.own x))(k:∀b u,b≠e->h.get? b=some u->h'.get? b=some u)(J:∃u,h'.get? e=some u)
  (new:JE P w (upd H x o') h' x o'):HOk P w (upd H x o') h':=fun b u q=>by
 have R:∀c y,H c=some (.own y)->c≠x:=fun c y r z=>by subst z;rw[r]at l;exact l
 have G:∀c xs,H c=some (.tup xs)->c≠x:=fun c xs r z=>by subst z;rw[r]at l;exact l
 have C:∀c I xs,H c=some (.frz I xs)->c≠x:=fun c I xs r z=>by subst z;rw[r]at l;exact l
 by_cases hb:b=x;subst hb;rw[JA]at q;cases q;exact new;rw[Je hb]at q;by_cases hbe:b=e;have N:H b=some (.own x):=by rcases L with z|z;exact absurd (hbe.trans z) hb;rw[hbe];exact z
 rw[q]at N;cases N;obtain⟨v,S⟩:=J;exact⟨v,by rw[hbe];exact S⟩;refine(ok b u q).stay (fun c v hc r=>k c v ?_ r) (fun c r=>by rw[Je (R c b r)];exact r) (fun c xs r=>by rw[Je (G c xs r)];exact r) fun c I xs r=>by rw[Je (C c I xs r)];exact r
 rcases hc with rfl|hc;exact hbe;rintro rfl;rcases L with z|z;exact R c b hc z;rw[hc]at z;cases z;exact hb rfl
end
structure Un(fs ex:List ah)(H H':Hp)(h h':bt):Prop where
 keep:∀b o,h.get? b=some o->H b=none->b∉fs->b∉ex->h'.get? b=some o
 slot:∀b o,h.get? b=some o->H b=none->b∈fs->b∉ex->∃sl,h'.get? b=some { o with slots:=sl }
 free:∀b o,h.get? b=some o->H b=none->b∉ex->H' b=none
 there:∀b o,h.get? b=some o->b∉ex->∃o',h'.get? b=some o'
 tups:∀b xs,H b=some (.tup xs)->H' b=some (.tup xs)
 frzs:∀b o u,H b=some (.frz o u)->H' b=some (.frz o u)
 tbls:∀b q,H b=some (.tbl q)->H' b=some (.tbl q)
section
variable{fs fs' ex ex':List ah}{H H1 H2:Hp}{h h1 h2 h':bt}{a x e:ah}{o:HO}
theorem Un.any(u:Un fs ex H H1 h h1){b:ah}{l:Obj}(q:h.get? b=some l)(n:H b=none)(hx:b∉ex):∃sl,h1.get? b=some { l with slots:=sl }:=by by_cases hb:b∈fs;exact u.slot b l q n hb hx;exact⟨l.slots,u.keep b l q n hb hx⟩
theorem Un.kept(k:∀b u,h.get? b=some u->h'.get? b=some u):Un fs ex H H h h' :=
 ⟨fun b l q _ _ _=>k b l q,fun b l q _ _ _=>⟨l.slots,k b l q⟩,fun _ _ _ n _=>n,fun b l q _=>⟨l,k b l q⟩,fun _ _ q=>q,fun _ _ _ q=>q,fun _ _ q=>q⟩
theorem Un.refl:Un fs ex H H h h:=Un.kept fun _ _ q=>q
theorem Un.laid(k:∀b u,h.get? b=some u->h'.get? b=some u)(v:h.objs.size<=a)(l:H a=none):Un fs ex H (upd H a o) h h' where
 keep:=fun b u q _ _ _=>k b u q
 slot:=fun b u q _ _ _=>⟨u.slots,k b u q⟩
 free:=fun b u q n _=>by rw[Je (aN (au (ax q) v))];exact n
 there:=fun b u q _=>⟨u,k b u q⟩
 tups:=fun b xs q=>by rw[Je (QE q l)];exact q
 frzs:=fun b u xs q=>by rw[Je (QE q l)];exact q
 tbls:=fun b ps q=>by rw[Je (QE q l)];exact q
theorem Un.write(l:Mut (H x))(G:e=x\/H e=some (.own x))(k:∀b u,b≠e->h.get? b=some u->h'.get? b=some u)(v:∃u,h'.get? e=some u):Un fs ex H (upd H x o) h h':=by
 have hx:∀b,H b=none->b≠x:=fun b n z=>by subst z;rw[n]at l;exact l
 have hb:∀b,H b=none->b≠e:=fun b n z=>by subst z;rcases G with r|r;exact hx b n r;rw[n]at r;cases r
 have C:∀b u,H b=some u->¬Mut (some u)->b≠x:=fun b u q nm z=>by subst z;rw[q]at l;exact nm l
 refine⟨fun b u q n _ _=>k b u (hb b n) q,fun b u q n _ _=>⟨u.slots,k b u (hb b n) q⟩,fun b u q n _=>by rw[Je (hx b n)];exact n,fun b u q _=>?_,
  fun b xs q=>by rw[Je (C b _ q fun z=>z)];exact q,fun b u xs q=>by rw[Je (C b _ q fun z=>z)];exact q,fun b ps q=>by rw[Je (C b _ q fun z=>z)];exact q⟩
 by_cases hbe:b=e;subst hbe;exact v;exact⟨u,k b u hbe q⟩
end
def trk(h:bt)(H:Hp):List ah:=(cg h.objs.size).filter fun a=>(H a).isSome
def hidT(h:bt)(H:Hp):bt:=PySem.W.hideAll h (trk h H)
theorem zkP(h:bt)(H:Hp):(hidT h H).objs.size=h.objs.size:=PySem.W.hideAll_size _ _
theorem zm3{h:bt}{H:Hp}{b:ah}{o:Obj}(e:h.get? b=some o)(n:H b=none):(hidT h H).get? b=some o :=
 PySem.W.hideAll_get _ e fun l=>by have q:(H b).isSome=true:=(eC.mp l).2;rw[n]at q;simp at q
theorem zoK{h:bt}{H:Hp}{b:ah}{o:Obj}(e:(hidT h H).get? b=some o):h.get? b=some o/\H b=none:=by
 have l:h.get? b=some o:=PySem.W.of_hideAll (trk h H) e;refine⟨l,?_⟩;cases q:H b with
 | none=>rfl
 | some x =>have u:b∈trk h H:=eC.mpr ⟨dz.mpr (ax l),by simp[q]⟩;have z:(hidT h H).get? b=none:=PySem.W.hideAll_none (trk h H) u;rw[z]at e;cases e
structure Mod(K:qF)(mg:qM)(base:bt):Prop where
 kin:K.In base
 glob:base.Ns mainGlobals mg
 blt:∃mb,base.Ns builtinsNs mb/\∀x:Str,x ≠ "__name__" -> mb x=bootBuiltins x
 nolimit:base.NoLimit
structure Cx where
 prog:aI
 w:aT
 K:qF
 mg:Str->Option af
 base:bt
 A:bu
 N:List Str
 s₀:ak
 H₀:Hp
 env:Env
 outer:List Env
 stack:List Env
 ex:List ah
 fn:Str->Bool
 calm:Bool
 pn:List (ah×Obj)
 xe:af->ak->Prop
abbrev Fsi(X:Cx)(e:aO):Prop:=∀x,foldedSetIterable e X.env x=pure x
abbrev Fnl(X:Cx)(x:Str):Prop:=X.fn x=true\/X.env.scope.names.lookup x=some .local
def frs(l:List Env):List ah:=l.filterMap (·.frame)
abbrev Cx.fs(X:Cx):List ah:=frs X.outer
def Vis(sc:eP)(x:Str):Prop:=sc.names.lookup x=some .local\/sc.names.lookup x=some .cell\/sc.names.lookup x=some .free
def Loc(sc:eP)(x:Str):Prop:=sc.names.lookup x=some .local\/sc.names.lookup x=some .cell
def Look(env:Env)(h:bt)(m:qM)(x:Str)(u:af):Prop :=
 (env.kindOf x=some .local/\m x=some u)\/((env.kindOf x=some .cell\/env.kindOf x=some .free)/\∃c,env.cells.lookup x=some c/\h.IsCell c (some u))
structure Cx.Ok(X:Cx):Prop where
 mod:Mod X.K X.mg X.base
 kind:X.env.scope.kind=.function
 glob:X.env.globals=mainGlobals
 blt:X.env.builtins=builtinsNs
 above:X.s₀.heap.objs.size<=X.env.locals
 inj:∀x y c,X.env.cells.lookup x=some c->X.env.cells.lookup y=some c->x=y
 has:∀x,(X.env.kindOf x=some .cell\/X.env.kindOf x=some .free)->∃c,X.env.cells.lookup x=some c
 cab:∀x c,X.fn x=true->X.env.cells.lookup x=some c->X.s₀.heap.objs.size<=c
 hd:X.calm=true->X.A.handled=none
 frames:X.A.frames=some X.stack
 stk:X.stack=X.outer\/(X.stack=X.env::X.outer/\X.env.frame=some X.env.locals)
 exf:∀b∈X.ex,b≠X.env.locals/\∀x c,X.env.cells.lookup x=some c->c≠b
 bs:∀b o,X.base.get? b=some o->X.s₀.heap.get? b=some o/\X.H₀ b=none
 bsz:X.base.objs.size<=X.s₀.heap.objs.size
 noex:∀b o,X.base.get? b=some o->b∉X.ex
 exfs:∀b∈X.ex,b∉X.fs
 funs:X.s₀.heap.FunFrames X.base X.outer
 frf:∀b∈X.fs,X.H₀ b=none
structure Inv(X:Cx)(pins:qO)(σ:List (Option V))(H:Hp)(s:ak):Prop where
 ok:X.Ok
 os:s.os=X.s₀.os
 bare:ik s.gens
 base:Un X.fs X.ex X.H₀ H X.s₀.heap s.heap
 loc:∃m,s.heap.Ns X.env.locals m/\∀(i:Nat) (x:Str) (v:V),X.N[i]?=some x->σ[i]?=some (some v)->Vis X.env.scope x->∃u,RelV v u/\Look X.env s.heap m x u
 cell:∀x c,X.env.cells.lookup x=some c->∃v,s.heap.IsCell c v
 free:H X.env.locals=none
 freeC:∀x c,X.env.cells.lookup x=some c->H c=none
 pin:∀p∈X.pn++pins,s.heap.get? p.1=some p.2/\H p.1=none/\p.1≠X.env.locals/\p.1∉X.fs/\∀v,p.2.data≠.cell v
 hok:HOk X.prog X.w H s.heap
 len:σ.length=X.N.length
section
variable{X:Cx}{pins:qO}{σ:List (Option V)}{H H':Hp}{s:ak}{h':bt}
theorem Cx.Ok.nofr(ok:X.Ok){b:ah}{o:Obj}(e:X.base.get? b=some o):b∉X.fs:=fun hb=>by have:=(ok.funs.mem hb).1;rw[e]at this;cases this
theorem Inv.bs(I:Inv X pins σ H s):∀b o,X.base.get? b=some o->s.heap.get? b=some o/\H b=none:=fun b o e =>
 ⟨I.base.keep b o (I.ok.bs b o e).1 (I.ok.bs b o e).2 (I.ok.nofr e) (I.ok.noex b o e),I.base.free b o (I.ok.bs b o e).1 (I.ok.bs b o e).2 (I.ok.noex b o e)⟩
theorem Inv.bk(I:Inv X pins σ H s):∀b o,X.base.get? b=some o->s.heap.get? b=some o:=fun b o e=>(I.bs b o e).1
theorem Inv.mod(I:Inv X pins σ H s):Mod X.K X.mg X.base:=I.ok.mod
theorem Inv.kIn(I:Inv X pins σ H s):X.K.In s.heap:=I.ok.mod.kin.keeps I.bk
theorem Inv.lt(I:Inv X pins σ H s):X.env.locals<s.heap.objs.size:=let ⟨_,hn,_⟩:=I.loc;hn.lt
theorem Inv.sz(I:Inv X pins σ H s):X.s₀.heap.objs.size<=s.heap.objs.size:=aH I.ok.above (cO I.lt)
theorem Inv.nofs(I:Inv X pins σ H s){a:ah}(h:s.heap.objs.size<=a):a∉X.fs:=fun hb=>by obtain⟨_,o,l,_⟩:=I.ok.funs.mem hb;exact absurd (au (ax l) (aH I.sz h)) (fA _)
theorem Inv.cne(I:Inv X pins σ H s):∀x c,X.env.cells.lookup x=some c->c≠X.env.locals:=fun x c e z=>by obtain⟨v,o,C,hd⟩:=I.cell x c e;obtain⟨m,⟨G,L,J,u,l,_⟩,_⟩:=I.loc;rw[z,u]at C;cases C;rw[l]at hd;cases hd
theorem Inv.funs(I:Inv X pins σ H s):s.heap.FunFrames X.base X.outer:=by
 have all:∀(l:List Env),(∀b∈frs l,b∈X.fs)->X.s₀.heap.FunFrames X.base l->s.heap.FunFrames X.base l:=by
  intro l;induction l with
  | nil=>intro _ _;trivial
  | cons env r R =>intro v G;obtain⟨N,⟨L,o,hf,C,x,hd⟩,J⟩:=G;have u:L∈X.fs:=v L (by unfold frs;rw[cS,hf];exact cj);obtain⟨sl,e⟩:=I.base.slot L o x (I.ok.frf L u) u fun z=>I.ok.exfs L z u;exact⟨N,⟨L,_,hf,C,e,hd⟩,R (fun b hb=>v b (by unfold frs;rw[cS,hf];exact bP _ hb)) J⟩
 exact all X.outer (fun _ hb=>hb) I.ok.funs
theorem Inv.stack(I:Inv X pins σ H s):s.heap.FunFrames X.base X.stack:=by rcases I.ok.stk with e|⟨e,hf⟩;rw[e];exact I.funs;rw[e];obtain⟨m,l,_⟩:=I.loc;refine .cons (by rw[I.ok.kind];decide) hf l ?_ I.funs;exact Heap.get?_none_of_le (aH I.ok.bsz I.ok.above)
theorem Inv.stkSub(I:Inv X pins σ H s):∀b∈frs X.stack,b∈X.env.locals::X.fs:=fun b hb=>by rcases I.ok.stk with e|⟨e,hf⟩;rw[e]at hb;exact bP _ hb;rw[e]at hb;unfold frs at hb;rw[cS,hf]at hb;exact hb
theorem Inv.stkFree(I:Inv X pins σ H s):∀b∈frs X.stack,H b=none:=fun b hb=>by rcases aq.mp (I.stkSub b hb) with e|hb;rw[e];exact I.free;obtain⟨_,o,l,_⟩:=I.ok.funs.mem hb;exact I.base.free b o l (I.ok.frf b hb) fun z=>I.ok.exfs b z hb
theorem Inv.step{g':Array GenState}{t':Nat}{d':Drawn}{ch:List ah}(I:Inv X pins σ H s)
  (G:∀b∈ch,(b∈X.ex\/X.s₀.heap.objs.size<=b)/\b≠X.env.locals/\(∀x c,X.env.cells.lookup x=some c->c≠b)/\∀p∈X.pn++pins,p.1≠b)
  (keep:∀b o,b≠X.env.locals->b∉X.fs->b∉ch->s.heap.get? b=some o->H b=none->h'.get? b=some o)
  (slot:∀b o,b≠X.env.locals->b∈X.fs->b∉ch->s.heap.get? b=some o->H b=none->∃sl,h'.get? b=some { o with slots:=sl }) (free:∀b o,b∉ch->s.heap.get? b=some o->H b=none->H' b=none)
  (there:∀b o,b∉ch->s.heap.get? b=some o->∃R,h'.get? b=some R)
  (tups:∀b xs,H b=some (.tup xs)->H' b=some (.tup xs)) (frzs:∀b o u,H b=some (.frz o u)->H' b=some (.frz o u)) (tbls:∀b q,H b=some (.tbl q)->H' b=some (.tbl q))
  (ns:∀m,s.heap.Ns X.env.locals m->h'.Ns X.env.locals m) (hok:HOk X.prog X.w H' h') (Z:ik g') :
  Inv X pins σ H' { s with heap:=h',gens:=g',drawn:=d',toks:=t' }:=by
 have N:∀b o,X.s₀.heap.get? b=some o->b≠X.env.locals:=fun b o e=>aN (au (ax e) I.ok.above);have J:∀b o,X.s₀.heap.get? b=some o->b∉X.ex->b∉ch:=fun b o e hx hb=>by rcases(G b hb).1 with z|z;exact hx z;exact absurd (au (ax e) z) (fA _)
 have cellK:∀x c,X.env.cells.lookup x=some c->∀v,s.heap.IsCell c v->h'.IsCell c v:=fun x c e v ⟨o,L,hd⟩=>by have C:c∉ch:=fun z=>(G c z).2.2.1 x c e rfl;by_cases hc:c∈X.fs;obtain⟨sl,q⟩:=slot c o (I.cne x c e) hc C L (I.freeC x c e);exact⟨_,q,hd⟩;exact⟨o,keep c o (I.cne x c e) hc C L (I.freeC x c e),hd⟩
 refine⟨I.ok,I.os,Z,⟨fun b o e n hb hx=>?_,fun b o e n hb hx=>?_,fun b o e n hx=>?_,fun b o e hx=>?_,fun b xs e=>tups b xs (I.base.tups b xs e),fun b o xs e=>frzs b o xs (I.base.frzs b o xs e),fun b ps e=>?_⟩,?_,fun x c e=>?_,?_,fun x c e=>?_,fun p Y=>?_,hok,I.len⟩;exact keep b o (N b o e) hb (J b o e hx) (I.base.keep b o e n hb hx) (I.base.free b o e n hx);obtain⟨sl,e1⟩:=I.base.slot b o e n hb hx;obtain⟨S,e2⟩:=slot b _ (N b o e) hb (J b o e hx) e1 (I.base.free b o e n hx);exact⟨S,e2⟩;obtain⟨R,e1⟩:=I.base.there b o e hx;exact free b R (J b o e hx) e1 (I.base.free b o e n hx);obtain⟨R,e1⟩:=I.base.there b o e hx;exact there b R (J b o e hx) e1;exact tbls b ps (I.base.tbls b ps e);obtain⟨m,hn,hl⟩:=I.loc;refine⟨m,ns m hn,fun i x v e1 e2 e3=>?_⟩;obtain⟨u,r,l⟩:=hl i x v e1 e2 e3;refine⟨u,r,?_⟩;rcases l with l|⟨k,c,e,z⟩;exact .inl l;exact .inr ⟨k,c,e,cellK x c e _ z⟩;obtain⟨v,z⟩:=I.cell x c e;exact⟨v,cellK x c e v z⟩;obtain⟨m,⟨o,_,_,L,_⟩,_⟩:=I.loc;exact free _ o (fun z=>(G _ z).2.1 rfl) L I.free;obtain⟨v,o,L,hd⟩:=I.cell x c e;exact free c o (fun z=>(G c z).2.2.1 x c e rfl) L (I.freeC x c e);obtain⟨e,n,ne,U,d⟩:=I.pin p Y;have C:p.1∉ch:=fun z=>(G p.1 z).2.2.2 p Y rfl;exact⟨keep p.1 p.2 ne U C e n,free p.1 p.2 C e n,ne,U,d⟩
theorem Inv.un{t':Nat}(I:Inv X pins σ H s)(u:Un X.fs [] H H' s.heap h')(hok:HOk X.prog X.w H' h'):Inv X pins σ H' { s with heap:=h',toks:=t' }:=by obtain⟨m,⟨o,N,S,C,r⟩,_⟩:=id I.loc;obtain⟨sl,J⟩:=u.any C I.free (by simp);exact I.step (g':=s.gens) (d':=s.drawn) (ch:=[]) (fun _ z=>nomatch z) (fun b o _ hb _ e n=>u.keep b o e n hb (by simp)) (fun b o _ hb _ e n=>u.slot b o e n hb (by simp)) (fun b o _ e n=>u.free b o e n (by simp)) (fun b o _ e=>u.there b o e (by simp)) u.tups u.frzs u.tbls (fun R G=>by obtain⟨U,v,x,l,L⟩:=G;rw[C]at l;cases l;exact⟨_,v,x,J,L⟩) hok I.bare
theorem Inv.call{g':Array GenState}{t':Nat}{d':Drawn}{ch:List ah}(I:Inv X pins σ H s)(u:Un (frs X.stack) ch H H' s.heap h')(hok:HOk X.prog X.w H' h')(S:ik g')
  (C:∀b∈ch,(b∈X.ex\/X.s₀.heap.objs.size<=b)/\b≠X.env.locals/\(∀x c,X.env.cells.lookup x=some c->c≠b)/\∀p∈X.pn++pins,p.1≠b) :
  Inv X pins σ H' { s with heap:=h',gens:=g',drawn:=d',toks:=t' }:=by
 obtain⟨m,⟨o,Y,ep,N,r⟩,_⟩:=id I.loc;obtain⟨sl,J⟩:=u.any N I.free fun z=>(C _ z).2.1 rfl;exact I.step (ch:=ch) C (fun b o J hb hc e n=>u.keep b o e n (fun z=>(aq.mp (I.stkSub b z)).elim J hb) hc) (fun b o _ _ hc e n=>u.any e n hc) (fun b o hc e n=>u.free b o e n hc) (fun b o hc e=>u.there b o e hc) u.tups u.frzs u.tbls (fun Z R=>by obtain⟨o',G,L,v,U⟩:=R;rw[N]at v;cases v;exact⟨_,G,L,J,U⟩) hok S
theorem Inv.turned{t':Nat}{it:ah}(I:Inv X pins σ H s)(k:∀b o,b≠it->s.heap.get? b=some o->h'.get? b=some o)(N:H it=none)(C:it≠X.env.locals)
  (Y:it∈X.ex\/X.s₀.heap.objs.size<=it) (S:∀x c,X.env.cells.lookup x=some c->c≠it) (L:∀p∈X.pn++pins,p.1≠it):Inv X pins σ H { s with heap:=h',toks:=t' }:=by
 have l:∀b u,H b=some u->b≠it:=fun b u e z=>by rw[z,N]at e;cases e
 refine I.step (g':=s.gens) (d':=s.drawn) (ch:=[it]) (fun b hb=>?_) (fun b o _ _ hc e _=>k b o (fun z=>hc (by simp[z])) e) (fun b o _ _ hc e _=>⟨o.slots,k b o (fun z=>hc (by simp[z])) e⟩) (fun _ _ _ _ n=>n)
  (fun b o hc e=>⟨o,k b o (fun z=>hc (by simp[z])) e⟩) (fun _ _ e=>e) (fun _ _ _ e=>e) (fun _ _ e=>e) (fun m J=>?_) (fun b u e=>?_) I.bare
 have e:b=it:=by simpa using hb
 subst e;exact⟨Y,C,S,L⟩;obtain⟨o,R,U,G,r⟩:=J;exact⟨o,R,U,k _ o (ip C) G,r⟩;refine(I.hok b u e).stay (fun c v hc q=>k c v ?_ q) (fun _ q=>q) (fun _ _ q=>q) fun _ _ _ q=>q;rcases hc with z|z;rw[z];exact l b u e;exact l c _ z
theorem Inv.tok(I:Inv X pins σ H s)(t:Nat):Inv X pins σ H { s with toks:=t }:=I.un (h':=s.heap) (t':=t) Un.refl I.hok
theorem Inv.kept{t':Nat}(I:Inv X pins σ H s)(k:∀b u,s.heap.get? b=some u->h'.get? b=some u):Inv X pins σ H { s with heap:=h',toks:=t' }:=I.un (Un.kept k) (I.hok.kept k)
theorem Inv.laid{a:ah}{o:HO}{t':Nat}(I:Inv X pins σ H s)(k:∀b u,s.heap.get? b=some u->h'.get? b=some u)(l:s.heap.objs.size<=a)(new:JE X.prog X.w (upd H a o) h' a o) :
  Inv X pins σ (upd H a o) { s with heap:=h',toks:=t' }:=I.un (Un.laid k l (I.hok.fresh l)) (I.hok.laid k l new)
theorem Inv.write{x e:ah}{o:HO}{t':Nat}(I:Inv X pins σ H s)(v:Mut (H x))(C:e=x\/H e=some (.own x))(k:∀b u,b≠e->s.heap.get? b=some u->h'.get? b=some u)(l:∃u,h'.get? e=some u)
  (new:JE X.prog X.w (upd H x o) h' x o):Inv X pins σ (upd H x o) { s with heap:=h',toks:=t' }:=I.un (Un.write v C k l) (I.hok.write v C k l new)
theorem Inv.weak{σ':List (Option V)}(I:Inv X pins σ H s)(o:σ'.length=σ.length)(w:∀(i:Nat) v,σ'[i]?=some (some v)->σ[i]?=some (some v)):Inv X pins σ' H s :=
 ⟨I.ok,I.os,I.bare,I.base,let ⟨m,hn,hl'⟩:=I.loc;⟨m,hn,fun i x v e1 e2 l=>hl' i x v e1 (w i v e2) l⟩,I.cell,I.free,I.freeC,I.pin,I.hok,o.trans I.len⟩
theorem Inv.pins_of{o:qO}(I:Inv X pins σ H s)(h:∀p∈o,s.heap.get? p.1=some p.2/\H p.1=none/\p.1≠X.env.locals/\p.1∉X.fs/\∀v,p.2.data≠.cell v):Inv X o σ H s :=
 ⟨I.ok,I.os,I.bare,I.base,I.loc,I.cell,I.free,I.freeC,fun p u=>(aD.mp u).elim (fun z=>I.pin p (k9 _ z)) (h p),I.hok,I.len⟩
theorem zih{N:List Str}(l:N.Nodup){i j:Nat}{x:Str}(a:N[i]?=some x)(b:N[j]?=some x):i=j:=by obtain⟨u,e1⟩:=aL.mp a;obtain⟨o,e2⟩:=aL.mp b;exact(List.getElem_inj l).mp (e1.trans e2.symm)
theorem zfQ{M:rH}{A:bu}{E:qV}{i:Nat}{x:Str}{v:V}{u:af}{Q:Unit->ak->Prop}(I:Inv X pins σ H s)(hN:X.N.Nodup)(hi:X.N[i]?=some x)(hx:Loc X.env.scope x)(r:RelV v u)
  (h:∀s',Inv X pins (σ.set i (some v)) H s'->(∃a,fN a s.heap s'.heap/\(a=X.env.locals\/X.env.cells.lookup x=some a))->Q () s') (hf:Fnl X x:=by walk_at "F"):wpAny M A (storeName X.env x u) Q E s:=by
 obtain⟨m,hn,hl⟩:=id I.loc;have L:(X.env.scope.kind == .class||(X.env.scope.kind == .module&&X.env.locals != X.env.globals))=false:=by rw[I.ok.kind];rfl
 have G:i<σ.length:=by rw[I.len];exact(aL.mp hi).1
 have cne:=I.cne;have tracked:∀{a:ah} {h':bt},(∃o,s.heap.get? a=some o/\H a=none)->fN a s.heap h'->HOk X.prog X.w H h':=fun {a h'} ha C b ob e=>by obtain⟨_,_,Hy⟩:=ha;refine(I.hok b ob e).stay (fun c Y hc q=>(C.2 c ?_).trans q) (fun _ q=>q) (fun _ _ q=>q) fun _ _ _ q=>q;rintro rfl;rcases hc with rfl|hc;rw[Hy]at e;cases e;rw[Hy]at hc;cases hc
 rcases hx with hk|hk;refine wpAny_storeName_local hk hn (fun h' Z C=>?_) L;obtain⟨oL,_,_,hoL,_⟩:=id hn;refine h _ ⟨I.ok,I.os,I.bare,⟨fun b o e n hb hx=>?_,fun b o e n hb hx=>?_,I.base.free,fun b o e hx=>?_,I.base.tups,I.base.frzs,I.base.tbls⟩,⟨_,Z,fun j y v' e1 e2 e3=>?_⟩,fun y c e=>?_,I.free,I.freeC,fun p hp=>?_,tracked ⟨oL,hoL,I.free⟩ C,by simpa using I.len⟩ ⟨_,C,.inl rfl⟩;exact(C.2 b (aN (au (ax e) I.ok.above))).trans (I.base.keep b o e n hb hx);obtain⟨sl,e1⟩:=I.base.slot b o e n hb hx;exact⟨sl,(C.2 b (aN (au (ax e) I.ok.above))).trans e1⟩;obtain⟨o',e1⟩:=I.base.there b o e hx;exact⟨o',(C.2 b (aN (au (ax e) I.ok.above))).trans e1⟩;by_cases hj:j=i;subst hj;rw[hi]at e1;cases e1;rw[eZ G]at e2;cases e2;exact⟨u,r,.inl ⟨hk,by simp⟩⟩;rw[bQ (ip hj)]at e2;obtain⟨u',r',q⟩:=hl j y v' e1 e2 e3;refine⟨u',r',?_⟩;rcases q with⟨k,e⟩|⟨k,c,e,z⟩;refine .inl ⟨k,?_⟩;have:y≠x:=fun e=>hj (zih hN e1 (e▸hi));simp[this,e];exact .inr ⟨k,c,e,z.sameBut C (cne y c e)⟩;obtain⟨Y,z⟩:=I.cell y c e;exact⟨Y,z.sameBut C (cne y c e)⟩;obtain⟨e,n,ne,nf,d⟩:=I.pin p hp;exact⟨(C.2 p.1 ne).trans e,n,ne,nf,d⟩;have J:X.fn x=true:=by rcases hf with z|z;exact z;rw[z]at hk;cases hk
 obtain⟨c,hc⟩:=I.ok.has x (.inl hk);obtain⟨Y,z⟩:=I.cell x c hc;refine wpAny_storeName_cell I.ok.kind hk hc z (fun h' N C=>?_);obtain⟨oc,S,R⟩:=id z;refine h { s with heap:=h' } ⟨I.ok,I.os,I.bare,⟨fun b o e n hb hx=>?_,fun b o e n hb hx=>?_,I.base.free,fun b o e hx=>?_,I.base.tups,I.base.frzs,I.base.tbls⟩,⟨m,hn.sameBut C (ip (cne x c hc)),fun j y v' e1 e2 e3=>?_⟩,fun y U e=>?_,I.free,I.freeC,fun p hp=>?_,tracked ⟨oc,S,I.freeC x c hc⟩ C,by simpa using I.len⟩ ⟨c,C,.inr hc⟩;exact(C.2 b (aN (au (ax e) (I.ok.cab x c J hc)))).trans (I.base.keep b o e n hb hx);obtain⟨sl,e1⟩:=I.base.slot b o e n hb hx;exact⟨sl,(C.2 b (aN (au (ax e) (I.ok.cab x c J hc)))).trans e1⟩;obtain⟨o',e1⟩:=I.base.there b o e hx;exact⟨o',(C.2 b (aN (au (ax e) (I.ok.cab x c J hc)))).trans e1⟩;by_cases hj:j=i;subst hj;rw[hi]at e1;cases e1;rw[eZ G]at e2;cases e2;exact⟨u,r,.inr ⟨.inl hk,c,hc,N⟩⟩;rw[bQ (ip hj)]at e2;obtain⟨u',r',q⟩:=hl j y v' e1 e2 e3;refine⟨u',r',?_⟩;rcases q with q|⟨k,U,e,z'⟩;exact .inl q;refine .inr ⟨k,U,e,z'.sameBut C ?_⟩;rintro rfl;exact hj (zih hN e1 (I.ok.inj _ _ _ e hc▸hi));by_cases hcc:U=c;subst hcc;exact⟨_,N⟩;obtain⟨w2,z2⟩:=I.cell y U e;exact⟨w2,z2.sameBut C hcc⟩;obtain⟨e,n,ne,nf,d⟩:=I.pin p hp;refine⟨(C.2 p.1 ?_).trans e,n,ne,nf,d⟩;intro q;rw[q,S]at e;have q':oc=p.2:=aQ e;exact d Y (by rw[<- q'];exact R)
theorem zeZ{M:rH}{A:bu}{E:qV}{i:Nat}{x:Str}{v:V}{u:af}{Q:Unit->ak->Prop}(I:Inv X pins σ H s)(o:X.N.Nodup)(hi:X.N[i]?=some x)(hx:Loc X.env.scope x)(r:RelV v u)
  (h:∀s',Inv X pins (σ.set i (some v)) H s'->Q () s') (hf:Fnl X x:=by walk_at "F"):wpAny M A (storeName X.env x u) Q E s :=
 zfQ I o hi hx r (fun s' l _=>h s' l) hf
theorem Inv.call'{s':ak}{ch:List ah}(I:Inv X pins σ H s)(o:s'.os=s.os)(u:Un (frs X.stack) ch H H' s.heap s'.heap)(hok:HOk X.prog X.w H' s'.heap)(v:ik s'.gens)
  (l:∀b∈ch,(b∈X.ex\/X.s₀.heap.objs.size<=b)/\b≠X.env.locals/\(∀x c,X.env.cells.lookup x=some c->c≠b)/\∀p∈X.pn++pins,p.1≠b):Inv X pins σ H' s':=by
 obtain⟨h',g',d',t',C⟩:=s';have e:C=s.os:=o;subst e;exact I.call (g':=g') (t':=t') (d':=d') u hok v l
end
abbrev XK:=af->Option ah->Hp->Prop
abbrev St:=List (Option V)
abbrev VK:=V->Hp->Prop
abbrev TE:=St->Hp->VK->Prop
abbrev TT:=St->Hp->(Bool->Hp->Prop)->Prop
abbrev TA:=St->Hp->(List V->Hp->Prop)->Prop
structure Ends where
 nx:St->Hp->Prop
 rt:VK
 bk:St->Hp->Prop:=fun _ _=>False
 ct:St->Hp->Prop:=fun _ _=>False
abbrev TS:=Ends->St->Hp->Prop
def EP(X:Cx)(pins:qO)(σ:St)(Q:VK)(u:af)(s':ak):Prop:=∃v l,Inv X pins σ l s'/\RelV v u/\Q v l
def TP(X:Cx)(pins:qO)(σ:St)(Q:Bool->Hp->Prop)(b:Bool)(s':ak):Prop:=∃l,Inv X pins σ l s'/\Q b l
def AP(X:Cx)(pins:qO)(σ:St)(Q:List V->Hp->Prop)(us:List af)(s':ak):Prop:=∃o l,Inv X pins σ l s'/\Vals o us/\Q o l
def SP(X:Cx)(pins:qO)(D:Ends)(f:Flow)(s':ak):Prop :=
 match f with
 | .next=>∃σ' l,Inv X pins σ' l s'/\D.nx σ' l
 | .brk=>∃σ' l,Inv X pins σ' l s'/\D.bk σ' l
 | .cont=>∃σ' l,Inv X pins σ' l s'/\D.ct σ' l
 | .ret u=>∃v σ' l,Inv X pins σ' l s'/\RelV v u/\D.rt v l
def PE(X:Cx)(e:aO)(t:TE):Prop :=
 ∀(pins:qO) (s:ak) (σ:St) (H:Hp) (Q:VK),Inv X pins σ H s->t σ H Q->wpAny (model X.prog X.w) X.A (eval e X.env) (EP X pins σ Q) X.xe s
def PT(X:Cx)(e:aO)(t:TT):Prop :=
 ∀(pins:qO) (s:ak) (σ:St) (H:Hp) (Q:Bool->Hp->Prop),Inv X pins σ H s->t σ H Q->wpAny (model X.prog X.w) X.A (isTrue e X.env (eval e X.env)) (TP X pins σ Q) X.xe s
def PW(X:Cx)(e:aO)(t:TT):Prop :=
 ∀(whole:Sem af) (pins:qO) (s:ak) (σ:St) (H:Hp) (Q:Bool->Hp->Prop),Inv X pins σ H s->t σ H Q->wpAny (model X.prog X.w) X.A (isTrue e X.env whole) (TP X pins σ Q) X.xe s
theorem PW.pt{X:Cx}{e:aO}{t:TT}(h:PW X e t):PT X e t:=h _
def PA(X:Cx)(l:List aO)(t:TA):Prop :=
 ∀(pos:Pos) (pins:qO) (s:ak) (σ:St) (H:Hp) (Q:List V->Hp->Prop),Inv X pins σ H s->t σ H Q->wpAny (model X.prog X.w) X.A (spliced (backTo pos (starEach l X.env))) (AP X pins σ Q) X.xe s
def PS(X:Cx)(st:cN)(t:TS):Prop :=
 ∀(pins:qO) (s:ak) (σ:St) (H:Hp) (D:Ends),Inv X pins σ H s->t D σ H->wpAny (model X.prog X.w) X.A (exec st X.env) (SP X pins D) X.xe s
def PSs(X:Cx)(st:List cN)(t:TS):Prop :=
 ∀(pins:qO) (s:ak) (σ:St) (H:Hp) (D:Ends),Inv X pins σ H s->t D σ H->wpAny (model X.prog X.w) X.A (execs st X.env) (SP X pins D) X.xe s
theorem thn{α:Type}{t:Sem α}{Q l:α->ak->Prop}{M:rH}{A:bu}{E:qV}{s:ak}(h:wpAny M A t Q E s)(o:∀a s,Q a s->l a s):wpAny M A t l E s:=cH h o fun _ _ x=>x
section
variable{X:Cx}
def tVar(i:Nat):TE:=fun σ H Q=>∃v,σ[i]?=some (some v)/\Q v H
def tC(v:V):TE:=fun _ H Q=>Q v H
theorem Qg{i:Nat}{x:Str}{pos:Pos}(U:X.N[i]?=some x)(R:Vis X.env.scope x)(hd:Ndb x:=by decide)(G:Ncd x:=by decide):PE X (.Name x pos) (tVar i):=by intro pins s σ H Q I h;obtain⟨v,e,h⟩:=h;obtain⟨m,L,S⟩:=I.loc;obtain⟨u,r,l⟩:=S i x v U e R;have fin:EP X pins σ Q u s:=⟨v,H,I,r,h⟩;rcases l with⟨C,J⟩|⟨C,c,hc,o⟩;exact oh (lg I.ok.kind C L J fin) hd;rcases C with C|C;exact oh (lN I.ok.kind C hc o fin) hd;exact oh (wpAny_loadName_free I.ok.kind C hc o fin G) hd
theorem Jz{i j pos}:PE X (.Constant (.int i) j pos) (tC (.int i)):=fun _ _ _ H _ I h=>wpAny_Constant_int ⟨.int i,H,I.tok _,⟨_,rfl⟩,h⟩
theorem zt3{b j pos}:PE X (.Constant (.bool b) j pos) (tC (.bl b)):=fun _ _ _ H _ I h=>Constant_bool ⟨.bl b,H,I,rfl,h⟩
theorem zqG{j pos}:PE X (.Constant .none j pos) (tC .non):=fun _ _ _ H _ I h=>Constant_none ⟨.non,H,I,rfl,h⟩
theorem U2{x j pos}:PE X (.Constant (.str x) j pos) (tC (.str x)):=fun _ _ _ H _ I h=>Calls.Constant_str ⟨.str x,H,I.tok _,⟨_,rfl⟩,h⟩
def Gl(X:Cx)(x:Str):Prop:=X.env.kindOf x=some .globalImplicit
theorem zkj{E:qV}{pins:qO}{s:ak}{σ:St}{H:Hp}{x:Str}{u:af}{pos:Pos}{Q:qV}(I:Inv X pins σ H s)(o:Gl X x)(l:X.mg x=some u)(h:Q u s)
  (hd:Ndb x:=by decide):wpAny (model X.prog X.w) X.A (eval (.Name x pos) X.env) Q E s :=
 iB I.ok.kind o (Calls.loadGlobal_global (by rw[I.ok.glob];exact I.mod.glob.keeps I.bk) l h) hd
theorem UG{E:qV}{pins:qO}{s:ak}{σ:St}{H:Hp}{x:Str}{u:af}{pos:Pos}{Q:qV}(I:Inv X pins σ H s)(o:Gl X x)(l:X.mg x=none)(C:bootBuiltins x=some u)(h:Q u s)
  (v:x ≠ "__name__":=by decide) (hd:Ndb x:=by decide):wpAny (model X.prog X.w) X.A (eval (.Name x pos) X.env) Q E s:=by
 obtain⟨L,J,G⟩:=I.mod.blt;exact iB I.ok.kind o (Calls.loadGlobal_builtin (by rw[I.ok.glob];exact I.mod.glob.keeps I.bk) l (by rw[I.ok.blt];exact J.keeps I.bk) ((G x v).trans C) h) hd
theorem zoB{x:Str}{v:V}{u:af}{pos:Pos}(C:Gl X x)(l:X.mg x=none)(o:bootBuiltins x=some u)(r:RelV v u)(G:x ≠ "__name__":=by decide) (hd:Ndb x:=by decide):PE X (.Name x pos) (tC v) :=
 fun _ _ _ H _ I h=>UG I C l o ⟨v,H,I,r,h⟩ G hd
variable{a b:aO}{ta tb:TE}{pos:Pos}
variable{tA tB':TT}{rest:List aO}
def tAnd(t u:TT):TT:=fun σ H Q=>t σ H fun c l=>if c=true then u σ l Q else Q false l
def tOr(t u:TT):TT:=fun σ H Q=>t σ H fun c l=>if c=true then Q true l else u σ l Q
def tNot(t:TT):TT:=fun σ H Q=>t σ H fun c l=>Q (!c) l
theorem zjN(ha:PT X a tA):PW X (.BoolOp .And [a] pos) tA:=by
 intro u pins s σ H Q I h;refine isTrue_and (thn (ha pins s σ H Q I h) fun c s1 e=>?_);cases c with
 | true=>exact isTrue_and_nil e
 | false=>exact e
theorem znD(ha:PT X a tA):PW X (.BoolOp .Or [a] pos) tA:=by
 intro u pins s σ H Q I h;refine isTrue_or (thn (ha pins s σ H Q I h) fun c s1 e=>?_);cases c with
 | false=>exact isTrue_or_nil e
 | true=>exact e
theorem znE(ha:PT X a tA)(hb:PW X (.BoolOp .And (b::rest) pos) tB'):PW X (.BoolOp .And (a::b::rest) pos) (tAnd tA tB'):=by
 intro C pins s σ H Q I h;refine isTrue_and (thn (ha pins s σ H _ I h) fun c s1 u=>?_);obtain⟨x,v,q1⟩:=u;cases c with
 | true=>exact hb C pins s1 σ x Q v q1
 | false=>exact⟨x,v,q1⟩
theorem zqu(ha:PT X a tA)(hb:PW X (.BoolOp .Or (b::rest) pos) tB'):PW X (.BoolOp .Or (a::b::rest) pos) (tOr tA tB'):=by
 intro C pins s σ H Q I h;refine isTrue_or (thn (ha pins s σ H _ I h) fun c s1 u=>?_);obtain⟨x,v,q1⟩:=u;cases c with
 | true=>exact⟨x,v,q1⟩
 | false=>exact hb C pins s1 σ x Q v q1
theorem zqv(ha:PT X a tA):PT X (.UnaryOp .Not a pos) (tNot tA):=by intro pins s σ H Q I h;exact isTrue_not (ha pins s σ H (fun c l=>Q (!c) l) I h)
def ztj(ta tb:TE):TE:=fun σ H Q=>ta σ H fun x o=>∃c,x=.bl c/\if c=true then tb σ o Q else Q (.bl false) o
def tOrV(ta tb:TE):TE:=fun σ H Q=>ta σ H fun x o=>∃c,x=.bl c/\if c=true then Q (.bl true) o else tb σ o Q
def zth(ta:TE):TE:=fun σ H Q=>ta σ H fun x o=>∃c,x=.bl c/\Q (.bl (!c)) o
theorem zqE{op}{t:TE}(h:PE X a t):PE X (.BoolOp op [a] pos) t:=fun pins s σ H Q I hw=>BoolOp_one (h pins s σ H Q I hw)
theorem zqJ(ha:PE X a ta)(hb:PE X (.BoolOp .And (b::rest) pos) tb):PE X (.BoolOp .And (a::b::rest) pos) (ztj ta tb):=by
 intro pins s σ H Q I h;refine BoolOp_and (thn (ha pins s σ H _ I h) fun v s1 u=>?_);obtain⟨x,G,C,J,q1⟩:=u;obtain⟨c,rfl,q1⟩:=q1;cases J;refine cf ?_;cases c with
 | true=>exact hb pins s1 σ G Q C q1
 | false=>exact⟨.bl false,G,C,rfl,q1⟩
theorem zt2(ha:PE X a ta)(hb:PE X (.BoolOp .Or (b::rest) pos) tb):PE X (.BoolOp .Or (a::b::rest) pos) (tOrV ta tb):=by
 intro pins s σ H Q I h;refine BoolOp_or (thn (ha pins s σ H _ I h) fun v s1 u=>?_);obtain⟨x,G,C,J,q1⟩:=u;obtain⟨c,rfl,q1⟩:=q1;cases J;refine cf ?_;cases c with
 | false=>exact hb pins s1 σ G Q C q1
 | true=>exact⟨.bl true,G,C,rfl,q1⟩
theorem zqF(ha:PE X a ta):PE X (.UnaryOp .Not a pos) (zth ta):=by intro pins s σ H Q I h;refine UnaryOp_ (thn (ha pins s σ H _ I h) fun v s1 u=>?_);obtain⟨x,J,C,G,q1⟩:=u;obtain⟨c,rfl,q1⟩:=q1;cases G;exact not_of (cf ⟨.bl (!c),J,C,rfl,q1⟩)
def tIf(t:TT)(ta tb:TE):TE:=fun σ H Q=>t σ H fun c l=>if c=true then ta σ l Q else tb σ l Q
theorem zmn{c:aO}(hc:PT X c tA)(ha:PE X a ta)(hb:PE X b tb):PE X (.IfExp c a b pos) (tIf tA ta tb):=by
 intro pins s σ H Q I h;refine wpAny_IfExp (thn (hc pins s σ H _ I h) fun d s1 l=>?_);obtain⟨u,o,q1⟩:=l;cases d with
 | true=>exact ha pins s1 σ u Q o q1
 | false=>exact hb pins s1 σ u Q o q1
end
def SqL(K:qF)(H:Hp)(a:ah)(xs:List V):Prop :=
 Rd H a (.lst xs) \/
  ∃(o:Obj) (u:Array af) (n:Nat),K.lookup a=some o/\o.cls=.type "list" /\ o.dict=none/\o.data=.seq u n/\u.size<=sizeLine/\Vals xs u.toList
def SqT(K:qF)(H:Hp)(a:ah)(xs:List V):Prop :=
 Rd H a (.tup xs) \/
  ∃(o:Obj) (l:Array af) (n:Nat),K.lookup a=some o/\o.cls=.type "tuple" /\ o.data=.seq l n/\l.size<=sizeLine/\Vals xs l.toList
def absV:af->Option V
 | .none=>some .non
 | .bool b=>some (.bl b)
 | .int i _=>some (.int i)
 | .str x _=>some (.str x)
 | .bytes b _=>some (.byt b)
 | .float b _=>some (.flt b)
 | .ref a=>some (.ref a)
 | .type n=>some (.ty n)
 | _=>none
theorem RelV.abs{x:V}{u:af}(r:RelV x u):absV u=some x:=by
 cases x with
 | non=>cases r;rfl
 | bl _=>cases r;rfl
 | int _=>obtain⟨t,rfl⟩:=r;rfl
 | str _=>obtain⟨t,rfl⟩:=r;rfl
 | byt _=>obtain⟨t,rfl⟩:=r;rfl
 | flt _=>obtain⟨t,rfl⟩:=r;rfl
 | ref _=>cases r;rfl
 | ty _=>cases r;rfl
theorem RelV.inj{x y:V}{u:af}(r:RelV x u)(q:RelV y u):x=y:=aQ (r.abs.symm.trans q.abs)
theorem Vals.inj{xs l:List V}{us:List af}(h:Vals xs us)(k:Vals l us):xs=l:=by
 induction h generalizing l with
 | nil=>cases k;rfl
 | cons r t o =>
  cases k with
  | cons u t'=>rw[r.inj u,o t']
section
variable{X:Cx}{pins:qO}{σ:St}{H:Hp}{s:ak}{a:ah}{xs ys:List V}
theorem SqL.of{K:qF}(h:H a=some (.lst xs)):SqL K H a xs:=.inl (.inl h)
theorem Inv.list(I:Inv X pins σ H s)(h:SqL X.K H a xs):∃l:List af,Vals xs l/\PlainL s.heap a l.toArray/\xs.length<=sizeLine:=by rcases h with h|⟨o,l,n,v,hc,hd,u,x,r⟩;obtain⟨z,l,n,r,e⟩:=h.ok I.hok;exact⟨l,r,⟨_,n,e,rfl,rfl,rfl⟩,z⟩;refine⟨l.toList,r,⟨o,n,I.kIn a o v,hc,hd,by simpa using u⟩,?_⟩;have e:=r.length;simp only[aP]at e;lia
theorem Inv.tuple(I:Inv X pins σ H s)(h:SqT X.K H a xs):∃l:List af,Vals xs l/\og s.heap a l.toArray/\xs.length<=sizeLine:=by rcases h with h|⟨o,l,n,v,hc,u,x,r⟩;obtain⟨z,l,r,p⟩:=h.ok I.hok;exact⟨l,r,p.tup,z⟩;refine⟨l.toList,r,⟨o,I.kIn a o v,hc,n,by simpa using u⟩,?_⟩;have e:=r.length;simp only[aP]at e;lia
theorem Inv.list_inj(I:Inv X pins σ H s)(h:SqL X.K H a xs)(h':SqL X.K H a ys):xs=ys:=by
 obtain⟨l,r,⟨o,n,e,_,_,d⟩,_⟩:=I.list h;obtain⟨its',v,⟨C,x,u,_,_,d'⟩,_⟩:=I.list h';rw[e]at u;cases u;rw[d]at d';injection d' with d1 _
 have:l=its':=by simpa using congrArg sh d1
 subst this;exact r.inj v
theorem Inv.tuple_inj(I:Inv X pins σ H s)(h:SqT X.K H a xs)(h':SqT X.K H a ys):xs=ys:=by
 obtain⟨l,r,⟨o,e,_,n,d⟩,_⟩:=I.tuple h;obtain⟨its',v,⟨C,u,_,x,d'⟩,_⟩:=I.tuple h';rw[e]at u;cases u;rw[d]at d';injection d' with d1 _
 have:l=its':=by simpa using congrArg sh d1
 subst this;exact r.inj v
end
abbrev Cx.wish(X:Cx)(E:qV):Cx:={ X with xe:=E }
abbrev Cx.nox(X:Cx):Cx:=X.wish fun _ _=>False
theorem Cx.Ok.wish{X:Cx}(ok:X.Ok)(E:qV):(X.wish E).Ok :=
 ⟨ok.mod,ok.kind,ok.glob,ok.blt,ok.above,ok.inj,ok.has,ok.cab,ok.hd,ok.frames,ok.stk,ok.exf,ok.bs,ok.bsz,ok.noex,ok.exfs,ok.funs,ok.frf⟩
theorem Cx.Ok.unwish{X:Cx}{E:qV}(ok:(X.wish E).Ok):X.Ok :=
 ⟨ok.mod,ok.kind,ok.glob,ok.blt,ok.above,ok.inj,ok.has,ok.cab,ok.hd,ok.frames,ok.stk,ok.exf,ok.bs,ok.bsz,ok.noex,ok.exfs,ok.funs,ok.frf⟩
section
variable{X:Cx}{pins:qO}{σ:St}{H:Hp}{s:ak}{E:qV}
theorem Inv.wish(I:Inv X pins σ H s)(E:qV):Inv (X.wish E) pins σ H s:=⟨I.ok.wish E,I.os,I.bare,I.base,I.loc,I.cell,I.free,I.freeC,I.pin,I.hok,I.len⟩
theorem Inv.unwish(I:Inv (X.wish E) pins σ H s):Inv X pins σ H s:=⟨I.ok.unwish,I.os,I.bare,I.base,I.loc,I.cell,I.free,I.freeC,I.pin,I.hok,I.len⟩
theorem SP.unwish{D:Ends}{f:Flow}{s':ak}(h:SP (X.wish E) pins D f s'):SP X pins D f s':=by
 cases f with
 | next=>obtain⟨σ',l,I,q⟩:=h;exact⟨σ',l,I.unwish,q⟩
 | brk=>obtain⟨σ',l,I,q⟩:=h;exact⟨σ',l,I.unwish,q⟩
 | cont=>obtain⟨σ',l,I,q⟩:=h;exact⟨σ',l,I.unwish,q⟩
 | ret u=>obtain⟨v,σ',l,I,r,q⟩:=h;exact⟨v,σ',l,I.unwish,r,q⟩
theorem PSs.nox{st:List cN}{t:TS}(h:PSs X.nox st t):PSs X st t:=fun pins s σ H D I hw =>
 cH (h pins s σ H D (I.wish _) hw) (fun _ _ q=>q.unwish) fun _ _ z=>c9 z
end
section
variable{X:Cx}{st:cN}{rest:List cN}{t u:TS}{e:aO}{te:TE}{pos:Pos}
def zti:TS:=fun D σ H=>D.nx σ H
def tSeq(t u:TS):TS:=fun D σ H=>t { D with nx:=u D } σ H
theorem Vg:PSs X [] zti:=fun _ _ σ H _ I h=>g9 ⟨σ,H,I,h⟩
theorem J4(C:PS X st t)(o:PSs X rest u):PSs X (st::rest) (tSeq t u):=by
 intro pins s σ H D I h;refine m7 (thn (C pins s σ H { D with nx:=u D } I h) fun f s1 q=>?_);cases f with
 | next =>obtain⟨σ',x,l,q⟩:=q;exact o pins s1 σ' x D l q
 | ret v=>exact q
 | brk=>exact q
 | cont=>exact q
theorem U6(l:PS X st t):PSs X [st] t:=by
 intro pins s σ H D I h;refine m7 (thn (l pins s σ H D I h) fun f s1 q=>?_);cases f with
 | next=>exact g9 q
 | ret v=>exact q
 | brk=>exact q
 | cont=>exact q
theorem Inv.quiet{pins:qO}{σ:St}{H:Hp}{s:ak}(I:Inv X pins σ H s):interactive X.env=false:=by simp[interactive,I.ok.kind]
def zp1(te:TE):TS:=fun D σ H=>te σ H fun _ l=>D.nx σ l
theorem zg9(C:PE X e te)(l:swapsWith e none pos.line X.env=pure false:=by rfl):PS X (.Expr e pos) (zp1 te):=by intro pins s σ H D I h;exact wpAny_Expr_any (thn (C pins s σ H _ I h) fun v s1 ⟨x,G,o,J,q1⟩=>⟨σ,G,o,q1⟩) I.quiet l
def tRet(te:TE):TS:=fun D σ H=>te σ H D.rt
theorem ZX(o:PE X e te):PS X (.Return (some e) pos) (tRet te):=by intro pins s σ H D I h;exact wpAny_Return_some (thn (o pins s σ H _ I h) fun v s1 ⟨x,G,l,C,q1⟩=>⟨x,σ,G,l,C,q1⟩)
def tIfS(c:TT)(t u:TS):TS:=fun D σ H=>c σ H fun b l=>if b=true then t D σ l else u D σ l
theorem Zy{c:aO}{a b:List cN}{x:TT}(hc:PT X c x)(ha:PSs X a t)(hb:PSs X b u):PS X (.If c a b pos) (tIfS x t u):=by
 intro pins s σ H D I h;refine wpAny_If (thn (hc pins s σ H _ I h) fun d s1 l=>?_);obtain⟨v,o,q1⟩:=l;cases d with
 | true=>exact ha pins s1 σ v D o q1
 | false=>exact hb pins s1 σ v D o q1
def zno:TS:=fun _ _ _=>False
theorem zmg:PS X st zno:=fun _ _ _ _ _ _ h=>h.elim
theorem zjP{sts:List cN}:PSs X sts zno:=fun _ _ _ _ _ _ h=>h.elim
end
abbrev TG:=V->St->Hp->(St->Hp->Prop)->Prop
abbrev TGs:=List V->St->Hp->(St->Hp->Prop)->Prop
def PG(X:Cx)(target:aO)(t:TG):Prop :=
 ∀(pins:qO) (s:ak) (σ:St) (H:Hp) (v:V) (u:af) (Q:St->Hp->Prop),Inv X pins σ H s->RelV v u->t v σ H Q ->
  wpAny (model X.prog X.w) X.A (assign target X.env u) (fun _ s'=>∃σ' l,Inv X pins σ' l s'/\Q σ' l) X.xe s
def PGs(X:Cx)(ts:List aO)(t:TGs):Prop :=
 ∀(pins:qO) (s:ak) (σ:St) (H:Hp) (o:List V) (us:List af) (Q:St->Hp->Prop),Inv X pins σ H s->Vals o us->t o σ H Q ->
  wpAny (model X.prog X.w) X.A (assignInOrder ((assignEach ts X.env).map (·.2)) us) (fun _ s'=>∃σ' l,Inv X pins σ' l s'/\Q σ' l) X.xe s
abbrev TSet:=V->V->V->Hp->(Hp->Prop)->Prop
def PSet(X:Cx)(t:TSet):Prop :=
 ∀(pins:qO) (s:ak) (σ:St) (H:Hp) (o i v:V) (l C u:af) (Q:Hp->Prop),Inv X pins σ H s->RelV o l->RelV i C->RelV v u->t o i v H Q ->
  wpAny (model X.prog X.w) X.A (setItem l C u) (fun _ s'=>∃x,Inv X pins σ x s'/\Q x) X.xe s
abbrev TIp:=V->V->Hp->VK->Prop
def PIp(X:Cx)(op:oi)(t:TIp):Prop :=
 ∀(pins:qO) (s:ak) (σ:St) (H:Hp) (x y:V) (v u:af) (Q:VK),Inv X pins σ H s->RelV x v->RelV y u->t x y H Q ->
  wpAny (model X.prog X.w) X.A (inplaceOp op v u) (EP X pins σ Q) X.xe s
section
variable{X:Cx}{pos:Pos}
def QH(i:Nat):TG:=fun v σ H Q=>Q (σ.set i (some v)) H
theorem zha{i:Nat}{x:Str}(o:X.N.Nodup)(hi:X.N[i]?=some x)(hx:Loc X.env.scope x)(hf:Fnl X x:=by walk_at "F"):PG X (.Name x pos) (QH i):=by intro pins s σ H v u Q I r h;exact mD (zeZ I o hi hx r (fun s' l=>⟨_,H,l,h⟩) hf)
def gNil:TGs:=fun l σ H Q=>l=[]/\Q σ H
def zuS(t:TG)(u:TGs):TGs:=fun o σ H Q=>∃v r,o=v::r/\t v σ H fun σ' l=>u r σ' l Q
theorem zjX:PGs X [] gNil:=by intro pins s σ H l us Q I r h;obtain⟨e,h⟩:=h;subst e;cases r;exact assignInOrder_nil ⟨σ,H,I,h⟩
theorem zfd{e:aO}{l:List aO}{t:TG}{u:TGs}(R:PG X e t)(N:PGs X l u)
  (J:(assignEach (e::l) X.env).map (·.2)=assign e X.env::(assignEach l X.env).map (·.2):=by rfl):PGs X (e::l) (zuS t u):=by
 intro pins s σ H S us Q I r h;obtain⟨v,U,e1,h⟩:=h;subst e1;cases r with
 | cons r L =>rw[J];refine assignInOrder_cons (thn (R pins s σ H _ _ _ I r h) fun _ s1 o=>?_);obtain⟨x,G,C,q1⟩:=o;exact N pins s1 x G _ _ Q C L q1
def gTup(K:qF)(n:Nat)(t:TGs):TG:=fun v σ H Q=>∃a xs,v=.ref a/\SqT K H a xs/\xs.length=n/\t xs σ H Q
theorem zqC{C:List aO}{k:Nat}{t:TGs}{n:Nat}(hc:X.calm=true)(h:PGs X C t)
  (R:(assignEach C X.env).length=n:=by rfl) (G:(assignEach C X.env).findIdx? (·.1)=none:=by rfl):PG X (.Tuple C k pos) (gTup X.K n t):=by
 intro pins s σ H v u Q I r hw;obtain⟨a,xs,e1,Y,S,hw⟩:=hw;subst e1;cases r;obtain⟨U,J,L,Z⟩:=I.tuple Y;refine assign_Tuple_tuple (I.ok.hd hc) L (by simp[R,<- S,J.length]) G fun h' hx=>?_;have N:Inv X pins σ H { s with heap:=h' }:=I.kept (t':=s.toks) fun b o e=>hx b o (aN (ax e)) e;exact h pins _ σ H xs _ Q N (by simpa using J) hw
def gSub(to ti:TE)(t:TSet):TG:=fun v σ H Q=>to σ H fun o x=>ti σ x fun i l=>t o i v l fun u=>Q σ u
theorem znG{o i:aO}{to ti:TE}{t:TSet}(J:PE X o to)(hi:PE X i ti)(hs:PSet X t)
  (ha:∀v,assign (.Subscript o i pos) X.env v=(do
   let C <- holding [v] (eval o X.env);let G <- holding [v,C] (eval i X.env)
   standAt pos
   holding [v,C,G] (setItem C G v)
   release [v,C,G] []):=by intro _;rfl):PG X (.Subscript o i pos) (gSub to ti t):=by
 intro pins s σ H v u Q I r h;rw[ha];refine ab (cE (thn (J pins s σ H _ I h) fun C s1 l=>?_));obtain⟨x,N,L,Y,q1⟩:=l;refine ab (cE (thn (hi pins s1 σ N _ L q1) fun G s2 l=>?_));obtain⟨y,H2,I2,r2,q2⟩:=l;refine ab (dU (ab (cE (thn (hs pins s2 σ H2 x y v C G u _ I2 Y r2 r q2) fun _ s3 l=>?_))));obtain⟨U,Z,R⟩:=l;exact wpAny_release ⟨σ,U,Z,R⟩
def tAsg(l:TE)(g:TG):TS:=fun D σ H=>l σ H fun x o=>g x σ o D.nx
theorem U3{tg e:aO}{l:TE}{g:TG}(L:PE X e l)(C:PG X tg g)(J:swapsWithSole [tg] e pos.line X.env=pure false:=by rfl)(hw:swappedStores [tg] e X.env=pure none:=by rfl)
  (N:(assignEach [tg] X.env).map (·.2)=[assign tg X.env]:=by rfl):PS X (.Assign [tg] e pos) (tAsg l g):=by
 intro pins s σ H D I h;refine wpAny_Assign_stores (thn (L pins s σ H _ I h) fun v s1 ⟨x,u,o,G,q1⟩=>?_) J hw;rw[N];exact thn (C pins s1 σ u x v _ o G q1) fun _ s2 q=>q
theorem QD{i:Nat}{x:Str}{e:aO}{l:TE}{pos':Pos}(G:X.N.Nodup)(hi:X.N[i]?=some x)(hx:Loc X.env.scope x)(L:PE X e l)(J:swapsWith e (some (.Name x pos')) pos.line X.env=pure false:=by rfl)(hf:Fnl X x:=by walk_at "F") :
  PS X (.Assign [.Name x pos'] e pos) (tAsg l (QH i)):=by
 intro pins s σ H D I h;refine wpAny_Assign_Name (thn (L pins s σ H _ I h) fun v s1 ⟨y,u,o,C,q1⟩=>?_) J;exact zeZ o G hi hx C (fun s2 R=>⟨_,u,R,q1⟩) hf
def tAug(i:Nat)(l:TE)(ti:TIp):TS:=fun D σ H=>∃x,σ[i]?=some (some x)/\l σ H fun y u=>ti x y u fun z o=>D.nx (σ.set i (some z)) o
theorem zqw{i:Nat}{x:Str}{e:aO}{S:TE}{op:oi}{ti:TIp}{pos':Pos}(hN:X.N.Nodup)(hi:X.N[i]?=some x)(hx:Loc X.env.scope x)(he:PE X e S)(U:PIp X op ti)(hf:Fnl X x:=by walk_at "F") :
  PS X (.AugAssign (.Name x pos') op e pos) (tAug i S ti):=by
 intro pins s σ H D I h;obtain⟨v,e1,h⟩:=h;obtain⟨m,hn,hl⟩:=I.loc;have R:Vis X.env.scope x:=by rcases hx with k|k;exact .inl k;exact .inr (.inl k)
 obtain⟨u,r,l⟩:=hl i x v hi e1 R;refine wpAny_AugAssign_Name ?_;have go:wpAny (model X.prog X.w) X.A (eval e X.env) (fun w J=>wpAny (model X.prog X.w) X.A (inplaceOp op u w) (fun r L=>wpAny (model X.prog X.w) X.A (storeName X.env x r) (fun _=>SP X pins D .next) X.xe L) X.xe J) X.xe s:=by refine thn (he pins s σ H _ I h) fun w s1 G=>?_;obtain⟨y,H1,Z,r1,q1⟩:=G;refine thn (U pins s1 σ H1 v y u w _ Z r r1 q1) fun z s2 G=>?_;obtain⟨zv,H2,I2,r2,q2⟩:=G;exact zeZ I2 hN hi hx r2 (fun s3 I3=>⟨_,H2,I3,q2⟩) hf
 rcases l with⟨o,Y⟩|⟨o,c,hc,C⟩;exact lg I.ok.kind o hn Y go;rcases o with o|o;exact lN I.ok.kind o hc C go;rcases hx with k|k;have:X.env.scope.names.lookup x=some .free:=o;rw[k]at this;cases this;have:X.env.scope.names.lookup x=some .free:=o;rw[k]at this;cases this
def ipI(f:Int->Int->Int):TIp:=fun x y H Q=>∃i j,x=.int i/\y=.int j/\Q (.int (f i j)) H
theorem znN:PIp X .Add (ipI fun i j=>i+j):=by intro pins s σ H x y v u Q I l o h;obtain⟨i,j,e1,e2,q⟩:=h;subst e1;subst e2;obtain⟨t,rfl⟩:=l;obtain⟨t',rfl⟩:=o;exact iadd_int ⟨.int _,H,I.tok _,⟨_,rfl⟩,q⟩
end
section
variable{X:Cx}{pos:Pos}
def zpZ(c:TT)(v:TS):TS:=fun D σ H=>∃W:Nat->St->Hp->Prop,(∃m,W m σ H)/\∀m σ H,W m σ H ->
 c σ H fun b o=>if b=true then ∃N:St->Hp->Prop,(∀σ' u,N σ' u->∃l,l<m/\W l σ' u)/\v { D with nx:=N,ct:=N,bk:=D.nx } σ o else D.nx σ o
theorem zmf{c:aO}{body:List cN}{tc:TT}{tb:TS}(hp:kf (model X.prog X.w) X.A X.env X.xe)(hc:PT X c tc)(hb:PSs X body tb):PS X (.While c body [] pos) (zpZ tc tb):=by
 intro pins s σ H D I h;obtain⟨W,⟨m0,w0⟩,turn⟩:=h;refine wpAny_While (codeAny_whileLoop (fun n s'=>∃σ' H',Inv X pins σ' H' s'/\W n σ' H') ?_ m0 ⟨σ,H,I,w0⟩);rintro n s1 ⟨u,Y,I1,w1⟩;refine eD hp (thn (hc pins s1 u Y _ I1 (turn n u Y w1)) fun b s2 R=>?_);obtain⟨H2,I2,q2⟩:=R;cases b with
 | true =>
  obtain⟨N,Z,q2⟩:=q2;rw[if_pos rfl];refine eD hp (thn (hb pins s2 u H2 _ I2 q2) fun f s3 C=>?_);cases f with
  | next =>obtain⟨o,x,L,J⟩:=C;obtain⟨S,G,U⟩:=Z o x J;exact⟨S,G,o,x,L,U⟩
  | cont =>obtain⟨o,x,L,J⟩:=C;obtain⟨S,G,U⟩:=Z o x J;exact⟨S,G,o,x,L,U⟩
  | brk=>exact C
  | ret v=>exact C
 | false =>rw[if_neg aW];exact g9 ⟨u,H2,I2,q2⟩
end
structure It where
 go:Nat->Hp->Prop
 yld:Nat->Hp->V->Hp->Prop
 stop:Nat->Hp->Prop
def FpOk(X:Cx)(pins:qO)(H:Hp)(b:ah):Prop :=
 H b=none/\b≠X.env.locals/\b∉X.fs/\(b∈X.ex\/X.s₀.heap.objs.size<=b)/\(∀x c,X.env.cells.lookup x=some c->c≠b)/\∀p∈X.pn++pins,p.1≠b
theorem Inv.fpOk{X:Cx}{pins:qO}{σ:St}{H l:Hp}{s:ak}{b:ah}(I:Inv X pins σ H s)(hb:s.heap.objs.size<=b)(u:l b=none):FpOk X pins l b:=by refine⟨u,kH (au I.lt hb),I.nofs hb,.inr (aH I.sz hb),fun x c e z=>?_,fun p o z=>?_⟩;obtain⟨v,q⟩:=I.cell x c e;exact absurd (au q.lt (by rw[z];exact hb)) (fA _);exact absurd (au (ax (I.pin p o).1) (by rw[z];exact hb)) (fA _)
structure Turn(P:aI)(w:aT)(K:qF)(tg:aO)(J:It)(fp:List ah)(it:ah)(tn:Nat->bt->Prop):Prop where
 mem:it∈fp
 obj:∀i h,tn i h->∀b∈fp,∃o,h.get? b=some o/\∀v,o.data≠.cell v
 keep:∀i h h',tn i h->(∀b∈fp,∀o,h.get? b=some o->h'.get? b=some o)->tn i h'
 item:∀(X:Cx),X.prog=P->X.w=w->X.K=K->X.calm=true->∀(i:Nat) (pins:qO) (s:ak) (σ:St) (H:Hp) (E:qV),Inv X pins σ H s->(∀b∈fp,FpOk X pins H b)->tn i s.heap->J.go i H ->
  wpAny (model P w) X.A (pyNext (.ref it)) (fun r s1=>∃u,r=some u /\
   wpAny (model P w) X.A (letOwnedTupleGo tg (.ref it) u) (fun _ s2=>∃x H',Inv X pins σ H' s2/\RelV x u/\J.yld i H x H'/\tn (i+1) s2.heap/\∀b∈fp,H' b=none) E s1) E s
 done:∀(X:Cx),X.prog=P->X.w=w->X.K=K->X.calm=true->∀(i:Nat) (pins:qO) (s:ak) (σ:St) (H:Hp) (E:qV),Inv X pins σ H s->(∀b∈fp,FpOk X pins H b)->tn i s.heap->J.stop i H ->
  wpAny (model P w) X.A (pyNext (.ref it)) (fun r s1=>r=none/\Inv X pins σ H s1) E s
 self:∀(A:bu) (i:Nat) (s:ak) (Q:qV) (E:qV),tn i s.heap->Q (.ref it) s->wpAny (model P w) A (pyIter (.ref it)) Q E s
abbrev TI:=St->Hp->(It->Hp->Prop)->Prop
def PIE(X:Cx)(pins:qO)(σ:St)(tg:aO)(R:It->Hp->Prop)(l:af)(s2:ak):Prop :=
 ∃(it:ah) (v:List ah) (u:Nat->bt->Prop) (J:It) (o:Hp),l=.ref it/\Inv X pins σ o s2/\Turn X.prog X.w X.K tg J v it u/\u 0 s2.heap/\(∀b∈v,FpOk X pins o b)/\R J o
def PI(X:Cx)(tg iter:aO)(l:TI):Prop :=
 ∀(pins:qO) (s:ak) (σ:St) (H:Hp) (R:It->Hp->Prop),Inv X pins σ H s->l σ H R ->
  wpAny (model X.prog X.w) X.A (eval iter X.env) (fun v s1=>wpAny (model X.prog X.w) X.A (pyIter v) (PIE X pins σ tg R) X.xe s1) X.xe s
theorem YC{M:rH}{A:bu}{E:qV}{s:ak}{tg:aO}{it:ah}{u:af}{o:Obj}{n:String}{x:Array af}{Q:Unit->ak->Prop}(C:s.heap.get? it=some o)(hc:o.cls=.type n)(hd:o.data=.fields x)
  (G:["enumerate","zip","dict_itemiterator","dict_reverseitemiterator","odict_iterator","itertools.zip_longest","itertools.pairwise"].contains n=false) (v:Q () s):wpAny M A (letOwnedTupleGo tg (.ref it) u) Q E s:=by
 unfold letOwnedTupleGo;cases tg <;> first
  | exact aj v
  | (cases u <;> first
    | exact aj v
    | (refine ab (wpAny_load C ?_)
       rw[hc,hd];show wpAny M A (if (["enumerate","zip","dict_itemiterator","dict_reverseitemiterator","odict_iterator","itertools.zip_longest","itertools.pairwise"].contains n&&x[0]? == some (rawInt _))=true then _ else _) Q E s;rw[if_neg (by intro h;rw[G,dW]at h;cases h)];exact aj v))
def Itl(K:qF)(a:ah):It :=
 ⟨fun i H=>∃xs x,SqL K H a xs/\xs[i]?=some x,fun i H x l=>l=H/\∀xs,SqL K H a xs->xs[i]?=some x,fun i H=>∃xs,SqL K H a xs/\xs.length<=i⟩
def Itt(K:qF)(a:ah):It :=
 ⟨fun i H=>∃xs x,SqT K H a xs/\xs[i]?=some x,fun i H x l=>l=H/\∀xs,SqT K H a xs->xs[i]?=some x,fun i H=>∃xs,SqT K H a xs/\xs.length<=i⟩
def Itr(lo:Int)(n:Nat):It:=⟨fun i _=>i<n,fun i H x l=>l=H/\x=.int (lo+i),fun i _=>n<=i⟩
theorem zjj{P:aI}{w:aT}{K:qF}{tg:aO}(a it:ah):Turn P w K tg (Itl K a) [it] it (fun i h=>h.IsListIter it a i) where
 mem:=by simp
 obj:=fun i h st b hb=>by
  have e:b=it:=by simpa using hb
  subst e;obtain⟨o,e,c,d⟩:=st;exact⟨o,e,fun v z=>by rw[d]at z;cases z⟩
 keep:=fun i h h' st k=>st.at fun o e=>k it (by simp) o e
 item:=by intro X G hw U hc i pins s σ H E I hf st L;subst G hw U;obtain⟨xs,x,C,hx⟩:=L;obtain⟨R,J,p,hz⟩:=I.list C;obtain⟨u,hu,ru⟩:=J.get hx;obtain⟨f0,f1,f2,N,f4,S⟩:=hf it (by simp);refine wpAny_pyNext_list_item st p.isList (x:=u) (by simpa using hu) fun h' l sb=>?_;have Y:Inv X pins σ H { s with heap:=h' }:=I.turned (t':=s.toks) (fun b o hb e=>(sb.2 b hb).trans e) f0 f1 N f4 S;obtain⟨o,e,c,d⟩:=id l;exact⟨u,rfl,YC (s:={ s with heap:=h' }) e c d (by decide) ⟨x,H,Y,ru,⟨rfl,fun ys Z=>by rw[I.list_inj Z C];exact hx⟩,l,fun b hb=>(hf b hb).1⟩⟩
 done:=by intro X G hw U hc i pins s σ H E I hf st L;subst G hw U;obtain⟨xs,C,hx⟩:=L;obtain⟨R,J,p,hz⟩:=I.list C;obtain⟨f0,f1,f2,N,f4,S⟩:=hf it (by simp);have hl:=J.length;exact wpAny_pyNext_list_end (I.ok.hd hc) st p.isList (by simp;lia) fun h' eb=>⟨rfl,I.turned (t':=s.toks) (fun b o hb e=>eb b o hb e) f0 f1 N f4 S⟩
 self:=fun _ _ _ _ _ st h=>wpAny_pyIter_listiter st h
theorem ziG{P:aI}{w:aT}{K:qF}{tg:aO}(a it:ah):Turn P w K tg (Itt K a) [it] it (fun i h=>h.IsTupleIter it a i) where
 mem:=by simp
 obj:=fun i h st b hb=>by
  have e:b=it:=by simpa using hb
  subst e;obtain⟨o,e,c,d⟩:=st;exact⟨o,e,fun v z=>by rw[d]at z;cases z⟩
 keep:=fun i h h' st k=>st.at fun o e=>k it (by simp) o e
 item:=by intro X J hw U hc i pins s σ H E I hf st N;subst J hw U;obtain⟨xs,x,G,hx⟩:=N;obtain⟨l,L,p,hz⟩:=I.tuple G;obtain⟨u,hu,ru⟩:=L.get hx;obtain⟨f0,f1,f2,R,f4,S⟩:=hf it (by simp);refine wpAny_pyNext_tuple_item st (show s.heap.IsTuple a l.toArray from p) (x:=u) (by simpa using hu) fun h' C sb=>?_;have Y:Inv X pins σ H { s with heap:=h' }:=I.turned (t':=s.toks) (fun b o hb e=>(sb.2 b hb).trans e) f0 f1 R f4 S;obtain⟨o,e,c,d⟩:=id C;exact⟨u,rfl,YC (s:={ s with heap:=h' }) e c d (by decide) ⟨x,H,Y,ru,⟨rfl,fun ys Z=>by rw[I.tuple_inj Z G];exact hx⟩,C,fun b hb=>(hf b hb).1⟩⟩
 done:=by intro X J hw U hc i pins s σ H E I hf st N;subst J hw U;obtain⟨xs,G,hx⟩:=N;obtain⟨l,L,p,hz⟩:=I.tuple G;obtain⟨f0,f1,f2,R,f4,S⟩:=hf it (by simp);have hl:=L.length;exact wpAny_pyNext_tuple_end (I.ok.hd hc) st (show s.heap.IsTuple a l.toArray from p) (by simp;lia) fun h' eb=>⟨rfl,I.turned (t':=s.toks) (fun b o hb e=>eb b o hb e) f0 f1 R f4 S⟩
 self:=fun _ _ _ _ _ st h=>wpAny_pyIter_tupleiter st h
theorem ziH{P:aI}{w:aT}{K:qF}{tg:aO}(it:ah)(lo:Int)(n:Nat):Turn P w K tg (Itr lo n) [it] it (fun i h=>lh h it (lo+(i:Nat)*1) ((n:Int) - (i:Nat)) 1) where
 mem:=by simp
 obj:=fun i h st b hb=>by
  have e:b=it:=by simpa using hb
  subst e;exact⟨_,st,fun v z=>by have S:uj _=xJ v:=z;cases S⟩
 keep:=fun i h h' st k=>k it (by simp) _ st
 item:=by intro X u hw J hc i pins s σ H E I hf st x;subst u hw J;obtain⟨f0,f1,f2,C,f4,G⟩:=hf it (by simp);have W:=uk (prog:=X.prog) (w:=X.w) (I.ok.hd hc) it lo 1 n;refine W.item i s _ _ x st fun v h' L U l N=>?_;obtain⟨t,rfl⟩:=U;have R:Inv X pins σ H { s with heap:=h',toks:=L }:=I.turned (fun b o hb e=>N b o (by simpa using hb) e) f0 f1 C f4 G;refine⟨_,rfl,YC (s:={ s with heap:=h',toks:=L }) (n:="range_iterator") l rfl rfl (by decide) ⟨.int (lo+i),H,R,⟨t,?_⟩,⟨rfl,rfl⟩,l,fun b hb=>(hf b hb).1⟩⟩;rw[Int.mul_one]
 done:=by intro X u hw J hc i pins s σ H E I hf st x;subst u hw J;obtain⟨f0,f1,f2,C,f4,G⟩:=hf it (by simp);exact kI (I.ok.hd hc) st (by have:n<=i:=x;lia) fun h' Y=>⟨rfl,I.turned (t':=s.toks) (fun b o hb e=>Y b o hb e) f0 f1 C f4 G⟩
 self:=fun _ _ _ _ _ st h=>kJ st h
section
variable{X:Cx}{tg:aO}
def zuO(K:qF)(o:TE):TI:=fun σ H R=>o σ H fun x l=>∃a,x=.ref a/\(∃xs,SqL K l a xs)/\R (Itl K a) l
def iTup(K:qF)(o:TE):TI:=fun σ H R=>o σ H fun x l=>∃a,x=.ref a/\(∃xs,SqT K l a xs)/\R (Itt K a) l
theorem zjW{l:aO}{G:TE}(L:PE X l G):PI X tg l (zuO X.K G):=by
 intro pins s σ H R I h;refine thn (L pins s σ H _ I h) fun v s1 C=>?_;obtain⟨x,J,u,N,q1⟩:=C;obtain⟨a,e,⟨xs,U⟩,q⟩:=q1;subst e;cases N;obtain⟨S,Y,p,Z⟩:=u.list U;refine gx p.isList ?_;refine⟨s1.heap.objs.size,[s1.heap.objs.size],_,_,J,rfl,u.kept (t':=s1.toks) fun b o e=>ai _ e,zjj a _,⟨_,aB _ rfl,rfl,rfl⟩,fun b hb=>?_,q⟩;have e:b=s1.heap.objs.size:=by simpa using hb
 subst e;exact u.fpOk (aw _) (u.hok.fresh (aw _))
theorem zqA{l:aO}{J:TE}(N:PE X l J):PI X tg l (iTup X.K J):=by
 intro pins s σ H R I h;refine thn (N pins s σ H _ I h) fun v s1 G=>?_;obtain⟨x,L,u,S,q1⟩:=G;obtain⟨a,e,⟨xs,U⟩,q⟩:=q1;subst e;cases S;obtain⟨C,Y,p,Z⟩:=u.tuple U;refine mi (show s1.heap.IsTuple a C.toArray from p) ?_;refine⟨s1.heap.objs.size,[s1.heap.objs.size],_,_,L,rfl,u.kept (t':=s1.toks) fun b o e=>ai _ e,ziG a _,⟨_,aB _ rfl,rfl,rfl⟩,fun b hb=>?_,q⟩;have e:b=s1.heap.objs.size:=by simpa using hb
 subst e;exact u.fpOk (aw _) (u.hok.fresh (aw _))
theorem zmd{pins:qO}{σ:St}{H:Hp}{s:ak}{R:It->Hp->Prop}{E:qV}{lo hi:Int}{t u v:Tok}{C:Nat}(I:Inv X pins σ H s)(S:-(2 ^ 62)<=lo)(J:lo<2 ^ 62)(G:-(2 ^ 62)<=hi)(L:hi<2 ^ 62)
  (q:R (Itr lo (hi - lo).toNat) H):wpAny (model X.prog X.w) X.A (pyIter (.ref s.heap.objs.size)) (PIE X pins σ tg R) E { s with heap:=s.heap.push { cls:=.type "range",data:=.fields #[.int lo t,.int hi u,.int 1 v] },toks:=C }:=by
 refine mj (um ..) (small_one S J G L) ?_;have x:Inv X pins σ H { s with heap:=s.heap.push { cls:=.type "range",data:=.fields #[.int lo t,.int hi u,.int 1 v] },toks:=C }:=I.kept fun b o e=>ai _ e;refine⟨(s.heap.push { cls:=.type "range",data:=.fields #[.int lo t,.int hi u,.int 1 v] }).objs.size,[(s.heap.push { cls:=.type "range",data:=.fields #[.int lo t,.int hi u,.int 1 v] }).objs.size],_,_,H,rfl,
  x.kept (t':=C) fun b o e=>ai _ e,ziH _ lo (hi - lo).toNat,?_,fun b hb=>?_,q⟩
 have e1:lo+((0:Nat):Int)*1=lo:=by simp
 have e2:(((hi - lo).toNat:Nat):Int) - ((0:Nat):Int)=bU lo hi 1:=by rw[rangeSize_one];split <;> lia
 show lh _ _ (lo+((0:Nat):Int)*1) ((((hi - lo).toNat:Nat):Int) - ((0:Nat):Int)) 1;rw[e1,e2];exact aB _ rfl;have e:b=(s.heap.push { cls:=.type "range",data:=.fields #[.int lo t,.int hi u,.int 1 v] }).objs.size:=by simpa using hb
 subst e;exact x.fpOk (aw _) (x.hok.fresh (aw _))
def zuN(u:TA):TI:=fun σ H R=>u σ H fun o l=>∃j:Int,o=[.int j]/\-(2 ^ 62)<=j/\j<2 ^ 62/\R (Itr 0 j.toNat) l
theorem zjV{a:aO}{o:TA}{p pos:Pos}(x:Gl X "range") (u:X.mg "range" = none) (ha:PA X [a] o) (J:starEach [a] X.env=[(false,eval a X.env)]:=by rfl):PI X tg (.Call (.Name "range" p) [a] [] pos) (zuN o):=by
 intro pins s σ H R I h;refine Call_ (UG I x u boot_range (cL (thn (ha pos pins s σ H _ I h) fun us s1 ⟨U,S,v,G,q1⟩=>?_) J rfl));obtain⟨j,e,q1,q2,q⟩:=q1;subst e;cases G with
 | cons r L =>cases L;obtain⟨t,rfl⟩:=r;exact call_range_1 (zmd v (by lia) (by lia) q1 q2 (by simpa using q))
def tFor(v:TI)(g:TG)(I:TS):TS:=fun D σ H=>v σ H fun J G=>∃W:Nat->Nat->St->Hp->Prop,(∃m,W 0 m σ G)/\∀i m σ H,W i m σ H ->
 (J.stop i H/\D.nx σ H)\/(J.go i H/\∃N:St->Hp->Prop,(∀σ' l,N σ' l->∃u,u<m/\W (i+1) u σ' l)/\∀x l,J.yld i H x l->g x σ l fun o C=>I { D with nx:=N,ct:=N,bk:=D.nx } o C)
def Y3(l:List ah)(h:bt):List (ah×Obj):=l.filterMap fun b=>(h.get? b).map fun o=>(b,o)
theorem zdf{l:List ah}{h:bt}{b:ah}{o:Obj}(hb:b∈l)(e:h.get? b=some o):(b,o)∈Y3 l h:=iC.mpr ⟨b,hb,by rw[e];rfl⟩
theorem zka{l:List ah}{h:bt}{p:ah×Obj}(u:p∈Y3 l h):p.1∈l/\h.get? p.1=some p.2:=by
 obtain⟨b,hb,e⟩:=iC.mp u;cases q:h.get? b with
 | none=>rw[q]at e;cases e
 | some o =>rw[q]at e;have v:(b,o)=p:=aQ e;subst v;exact⟨hb,q⟩
theorem Inv.pinned{pins:qO}{σ:St}{H:Hp}{s:ak}{u:List ah}(I:Inv X pins σ H s)(hf:∀b∈u,FpOk X pins H b)(C:∀b∈u,∃o,s.heap.get? b=some o/\∀v,o.data≠.cell v):Inv X (pins++Y3 u s.heap) σ H s :=
 I.pins_of fun p G=>(aD.mp G).elim (fun z=>I.pin p (cb _ z)) fun z=>by obtain⟨hb,e⟩:=zka z;obtain⟨f0,f1,f2,_⟩:=hf p.1 hb;obtain⟨o,x,d⟩:=C p.1 hb;rw[e]at x;cases x;exact⟨e,f0,f1,f2,d⟩
theorem Inv.unpinned{pins pl:qO}{σ:St}{H:Hp}{s:ak}(I:Inv X (pins++pl) σ H s):Inv X pins σ H s:=I.pins_of fun p l=>I.pin p (cb _ (k9 _ l))
theorem znF{iter:aO}{body:List cN}{wi:TI}{g:TG}{tb:TS}{pos:Pos}(hp:kf (model X.prog X.w) X.A X.env X.xe)(hc:X.calm=true)(hi:PI X tg iter wi)(hg:PG X tg g)(hb:PSs X body tb)
  (hs:Fsi X iter:=by intro _;rfl):PS X (.For tg iter body [] pos) (tFor wi g tb):=by
 intro pins s σ H D I h;refine wpAny_For (thn (hi pins s σ H _ I h) fun v s1 h1=>thn h1 fun itv s2 h2=>?_) hs;obtain⟨it,fp,tn,J,H2,e,I2,T,st2,f2,W,⟨m0,w0⟩,turn⟩:=h2;subst e;have HE:∀{S:Hp},(∀b∈fp,S b=none)->∀b∈fp,FpOk X pins S b:=fun hn b hb=>⟨hn b hb,(f2 b hb).2⟩;refine codeAny_forLoop_any (fun n s'=>∃i σ' S,Inv X pins σ' S s'/\tn i s'.heap/\(∀b∈fp,S b=none)/\W i n σ' S) ?_ m0 ⟨0,σ,H2,I2,st2,fun b hb=>(f2 b hb).1,w0⟩;rintro n s3 ⟨i,L,H3,I3,Z,fr3,w3⟩;rcases turn i n L H3 w3 with⟨stop,qn⟩|⟨go,N,hN,step⟩
 ·refine eD hp (thn (T.done X rfl rfl rfl hc i pins s3 L H3 X.xe I3 (HE fr3) Z stop) fun r s4 C=>?_);obtain⟨hr,I4⟩:=C;subst hr;exact g9 ⟨L,H3,I4,qn⟩
 ·refine eD hp (thn (T.item X rfl rfl rfl hc i pins s3 L H3 X.xe I3 (HE fr3) Z go) fun r s4 C=>?_);obtain⟨u,hr,h4⟩:=C;subst hr;refine eD hp (thn h4 fun _ s5 C=>?_);obtain⟨x,H5,I5,r5,y5,Y,fr5⟩:=C;have I5':=I5.pinned (HE fr5) (T.obj _ _ Y);refine eD hp (thn (hg _ s5 L H5 x u _ I5' r5 (step x H5 y5)) fun _ s6 C=>?_);obtain⟨σ6,H6,I6,q6⟩:=C;refine eD hp (thn (hb _ s6 σ6 H6 _ I6 q6) fun f s7 U=>?_);have again:∀{l:St} {G:Hp},Inv X (pins++Y3 fp s5.heap) l G s7->N l G->∃m,m<n/\∃i σ' S,Inv X pins σ' S s7/\tn i s7.heap/\(∀b∈fp,S b=none)/\W i m σ' S:=fun {l G} R n7=>by
   obtain⟨m',hm,w7⟩:=hN l G n7;refine⟨m',hm,i+1,l,G,R.unpinned,T.keep _ _ _ Y fun b hb o e=>(R.pin (b,o) (cb _ (cb _ (zdf hb e)))).1,fun b hb=>?_,w7⟩;obtain⟨o,e,d⟩:=T.obj _ _ Y b hb;exact(R.pin (b,o) (cb _ (cb _ (zdf hb e)))).2.1
  cases f with
  | next=>obtain⟨l,G,R,n7⟩:=U;exact again R n7
  | cont=>obtain⟨l,G,R,n7⟩:=U;exact again R n7
  | brk=>obtain⟨l,G,R,U⟩:=U;exact⟨l,G,R.unpinned,U⟩
  | ret v=>obtain⟨x7,l,G,R,r7,U⟩:=U;exact⟨x7,l,G,R.unpinned,r7,U⟩
end
abbrev R2:=V->V->Hp->VK->Prop
def OpR(X:Cx)(f:af->af->Sem af)(r:R2):Prop :=
 ∀(pins:qO) (s:ak) (σ:St) (H:Hp) (x y:V) (v u:af) (Q:VK),Inv X pins σ H s->RelV x v->RelV y u->r x y H Q ->
  wpAny (model X.prog X.w) X.A (f v u) (EP X pins σ Q) X.xe s
def UnR(X:Cx)(f:af->Sem af)(r:V->Hp->VK->Prop):Prop :=
 ∀(pins:qO) (s:ak) (σ:St) (H:Hp) (x:V) (v:af) (Q:VK),Inv X pins σ H s->RelV x v->r x H Q ->
  wpAny (model X.prog X.w) X.A (f v) (EP X pins σ Q) X.xe s
def JU(X:Cx)(f:af)(r:List V->Hp->VK->Prop):Prop :=
 ∀(pins:qO) (s:ak) (σ:St) (H:Hp) (xs:List V) (us:List af) (Q:VK),Inv X pins σ H s->Vals xs us->r xs H Q ->
  wpAny (model X.prog X.w) X.A (call f us) (EP X pins σ Q) X.xe s
def TruR(X:Cx)(r:V->Hp->(Bool->Hp->Prop)->Prop):Prop :=
 ∀(pins:qO) (s:ak) (σ:St) (H:Hp) (x:V) (v:af) (Q:Bool->Hp->Prop),Inv X pins σ H s->RelV x v->r x H Q ->
  wpAny (model X.prog X.w) X.A (truthy v) (TP X pins σ Q) X.xe s
def tOp(r:R2)(u v:TE):TE:=fun σ H Q=>u σ H fun x o=>v σ o fun y l=>r x y l Q
def tUn(r:V->Hp->VK->Prop)(o:TE):TE:=fun σ H Q=>o σ H fun x l=>r x l Q
def rI(C:Int->Int->Prop)(g:Int->Int->V):R2:=fun x y H Q=>∃i j,x=.int i/\y=.int j/\C i j/\Q (g i j) H
def rI0(g:Int->Int->V):R2:=fun x y H Q=>∃i j,x=.int i/\y=.int j/\Q (g i j) H
def rU(g:Int->V):V->Hp->VK->Prop:=fun x H Q=>∃i,x=.int i/\Q (g i) H
section
variable{X:Cx}{a b c:aO}{ta tb tc:TE}{pos:Pos}
theorem binT(ha:PE X a ta)(hb:PE X b tb){pins:qO}{s:ak}{σ:St}{H:Hp}{R:V->V->Hp->Prop}(I:Inv X pins σ H s)
  (h:ta σ H fun x J=>tb σ J fun y o=>R x y o) {Q:qV} {f:af->af->Sem af}
  (hf:∀v u s2 x y o,Inv X pins σ o s2->RelV x v->RelV y u->R x y o->wpAny (model X.prog X.w) X.A (f v u) Q X.xe s2) :
  wpAny (model X.prog X.w) X.A (eval a X.env) (fun v G=>wpAny (model X.prog X.w) X.A (eval b X.env) (fun u C=>wpAny (model X.prog X.w) X.A (f v u) Q X.xe C) X.xe G) X.xe s:=by
 refine thn (ha pins s σ H _ I h) fun v s1 l=>?_;obtain⟨x,J,L,N,q1⟩:=l;refine thn (hb pins s1 σ J _ L q1) fun u s2 l=>?_;obtain⟨y,o,U,S,q2⟩:=l;exact hf v u s2 x y o U N S q2
theorem Jx{op:oi}{r:R2}(l:OpR X (binaryOp op) r)(ha:PE X a ta)(hb:PE X b tb):PE X (.BinOp a op b pos) (tOp r ta tb):=by intro pins s σ H Q I h;exact wpAny_BinOp (binT ha hb I h fun v u s2 x y G J o C q=>l pins s2 σ G x y v u Q J o C q)
theorem zt1{op:UnaryOp}{r:V->Hp->VK->Prop}(l:UnR X (unaryOp op) r)(ha:PE X a ta):PE X (.UnaryOp op a pos) (tUn r ta):=by intro pins s σ H Q I h;exact UnaryOp_ (thn (ha pins s σ H _ I h) fun v s1 ⟨x,C,o,u,q1⟩=>l pins s1 σ C x v Q o u q1)
theorem opI{f:af->af->Sem af}{C:Int->Int->Prop}{g:Int->Int->Int}
  (rule:∀(i j:Int) (t u:Tok) (s:ak) (Q:qV) (E:qV),C i j->Q (.int (g i j) s.toks) { s with toks:=s.toks+1 }->wpAny (model X.prog X.w) X.A (f (.int i t) (.int j u)) Q E s) :
  OpR X f (rI C fun i j=>.int (g i j)):=by
 intro pins s σ H x y v u Q I l o h;obtain⟨i,j,rfl,rfl,hc,q⟩:=h;obtain⟨t,rfl⟩:=l;obtain⟨t',rfl⟩:=o;exact rule i j t t' s _ _ hc ⟨.int (g i j),H,I.tok _,⟨_,rfl⟩,q⟩
theorem opI0{f:af->af->Sem af}{g:Int->Int->Int}
  (rule:∀(i j:Int) (t u:Tok) (s:ak) (Q:qV) (E:qV),Q (.int (g i j) s.toks) { s with toks:=s.toks+1 }->wpAny (model X.prog X.w) X.A (f (.int i t) (.int j u)) Q E s) :
  OpR X f (rI0 fun i j=>.int (g i j)):=by
 intro pins s σ H x y v u Q I l o h;obtain⟨i,j,rfl,rfl,q⟩:=h;obtain⟨t,rfl⟩:=l;obtain⟨t',rfl⟩:=o;exact rule i j t t' s _ _ ⟨.int (g i j),H,I.tok _,⟨_,rfl⟩,q⟩
theorem opB0{f:af->af->Sem af}{g:Int->Int->Bool}
  (rule:∀(i j:Int) (t u:Tok) (s:ak) (Q:qV) (E:qV),Q (.bool (g i j)) s->wpAny (model X.prog X.w) X.A (f (.int i t) (.int j u)) Q E s) :
  OpR X f (rI0 fun i j=>.bl (g i j)):=by
 intro pins s σ H x y v u Q I C G h;obtain⟨i,j,rfl,rfl,q⟩:=h;obtain⟨t,rfl⟩:=C;obtain⟨t',rfl⟩:=G;exact rule i j t t' s _ _ ⟨.bl (g i j),H,I,rfl,q⟩
def CPow(i j:Int):Prop:=0<=j/\j<=1000000/\i.natAbs<2 ^ 64
def CMul(i j:Int):Prop:=(-(2 ^ 64)<i/\i<2 ^ 64)\/(-(2 ^ 64)<j/\j<2 ^ 64)
theorem CMul.ok{i j:Int}(h:CMul i j):IntMulOk i j:=by rcases h with⟨v,u⟩|⟨v,u⟩;exact .of_left (intBits_le_64 v u);exact .of_right (intBits_le_64 v u)
theorem ziF(k:Nat):(0:Int)<=2 ^ k:=by rw[two_pow_cast];exact iD _
theorem Q9:OpR X (binaryOp .Add) (rI0 fun i j=>.int (i+j)):=opI0 fun _ _ _ _ _ _ _ q=>add_int q
theorem zqN:OpR X (binaryOp .Sub) (rI0 fun i j=>.int (i - j)):=opI0 fun _ _ _ _ _ _ _ q=>sub_int q
theorem QW:OpR X (binaryOp .Mult) (rI CMul fun i j=>.int (i*j)):=opI fun _ _ _ _ _ _ _ hc q=>mul_int q hc.ok
theorem UI:OpR X (binaryOp .Mod) (rI (fun _ j=>0<j) fun i j=>.int (i % j)):=opI fun i j _ _ _ _ _ hc q=>by have l:(0:Int)<j:=hc;exact mod_int' (by lia) (by rw[Int.fmod_eq_emod_of_nonneg i (by lia)];exact q)
theorem zqQ:OpR X (binaryOp .Pow) (rI CPow fun i j=>.int (i ^ j.toNat)):=opI fun _ _ _ _ _ _ _ hc q=>pow_int_small hc.1 hc.2.1 hc.2.2 q
theorem zqP:OpR X (binaryOp .LShift) (rI CPow fun i j=>.int (i*2 ^ j.toNat)):=opI fun _ _ _ _ _ _ _ hc q=>lshift_int_small hc.1 hc.2.1 hc.2.2 q
theorem zqO:OpR X (binaryOp .RShift) (rI (fun _ j=>0<=j) fun i j=>.int (i / 2 ^ j.toNat)):=opI fun i j _ _ _ _ _ hc q =>
 rshift_int hc (by rw[iE i (ziF _)];exact q)
theorem zqZ:OpR X (binaryOp .BitAnd) (rI0 fun i j=>.int (fJ i j)):=opI0 fun _ _ _ _ _ _ _ q=>and_int q
theorem zqM:OpR X (binaryOp .BitXor) (rI0 fun i j=>.int (eR i j)):=opI0 fun _ _ _ _ _ _ _ q=>xor_int q
theorem unI{f:af->Sem af}{g:Int->Int}
  (rule:∀(i:Int) (t:Tok) (s:ak) (Q:qV) (E:qV),Q (.int (g i) s.toks) { s with toks:=s.toks+1 }->wpAny (model X.prog X.w) X.A (f (.int i t)) Q E s) :
  UnR X f (rU fun i=>.int (g i)):=by
 intro pins s σ H x v Q I l h;obtain⟨i,rfl,q⟩:=h;obtain⟨t,rfl⟩:=l;exact rule i t s _ _ ⟨.int (g i),H,I.tok _,⟨_,rfl⟩,q⟩
theorem zpU:UnR X (unaryOp .USub) (rU fun i=>.int (-i)):=unI fun _ _ _ _ _ q=>neg_int q
end
def scal:V->V->Bool
 | .non,.non=>true|.non,.int _=>true|.int _,.non=>true|.non,.bl _=>true|.bl _,.non=>true|.non,.str _=>true|.str _,.non=>true
 | .int _,.int _=>true|.bl _,.bl _=>true|.str _,.str _=>true|.byt _,.byt _=>true
 | .int _,.str _=>true|.str _,.int _=>true|.bl _,.str _=>true|.str _,.bl _=>true
 | _,_=>false
def rEq:R2:=fun x y H Q=>scal x y=true/\Q (.bl (decide (x=y))) H
def rNe:R2:=fun x y H Q=>scal x y=true/\Q (.bl (!decide (x=y))) H
theorem zk9{i j:Int}:decide (V.int i=V.int j)=(i == j):=by rw[eE];simp
theorem znZ{i j:Bool}:decide (V.bl i=V.bl j)=(i == j):=by rw[eE];simp
theorem zk8{i j:Str}:decide (V.str i=V.str j)=(i == j):=by rw[eE];simp
theorem zk_{i j:Array UInt8}:decide (V.byt i=V.byt j)=(i.toList == j.toList):=by rw[eE];cases i;cases j;simp
section
variable{X:Cx}{a b c:aO}{ta tb tc:TE}{pos:Pos}
theorem Jr{pins:qO}{σ:St}{H:Hp}{s:ak}{Q:VK}{k u:Bool}(I:Inv X pins σ H s)(q:Q (.bl k) H)(e:k=u):EP X pins σ Q (.bool u) s:=by subst e;exact⟨.bl k,H,I,rfl,q⟩
theorem zt7:OpR X (compareOp .Eq) rEq:=by
 intro pins s σ H x y v u Q I C l h;obtain⟨o,q⟩:=h;cases x with
 | non =>
  cases C;cases y with
  | non=>cases l;exact oR (Jr I q (by simp))
  | bl j=>cases l;exact oS (Jr I q (by simp))
  | int j=>obtain⟨t',rfl⟩:=l;exact pM (Jr I q (by simp))
  | str j=>obtain⟨t',rfl⟩:=l;exact pN (Jr I q (by simp))
  | _=>exact absurd (show false=true from o) aW
 | bl i =>
  cases C;cases y with
  | non=>cases l;exact oT (Jr I q (by simp))
  | bl j=>cases l;exact eq_bool (Jr I q znZ)
  | str j=>obtain⟨t',rfl⟩:=l;exact oU (Jr I q (by simp))
  | _=>exact absurd (show false=true from o) aW
 | int i =>
  obtain⟨t,rfl⟩:=C;cases y with
  | non=>cases l;exact pO (Jr I q (by simp))
  | int j=>obtain⟨t',rfl⟩:=l;exact eq_int (Jr I q zk9)
  | str j=>obtain⟨t',rfl⟩:=l;exact pP (Jr I q (by simp))
  | _=>exact absurd (show false=true from o) aW
 | str i =>
  obtain⟨t,rfl⟩:=C;cases y with
  | non=>cases l;exact pQ (Jr I q (by simp))
  | bl j=>cases l;exact oV (Jr I q (by simp))
  | int j=>obtain⟨t',rfl⟩:=l;exact pR (Jr I q (by simp))
  | str j=>obtain⟨t',rfl⟩:=l;exact eq_str (Jr I q zk8)
  | _=>exact absurd (show false=true from o) aW
 | byt i =>
  obtain⟨t,rfl⟩:=C;cases y with
  | byt j=>obtain⟨t',rfl⟩:=l;exact PySem.W.eq_bytes (Jr I q zk_)
  | _=>exact absurd (show false=true from o) aW
 | _=>cases y <;> exact absurd (show false=true from o) aW
theorem zt5:OpR X (compareOp .NotEq) rNe:=by
 intro pins s σ H x y v u Q I G l h;obtain⟨C,q⟩:=h;cases x with
 | non =>
  cases G;cases y with
  | non=>cases l;exact oW (Jr I q (by simp))
  | bl j=>cases l;exact oX (Jr I q (by simp))
  | int j=>obtain⟨t',rfl⟩:=l;exact pS (Jr I q (by simp))
  | str j=>obtain⟨t',rfl⟩:=l;exact pU (Jr I q (by simp))
  | _=>exact absurd (show false=true from C) aW
 | bl i =>
  cases G;cases y with
  | non=>cases l;exact oY (Jr I q (by simp))
  | bl j=>cases l;exact ne_bool (Jr I q (congrArg not znZ))
  | str j=>obtain⟨t',rfl⟩:=l;exact oZ (Jr I q (by simp))
  | _=>exact absurd (show false=true from C) aW
 | int i =>
  obtain⟨t,rfl⟩:=G;cases y with
  | non=>cases l;exact pV (Jr I q (by simp))
  | int j=>obtain⟨t',rfl⟩:=l;exact ne_int (Jr I q (congrArg not zk9))
  | str j=>obtain⟨t',rfl⟩:=l;exact pW (Jr I q (by simp))
  | _=>exact absurd (show false=true from C) aW
 | str i =>
  obtain⟨t,rfl⟩:=G;cases y with
  | non=>cases l;exact pX (Jr I q (by simp))
  | bl j=>cases l;exact o4 (Jr I q (by simp))
  | int j=>obtain⟨t',rfl⟩:=l;exact pY (Jr I q (by simp))
  | str j=>obtain⟨t',rfl⟩:=l;exact ne_str (Jr I q (congrArg not zk8))
  | _=>exact absurd (show false=true from C) aW
 | byt i =>
  obtain⟨t,rfl⟩:=G;cases y with
  | byt j=>obtain⟨t',rfl⟩:=l;exact PySem.W.ne_bytes (Jr I q (congrArg not zk_))
  | _=>exact absurd (show false=true from C) aW
 | _=>cases y <;> exact absurd (show false=true from C) aW
theorem zqT:OpR X (compareOp .Lt) (rI0 fun i j=>.bl (decide (i<j))):=opB0 fun _ _ _ _ _ _ _ q=>lt_int q
theorem zt6:OpR X (compareOp .LtE) (rI0 fun i j=>.bl (decide (i<=j))):=opB0 fun _ _ _ _ _ _ _ q=>le_int q
theorem Uy:OpR X (compareOp .Gt) (rI0 fun i j=>.bl (decide (j<i))):=opB0 fun _ _ _ _ _ _ _ q=>gt_int q
theorem zqW:OpR X (compareOp .GtE) (rI0 fun i j=>.bl (decide (j<=i))):=opB0 fun _ _ _ _ _ _ _ q=>ge_int q
theorem zj4:OpR X (compareOp .Lt) (fun x y H Q=>∃i j,x=.str i/\y=.str j/\Q (.bl (decide (i.cps.toList<j.cps.toList))) H):=by intro pins s σ H x y v u Q I o C h;obtain⟨i,j,rfl,rfl,q⟩:=h;obtain⟨t,rfl⟩:=o;obtain⟨t',rfl⟩:=C;exact lt_str (Jr I q rfl)
theorem zqU:OpR X (compareOp .Is) (fun x y H Q=>y=.non/\Q (.bl (decide (x=.non))) H):=by
 intro pins s σ H x y v u Q I C G h;obtain⟨rfl,q⟩:=h;cases G;refine is_none_gen (Jr I q ?_);cases x <;> first
  | (cases C;rfl)
  | (obtain⟨t,rfl⟩:=C;rfl)
theorem OpR.or{f:af->af->Sem af}{r C:R2}(h:OpR X f r)(h':OpR X f C):OpR X f (fun x y H Q=>r x y H Q\/C x y H Q):=by intro pins s σ H x y v u Q I l o q;rcases q with q|q;exact h pins s σ H x y v u Q I l o q;exact h' pins s σ H x y v u Q I l o q
theorem Jj(b:aO){op:rL}(h:op≠.In:=by decide)(l:op≠.NotIn:=by decide):behindInMarks op b=false:=by
 have e1:(op == CmpOp.In)=false:=by cases op <;> first|rfl|exact absurd rfl h
 have e2:(op == CmpOp.NotIn)=false:=by cases op <;> first|rfl|exact absurd rfl l
 cases b <;> simp[behindInMarks,e1,e2]
theorem zjZ{op:rL}{r:R2}(l:OpR X (compareOp op) r)(ha:PE X a ta)(hb:PE X b tb)(G:behindInMarks op b=false):PE X (.Compare a [op] [b] pos) (tOp r ta tb):=by intro pins s σ H Q I h;exact wpAny_Compare1 (binT ha hb I h fun v u s2 x y N R J L q=>l pins s2 σ N x y v u Q R J L q) G
def zp0(t:TE):TT:=fun σ H Q=>t σ H fun x o=>∃k,x=.bl k/\Q k o
theorem zg8{op:rL}{r:R2}(l:OpR X (compareOp op) r)(ha:PE X a ta)(hb:PE X b tb)(G:behindInMarks op b=false):PT X (.Compare a [op] [b] pos) (zp0 (tOp r ta tb)):=by
 intro pins s σ H Q I h;refine wpAny_isTrue_Compare1 (thn (ha pins s σ H _ I h) fun v s1 ⟨x,N,J,U,q1⟩=>thn (hb pins s1 σ N _ J q1) fun u s2 ⟨y,H2,I2,Z,q2⟩ =>
  thn (l pins s2 σ H2 x y v u _ I2 U Z q2) fun c s3 ⟨z,S,Y,L,k,e,R⟩=>?_) G
 subst e;cases L;exact cf ⟨S,Y,R⟩
def znp(r I:R2)(ta tb tc:TE):TE:=fun σ H Q=>ta σ H fun x C=>tb σ C fun y v=>r x y v fun z o=>∃k,z=.bl k /\
 (if k=true then tc σ o fun u G=>I y u G Q else Q (.bl false) o)
theorem zmo{op G:rL}{r R:R2}(Y:OpR X (compareOp op) r)(J:OpR X (compareOp G) R)(ha:PE X a ta)(hb:PE X b tb)(hc:PE X c tc)
  (Z:lastMarks [op,G] [b,c]=false:=by with_unfolding_all rfl):PE X (.Compare a [op,G] [b,c] pos) (znp r R ta tb tc):=by
 intro pins s σ H Q I h;refine Compare_chain (thn (ha pins s σ H _ I h) fun v s1 ⟨x,H1,I1,r1,q1⟩=>chain_link (thn (hb pins s1 σ H1 _ I1 q1) fun u s2 ⟨y,H2,I2,U,q2⟩ =>
  thn (Y pins s2 σ H2 x y v u _ I2 r1 U q2) fun d s3 ⟨z,N,S,r3,k,e,L⟩=>?_)) Z
 subst e;cases r3;refine cf ?_;cases k with
 | false=>exact ite_ff ⟨.bl false,N,S,rfl,L⟩
 | true=>exact ite_tt (chain_last (thn (hc pins s3 σ N _ S L) fun w' s4 ⟨z',H4,I4,r4,q4⟩=>J pins s4 σ H4 y z' u w' Q I4 U r4 q4))
theorem zme{op l:rL}{r R:R2}(Y:OpR X (compareOp op) r)(G:OpR X (compareOp l) R)(ha:PE X a ta)(hb:PE X b tb)(hc:PE X c tc)
  (hm:lastMarks [op,l] [b,c]=false:=by with_unfolding_all rfl):PT X (.Compare a [op,l] [b,c] pos) (zp0 (znp r R ta tb tc)):=by
 intro pins s σ H Q I h;refine isTrue_chain (thn (ha pins s σ H _ I h) fun v s1 ⟨x,H1,I1,r1,q1⟩=>test_link (thn (hb pins s1 σ H1 _ I1 q1) fun u s2 ⟨y,H2,I2,U,q2⟩ =>
  thn (Y pins s2 σ H2 x y v u _ I2 r1 U q2) fun d s3 ⟨z,N,S,r3,k,e,L⟩=>?_)) hm
 subst e;cases r3;refine cf ?_;cases k with
 | false =>obtain⟨k',e',q'⟩:=L;cases e';exact ite_ff ⟨N,S,q'⟩
 | true =>refine ite_tt (test_last (thn (hc pins s3 σ N _ S L) fun w' s4 ⟨z',H4,I4,r4,q4⟩=>thn (G pins s4 σ H4 y z' u w' _ I4 U r4 q4) fun d' s5 J=>?_));obtain⟨z2,H5,I5,r5,k2,e2,Z⟩:=J;subst e2;cases r5;exact cf ⟨H5,I5,Z⟩
def TruV(K:qF)(x:V)(H:Hp)(k:Bool):Prop :=
 match x with
 | .non=>k=false
 | .bl b=>k=b
 | .int i=>k=(i != 0)
 | .str y=>y.length<=sizeLine/\k=((y.length:Int) != 0)
 | .byt y=>y.size<=sizeLine/\k=((y.size:Int) != 0)
 | .ref p=>(∃xs,SqL K H p xs/\k=!xs.isEmpty)\/(∃xs,SqT K H p xs/\k=!xs.isEmpty)\/∃u,H p=some (.dK u)/\k=!u.isEmpty
 | _=>False
theorem zi5{o:Type}{l:List (o×V)}{u:List (o×af)}(r:KV l u):(!u.isEmpty)=!l.isEmpty:=by cases r <;> rfl
theorem zeN{xs:List V}{l:List af}(r:Vals xs l):(!l.toArray.isEmpty)=!xs.isEmpty:=by cases r <;> simp
theorem UH:(sizeLine:Nat)<2 ^ 63:=by rw[lj];decide
theorem zpX:TruR X (fun x H Q=>∃k,TruV X.K x H k/\Q k H):=by
 intro pins s σ H x v Q I G h;obtain⟨k,e,q⟩:=h;have U:=UH;have Y:sizeLine=16777216:=lj;cases x with
 | non =>cases G;have o:k=false:=e;subst o;exact truthy_none ⟨H,I,q⟩
 | bl b =>cases G;have o:k=b:=e;subst o;exact cf ⟨H,I,q⟩
 | int i =>obtain⟨t,rfl⟩:=G;have o:k=(i != 0):=e;subst o;exact PySem.P.truthy_int ⟨H,I,q⟩
 | str y =>obtain⟨t,rfl⟩:=G;obtain⟨R,o⟩:y.length<=sizeLine/\k=((y.length:Int) != 0):=e;subst o;exact PySem.P.truthy_str (by lia) ⟨H,I.tok _,q⟩
 | byt y =>obtain⟨t,rfl⟩:=G;obtain⟨R,o⟩:y.size<=sizeLine/\k=((y.size:Int) != 0):=e;subst o;exact PySem.W.truthy_bytes (by lia) ⟨H,I.tok _,q⟩
 | ref p =>cases G;have o:(∃xs,SqL X.K H p xs/\k=!xs.isEmpty)\/(∃xs,SqT X.K H p xs/\k=!xs.isEmpty)\/∃u,H p=some (.dK u)/\k=!u.isEmpty:=e;rcases o with⟨xs,hx,o⟩|⟨xs,hx,o⟩|⟨u,hx,o⟩;subst o;obtain⟨L,r,pl,N⟩:=I.list hx;have C:=r.length;exact wpAny_truthy_list pl.isList (by simp only[ay];lia) ⟨H,I.tok _,by rw[zeN r];exact q⟩;subst o;obtain⟨L,r,pl,N⟩:=I.tuple hx;have C:=r.length;exact truthy_tuple pl (by simp only[ay];lia) ⟨H,I.tok _,by rw[zeN r];exact q⟩;subst o;obtain⟨N,S,J,r,m⟩:u.length<=sizeLine/\(p == sysModules)=false/\∃J,KV u J/\s.heap.DictOf (UJ X.prog X.w) p J:=I.hok p _ hx;have C:u.length=J.length:=l7 r;exact wpAny_truthy_dict S m (by lia) ⟨H,I.tok _,by rw[zi5 r];exact q⟩
 | _=>exact(show False from e).elim
theorem zh9(ha:PE X a ta)(G:∀whole,isTrue a X.env whole=(do let v <- whole;standAt a.pos;holding [v] (truthy v))) :
  PT X a (fun σ H Q=>ta σ H fun x l=>∃k,TruV X.K x l k/\Q k l):=by
 intro pins s σ H Q I h;exact isTrue_plain (thn (ha pins s σ H _ I h) fun v s1 ⟨x,u,o,C,q1⟩=>zpX pins s1 σ u x v Q o C q1) (G _)
theorem ziP:OpR X (binaryOp .Add) (fun x y H Q=>∃i j,x=.str i/\y=.str j/\i.length+j.length<=sizeLine/\Q (.str (i++j)) H):=by intro pins s σ H x y v u Q I l o h;obtain⟨i,j,rfl,rfl,C,q⟩:=h;obtain⟨t,rfl⟩:=l;obtain⟨t',rfl⟩:=o;exact add_str (fun t' G=>⟨.str (i++j),H,I.tok _,⟨_,rfl⟩,q⟩) C
theorem vals1{x:V}{us:List af}(r:Vals [x] us):∃u,us=[u]/\RelV x u:=by
 cases r with
 | cons l o=>cases o;exact⟨_,rfl,l⟩
theorem vals2{x y:V}{us:List af}(r:Vals [x,y] us):∃u l,us=[u,l]/\RelV x u/\RelV y l:=by
 cases r with
 | cons C G =>
  cases G with
  | cons v o=>cases o;exact⟨_,_,rfl,C,v⟩
theorem zgQ(hc:X.calm=true):JU X (.builtin "max") (fun xs H Q=>∃i j,xs=[.int i,.int j]/\Q (.int (if j > i then j else i)) H):=by intro pins s σ H xs us Q I r h;obtain⟨i,j,rfl,q⟩:=h;obtain⟨u,v,rfl,⟨t,rfl⟩,⟨t',rfl⟩⟩:=vals2 r;refine max_two_ints (I.ok.hd hc) fun h' o k=>⟨_,H,I.kept k,?_,q⟩;by_cases hj:j > i;rw[if_pos hj,if_pos hj];exact⟨_,rfl⟩;rw[if_neg hj,if_neg hj];exact⟨_,rfl⟩
theorem zgP(hc:X.calm=true):JU X (.builtin "min") (fun xs H Q=>∃i j,xs=[.int i,.int j]/\Q (.int (if j<i then j else i)) H):=by intro pins s σ H xs us Q I r h;obtain⟨i,j,rfl,q⟩:=h;obtain⟨u,v,rfl,⟨t,rfl⟩,⟨t',rfl⟩⟩:=vals2 r;refine min_two_ints (I.ok.hd hc) fun h' o k=>⟨_,H,I.kept k,?_,q⟩;by_cases hj:j<i;rw[if_pos hj,if_pos hj];exact⟨_,rfl⟩;rw[if_neg hj,if_neg hj];exact⟨_,rfl⟩
theorem zgT:JU X (.type "int") (fun xs H Q=>(∃i,xs=[.int i]/\Q (.int i) H)\/∃k,xs=[.bl k]/\Q (.int (if k then 1 else 0)) H):=by intro pins s σ H xs us Q I r h;rcases h with⟨i,rfl,q⟩|⟨k,rfl,q⟩;obtain⟨u,rfl,t,rfl⟩:=vals1 r;exact call_int_int ⟨.int i,H,I,⟨_,rfl⟩,q⟩;obtain⟨u,rfl,o⟩:=vals1 r;cases o;exact call_int_bool ⟨.int (if k then 1 else 0),H,I.tok _,⟨_,rfl⟩,q⟩
theorem zdu:JU X (.type "str") (fun xs H Q=>∃i,xs=[.int i]/\i.natAbs.log2<1920/\Q (.str (toString i)) H):=by intro pins s σ H xs us Q I r h;obtain⟨i,rfl,l,q⟩:=h;obtain⟨u,rfl,t,rfl⟩:=vals1 r;exact PySem.P.str_of_int l ⟨.str _,H,I.tok _,⟨_,rfl⟩,q⟩
def LenV(K:qF)(x:V)(H:Hp)(n:Nat):Prop :=
 match x with
 | .str y=>y.length<=sizeLine/\n=y.length
 | .byt y=>y.size<=sizeLine/\n=y.size
 | .ref p=>(∃xs,SqL K H p xs/\n=xs.length)\/∃xs,SqT K H p xs/\n=xs.length
 | _=>False
theorem Qa:JU X (.builtin "len") (fun xs H Q=>∃x n,xs=[x]/\LenV X.K x H n/\Q (.int n) H):=by
 intro pins s σ H xs us Q I r h;obtain⟨x,n,rfl,e,q⟩:=h;obtain⟨u,rfl,J⟩:=vals1 r;have R:=UH;have S:sizeLine=16777216:=lj;cases x with
 | str y =>obtain⟨t,rfl⟩:=J;obtain⟨L,v⟩:y.length<=sizeLine/\n=y.length:=e;subst v;exact len_str (by lia) ⟨.int _,H,I.tok _,⟨_,rfl⟩,q⟩
 | byt y =>obtain⟨t,rfl⟩:=J;obtain⟨L,v⟩:y.size<=sizeLine/\n=y.size:=e;subst v;exact PySem.W.len_bytes (by lia) ⟨.int _,H,I.tok _,⟨_,rfl⟩,q⟩
 | ref p =>cases J;have v:(∃xs,SqL X.K H p xs/\n=xs.length)\/∃xs,SqT X.K H p xs/\n=xs.length:=e;rcases v with⟨xs,hx,v⟩|⟨xs,hx,v⟩;subst v;obtain⟨C,G,pl,N⟩:=I.list hx;have o:=G.length;exact lO pl.isList (by simp only[ay];lia) ⟨.int xs.length,H,I.tok _,⟨_,by simp only[ay];rw[o]⟩,q⟩;subst v;obtain⟨C,G,pl,N⟩:=I.tuple hx;have o:=G.length;exact len_tuple pl (by simp only[ay];lia) ⟨.int xs.length,H,I.tok _,⟨_,by simp only[ay];rw[o]⟩,q⟩
 | _=>exact(show False from e).elim
end
structure ObjM(h:bt)(x dx C:ah)(mA:qM):Prop where
 obj:h.get? x=some (kR C dx)
 ns:h.Ns1 dx mA
 ne:dx≠x
theorem zkh{h:bt}{u:ah}{x:qM}(n:h.Ns1 u x):∃C,h.get? u=some C/\∀name,ll name C=some (x name):=by
 obtain⟨o,v,R,G,hd,L,_,I⟩:=n;refine⟨o,G,fun name=>?_⟩;have e:=I name;unfold nsFind findBy at e;rw[<- Array.find?_toList]at e;unfold ll;rw[hd];dsimp only;split;rename_i y q;rw[q]at e;exact congrArg some e;rename_i q;rw[q]at e;have a:v.toList.any (·.refKey)=false:=by rw[iW];intro y J;obtain⟨z,t,l⟩:=L y (Array.mem_toList_iff.mp J);simp[DictEntry.refKey,l]
 have N:¬v.toList.any (·.refKey)=true:=by rw[a];exact aW
 rw[if_neg N];exact congrArg some e
theorem ObjM.look{h:bt}{x u C:ah}{o:qM}(I:ObjM h x u C o):∃l,PySem.W.InstAt h x (kR C u) C (some l)/\∀name,ll name l=some (o name) :=
 let ⟨l,ho,hl⟩:=zkh I.ns
 ⟨l,⟨I.obj,rfl,rfl,ho⟩,hl⟩
section
variable{P:aI}{w:aT}{H H':Hp}{h h':bt}{a C dx:ah}{fs fs':List (Str×V)}
theorem zo0(hok:HOk P w H h)(e:H a=some (.ins C dx fs)):∃l,ObjM h a dx C l/\(∀f,RelO (fs.lookup f) (l f))/\sf l (fs.map (·.1))/\fs.length<=1000/\H dx=some (.own a):=by obtain⟨d,z,ne,u,l,n,r,q⟩:=(show JE P w H h a (.ins C dx fs) from hok a _ e);exact⟨l,⟨u,n,ne⟩,r,q,z,d⟩
end
structure Cls(K:qF)(C:ah):Prop where
 pg:m8 K C fB=true
 hd:PySem.W.hasDictIn K C=true
 po:PySem.W.plainOver K C=true
 sa:om K (.ref C) "__setattr__" = some (some (.builtin "object.__setattr__"))
theorem Cls.get{K:qF}{C:ah}(c:Cls K C)(f:Str):m8 K C f=true:=c.pg
section
variable{X:Cx}{pins:qO}{σ:St}{H:Hp}{s:ak}{A:bu}{E:qV}{Q:qV}{c:af}{b:Bool}
inductive TyOf (K:qF)(H:Hp):V->af->Prop where
 | non:TyOf K H .non (.type "NoneType")
 | bl (x:Bool):TyOf K H (.bl x) (.type "bool")
 | int (i:Int):TyOf K H (.int i) (.type "int")
 | str (x:Str):TyOf K H (.str x) (.type "str")
 | flt (x:UInt64):TyOf K H (.flt x) (.type "float")
 | lst {a:ah} {xs:List V} (e:H a=some (.lst xs)):TyOf K H (.ref a) (.type "list")
 | frz {a:ah} {o:Obj} {xs:List V} (e:H a=some (.frz o (.lst xs))):TyOf K H (.ref a) (.type "list")
 | tup {a:ah} {xs:List V} (e:H a=some (.tup xs)):TyOf K H (.ref a) (.type "tuple")
 | dK {a:ah} {kvs:List (Key×V)} (e:H a=some (.dK kvs)):TyOf K H (.ref a) (.type "dict")
 | dT {a:ah} {kvs:List (List Key×V)} (e:H a=some (.dT kvs)):TyOf K H (.ref a) (.type "dict")
 | ins {a C dx:ah} {fs:List (Str×V)} (e:H a=some (.ins C dx fs)) (cl:Cls K C) (ha:om K (.ref C) "__class__" = some (some (.builtin "object.__class__")))
   (hn:PySem.W.specialIn K (.builtin "object.__class__") "__get__" = some (some (.builtin "getset_descriptor.__get__"))) (htk:PySem.W.takesIn K (.builtin "object.__class__")=some true)
   (hm:PySem.W.mroIn K C (.type "object")=some true):TyOf K H (.ref a) (.ref C)
theorem zkI{x:V}{u t:af}(I:Inv X pins σ H s)(v:RelV x u)(ty:TyOf X.K H x t)(e:oo X.K t c=some b)(h:∀R,Q (.bool b) { s with toks:=R }) :
  wpAny (model X.prog X.w) A (call (.builtin "isinstance") [u,c]) Q E s:=by
 cases ty with
 | non=>cases(show u=iA from v);exact bE PySem.W.kitx_none I.kIn gP e (fun z=>nomatch z) h
 | bl y=>cases(show u=kG y from v);exact bE PySem.W.kitx_bool I.kIn gP e (fun z=>nomatch z) h
 | int i=>obtain⟨t,q⟩:=(show ∃t,u=rG i t from v);cases q;exact bE PySem.W.kitx_int I.kIn gP e (fun z=>nomatch z) h
 | str y=>obtain⟨t,q⟩:=(show ∃t,u=ke y t from v);cases q;exact bE PySem.W.kitx_str I.kIn gP e (fun z=>nomatch z) h
 | flt y=>obtain⟨t,q⟩:=(show ∃t,u=ud y t from v);cases q;exact bE PySem.W.kitx_float I.kIn gP e (fun z=>nomatch z) h
 | @lst a xs ea =>cases(show u=cu a from v);obtain⟨_,_,n,_,G⟩:=(show JE X.prog X.w H s.heap a (.lst xs) from I.hok a _ ea);exact bE mE I.kIn ⟨_,G,rfl⟩ e (fun z=>nomatch z) h
 | @frz a ob xs ea =>cases(show u=cu a from v);obtain⟨_,_,_,n,_,G⟩:=(show JE X.prog X.w H s.heap a (.frz ob (.lst xs)) from I.hok a _ ea);exact bE mE I.kIn ⟨_,G,rfl⟩ e (fun z=>nomatch z) h
 | @tup a xs ea =>cases(show u=cu a from v);obtain⟨_,_,_,p⟩:=(show JE X.prog X.w H s.heap a (.tup xs) from I.hok a _ ea);obtain⟨o,G,L,_⟩:=p;exact bE ml I.kIn ⟨o,G,L⟩ e (fun z=>nomatch z) h
 | @dK a kvs ea =>cases(show u=cu a from v);obtain⟨_,_,U,_,p⟩:=(show JE X.prog X.w H s.heap a (.dK kvs) from I.hok a _ ea);obtain⟨o,N,S,G,L,_⟩:=p;exact bE eH I.kIn ⟨o,G,L.1⟩ e (fun z=>nomatch z) h
 | @dT a kvs ea =>cases(show u=cu a from v);obtain⟨_,_,xs,_,o,N,S,G,L,_⟩:=(show JE X.prog X.w H s.heap a (.dT kvs) from I.hok a _ ea);exact bE eH I.kIn ⟨o,G,L.1⟩ e (fun z=>nomatch z) h
 | @ins a C dx fs ea cl ha hn htk hm =>cases(show u=cu a from v);obtain⟨Y,O,_⟩:=zo0 I.hok ea;obtain⟨Z,J,_⟩:=O.look;exact bE (PySem.W.kitx_own (cl.get _) cl.hd ha hn htk hm) I.kIn J e (fun z=>nomatch z) h
end
structure Room(k:Nat)(A:bu):Prop where
 hd:A.handled=none
 dp:A.depth+3*k+5<recursionLimit
 un:A.units+16*k+200<cLine
 gd:A.guards=some []
theorem Room.mono{j k:Nat}{A:bu}(r:Room k A)(h:j<=k):Room j A:=⟨r.hd,by have:=r.dp;lia,by have:=r.un;lia,r.gd⟩
theorem Room.deeper{k:Nat}{A:bu}(r:Room (k+1) A)(env:Env):Room k (A.deeper env) :=
 ⟨r.hd,by have:=r.dp;show A.depth+1+3*k+5<_;lia,by have:=r.un;show A.units+3+16*k+200<_;lia,r.gd⟩
theorem Room.depth{k:Nat}{A:bu}(r:Room k A):A.depth<recursionLimit:=by have:=r.dp;lia
theorem Room.units0{k:Nat}{A:bu}(r:Room k A):A.units<cLine:=by have:=r.un;lia
def tNil:TA:=fun _ H Q=>Q [] H
def JS(v:TE)(l:TA):TA:=fun σ H Q=>v σ H fun x u=>l σ u fun xs o=>Q (x::xs) o
section
variable{X:Cx}{e:aO}{es:List aO}{te:TE}{t:TA}{pos:Pos}
theorem Qy:PA X [] tNil:=fun _ _ _ _ H Q I h=>Calls.spliced_nil ⟨[],H,I,.nil,h⟩
theorem J3(ha:PE X e te)(J:PA X es t)(L:starEach (e::es) X.env=(false,eval e X.env)::starEach es X.env:=by rfl):PA X (e::es) (JS te t):=by intro pos pins s σ H Q I h;rw[L];show wpAny _ _ (spliced ((false,eval e X.env)::backTo pos (starEach es X.env))) _ _ s;refine Calls.spliced_cons (thn (ha pins s σ H _ I h) fun u s1 l=>?_);obtain⟨x,C,v,G,q1⟩:=l;exact thn (J pos pins s1 σ C _ v q1) fun us s2 ⟨xs,R,S,N,q2⟩=>⟨x::xs,R,S,.cons G N,q2⟩
def tTup(t:TA):TE:=fun σ H Q=>t σ H fun xs l=>xs.length<=sizeLine/\∀p,l p=none->Q (.ref p) (upd l p (.tup xs))
def tLst(t:TA):TE:=fun σ H Q=>t σ H fun xs o=>xs.length<=sizeLine/\∀p,o p=none->Q (.ref p) (upd o p (.lst xs))
theorem znH{x1}(h:PA X es t):PE X (.Tuple es x1 pos) (tTup t):=by intro pins s σ H Q I x;refine wpAny_Tuple_spliced (thn (h pos pins s σ H _ I x) fun us s1 ⟨xs,v,o,r,z,q⟩=>⟨by rw[<- r.length];exact z,?_⟩);have hf:v s1.heap.objs.size=none:=o.hok.fresh (aw _);refine⟨.ref s1.heap.objs.size,upd v s1.heap.objs.size (.tup xs),o.laid (t':=s1.toks) (fun b u e=>ai _ e) (aw _) ?_,rfl,q _ hf⟩;exact⟨z,us,r,⟨_,aB _ rfl,rfl,⟨_,rfl⟩,rfl⟩⟩
theorem zqH(h:PA X es t):PE X (.List es pos) (tLst t):=by intro pins s σ H Q I x;refine wpAny_List_spliced (thn (h pos pins s σ H _ I x) fun us s1 ⟨xs,v,o,r,z,q⟩=>⟨by rw[<- r.length];exact z,?_⟩);have hf:v s1.heap.objs.size=none:=o.hok.fresh (aw _);refine⟨.ref s1.heap.objs.size,upd v s1.heap.objs.size (.lst xs),o.laid (t':=s1.toks) (fun b u e=>ai _ e) (aw _) ?_,rfl,q _ hf⟩;exact⟨z,us,0,r,aB _ rfl⟩
end
abbrev Sp:=List V->Hp->VK->XK->Prop
abbrev CXT:=List Env->Hp->ak->XK->af->ak->Prop
structure Env0(P:aI)(w:aT)(K:qF)(mg:qM)(base:bt)(A:bu)(outer:List Env)(s:ak)(H:Hp):Prop where
 frames:A.frames=some outer
 mod:Mod K mg base
 bs:∀b o,base.get? b=some o->s.heap.get? b=some o/\H b=none
 bsz:base.objs.size<=s.heap.objs.size
 funs:s.heap.FunFrames base outer
 frf:∀b∈frs outer,H b=none
 hok:HOk P w H s.heap
 bare:ik s.gens
def CE(outer:List Env)(P:aI)(w:aT)(H:Hp)(s:ak)(Q:VK)(u:af)(s':ak):Prop :=
 ∃v l,s'.os=s.os/\ik s'.gens/\Un (frs outer) [] H l s.heap s'.heap/\HOk P w l s'.heap/\RelV v u/\Q v l
def CR(l:CXT)(outer:List Env)(P:aI)(w:aT)(H:Hp)(s:ak)(Q:VK)(E:XK)(r:Result)(s':ak):Prop :=
 match r with
 | .ok (.ret u)=>CE outer P w H s Q u s'
 | .ok _=>False
 | .error e=>l outer H s E e s'
structure FnOk(P:aI)(w:aT)(K:qF)(mg:qM)(base:bt)(CX:CXT)(k:Nat)(f:ah)(fd:cJ)(ps:List Str)(sp:Sp):Prop where
 len:∀vs H Q E,sp vs H Q E->vs.length=ps.length
 run:∀(A:bu) (outer:List Env) (s:ak) (H:Hp) (args:Args) (us:List af) (vs:List V) (Q:VK) (E:XK),Room k A->Env0 P w K mg base A outer s H->n0 s fd args (ps.zip us)->Vals vs us->sp vs H Q E ->
  codeAny (model P w) A (.call (.ref f) args) (CR CX outer P w H s Q E) s
theorem FnOk.imp{P:aI}{w:aT}{K:qF}{mg:qM}{base:bt}{u:CXT}{k:Nat}{f:ah}{fd:cJ}{ps:List Str}{v o:Sp}(F:FnOk P w K mg base u k f fd ps v)
  (h:∀l H Q E,o l H Q E->v l H Q E):FnOk P w K mg base u k f fd ps o :=
 ⟨fun l H Q E q=>F.len l H Q E (h _ _ _ _ q),fun A outer s H args us l Q E C I hb x G=>F.run A outer s H args us l Q E C I hb x (h _ _ _ _ G)⟩
section
variable{X:Cx}{pins:qO}{σ:St}{H:Hp}{s s':ak}
theorem Inv.env0(I:Inv X pins σ H s):Env0 X.prog X.w X.K X.mg X.base X.A X.stack s H :=
 ⟨I.ok.frames,I.ok.mod,I.bs,aH I.ok.bsz I.sz,I.stack,I.stkFree,I.hok,I.bare⟩
theorem Inv.after{Q:VK}{u:af}(I:Inv X pins σ H s)(h:CE X.stack X.prog X.w H s Q u s'):EP X pins σ Q u s':=by obtain⟨v,o,os,bare,un,hok,r,q⟩:=h;obtain⟨x,g,d,t,l⟩:=s';obtain rfl:l=s.os:=os;exact⟨v,o,I.call (h':=x) (g':=g) (d':=d) (t':=t) (ch:=[]) un hok bare (fun b z=>absurd z (by simp)),r,q⟩
end
def zp3(v:Sp)(l:List V)(E:XK)(t:TA):TE:=fun σ H Q=>t σ H fun u o=>v (u++l) o Q E
def Binds(K:qF)(fd:cJ)(ps:List Str)(ds:List af):Prop :=
 ∀(s:ak) (us:List af),K.In s.heap->(us++ds).length=ps.length->n0 s fd ⟨us,[]⟩ (ps.zip (us++ds))
theorem Binds.all{K:qF}{fd:cJ}{ps:List Str}(h:∀us:List af,us.length=ps.length->bindArgs fd ⟨us,[]⟩=pure (ps.zip us)):Binds K fd ps []:=fun s us _ l=>by rw[cq]at l ⊢;exact .of_eq (h us l)
def zlB(l:CXT)(X:Cx)(E:XK):Prop:=∀(pins:qO) (σ:St) (H:Hp) (s:ak) (e:af) (s':ak),Inv X pins σ H s->l X.stack H s E e s'->X.xe e s'
section
variable{X:Cx}{CX:CXT}{k:Nat}{f C:ah}{fd:cJ}{ps:List Str}{sp:Sp}{dvs:List V}{ds:List af}{E:XK}{x m:Str}{p pos apos:Pos}{e o:aO}{es:List aO}{ta:TE}{t:TA}
theorem zqo{pins:qO}{σ:St}{H:Hp}{s:ak}{Q:VK}{us:List af}{G:List V}(F:FnOk X.prog X.w X.K X.mg X.base CX k f fd ps sp)(N:Room k X.A)(hb:Binds X.K fd ps ds)(hd:Vals dvs ds)(hx:zlB CX X E)
  (I:Inv X pins σ H s) (r:Vals G us) (h:sp (G++dvs) H Q E):wpAny (model X.prog X.w) X.A (call (.ref f) us) (EP X pins σ Q) X.xe s:=by
 have J:Vals (G++dvs) (us++ds):=r.append hd;have L:(us++ds).length=ps.length:=by rw[<- J.length];exact F.len _ _ _ _ h
 refine wpAny_call (mF (F.run X.A X.stack s H ⟨us,[]⟩ (us++ds) (G++dvs) Q E N I.env0 (hb s us I.kIn L) J h) fun r s' v=>?_);cases r with
 | error e=>exact hx pins σ H s e s' I v
 | ok fl =>
  cases fl with
  | ret u=>exact I.after v
  | next=>exact c9 v
  | brk=>exact c9 v
  | cont=>exact c9 v
theorem zoA(F:FnOk X.prog X.w X.K X.mg X.base CX k f fd ps sp)(R:Room k X.A)(L:Gl X x)(J:X.mg x=some (.ref f))(U:gy X.K (.ref f)=true)(hb:Binds X.K fd ps ds)(hd:Vals dvs ds)(hx:zlB CX X E)
  (ha:PA X (e::es) t) (v:Ndb x:=by decide) (S:starEach (e::es) X.env=(false,eval e X.env)::starEach es X.env:=by rfl) (u:(backTo pos (starEach es X.env)).any (·.1)=false:=by rfl) :
  PE X (.Call (.Name x p) (e::es) [] pos) (zp3 sp dvs E t):=by
 intro pins s σ H Q I h;refine iF (zkj I L J ?_ v);refine PySem.W.callWith_K (h₀:=X.base) I.ok.mod.kin U (thn (ha pos pins s σ H _ I h) fun us s1 ⟨Z,Y,G,r,q⟩=>⟨G.kIn,?_⟩) S u;exact zqo F R hb hd hx G r q
end
structure Uq(N P:List Str)(sc:eP):Prop where
 kind:sc.kind=.function
 co:sc.isCoroutine=false
 gen:sc.isGenerator=false
 nd:N.Nodup
 pre:N.take P.length=P
 par:∀x∈P,sc.names.lookup x=some .local\/sc.names.lookup x=some .cell
 nofree:∀y∈sc.names,y.2≠.free
theorem zgY{kindOf:Str->Option dA}{x:Str}:∀{binds:List (Str×af)}{m:qM},(∀v,(x,v)∉binds)->bindL kindOf binds m x=m x
 | [],_,_=>rfl
 | (n,v)::r,m,h=>by
  unfold bindL;rw[zgY fun w hw=>h w (bP _ hw)];split;have:x≠n:=by rintro rfl;exact h v cj
  simp[this];rfl
theorem zg0{kindOf:Str->Option dA}{x:Str}:∀{binds:List (Str×af)}{m:qM},(∀v,(x,v)∉binds)->bindC kindOf binds m x=m x
 | [],_,_=>rfl
 | (n,v)::r,m,h=>by
  unfold bindC;rw[zg0 fun w hw=>h w (bP _ hw)];split;rfl;have:x≠n:=by rintro rfl;exact h v cj
  simp[this]
theorem zgZ{kindOf:Str->Option dA}{x:Str}{v:af}:∀{P:List Str}{u:List af}{i:Nat}{m:qM},P.Nodup->P[i]?=some x->u[i]?=some v->kindOf x=some .local ->
  bindL kindOf (P.zip u) m x=some v
 | [],_,_,_,_,h,_,_=>by simp at h
 | _::_,[],_,_,_,_,h,_=>by simp at h
 | p::P,w::u,0,m,nd,h1,h2,hk=>by simp at h1 h2;subst h1;subst h2;show bindL kindOf ((p,w)::P.zip u) m p=_;unfold bindL;rw[zgY fun v C=>(fq.mp nd).1 (ft C).1,if_pos hk];simp
 | p::P,w::u,i+1,m,nd,h1,h2,hk=>by show bindL kindOf ((p,w)::P.zip u) m x=_;unfold bindL;exact zgZ (i:=i) (fq.mp nd).2 (by simpa using h1) (by simpa using h2) hk
theorem zg1{kindOf:Str->Option dA}{x:Str}{v:af}:∀{P:List Str}{u:List af}{i:Nat}{m:qM},P.Nodup->P[i]?=some x->u[i]?=some v->kindOf x≠some .local ->
  bindC kindOf (P.zip u) m x=some v
 | [],_,_,_,_,h,_,_=>by simp at h
 | _::_,[],_,_,_,_,h,_=>by simp at h
 | p::P,w::u,0,m,nd,h1,h2,hk=>by simp at h1 h2;subst h1;subst h2;show bindC kindOf ((p,w)::P.zip u) m p=_;unfold bindC;rw[zg0 fun v C=>(fq.mp nd).1 (ft C).1,if_neg hk];simp
 | p::P,w::u,i+1,m,nd,h1,h2,hk=>by show bindC kindOf ((p,w)::P.zip u) m x=_;unfold bindC;exact zg1 (i:=i) (fq.mp nd).2 (by simpa using h1) (by simpa using h2) hk
def start(N:List Str)(l:List V):St:=l.map some++bM (N.length - l.length) none
def cxOf(o:CXT)(P:aI)(w:aT)(K:qF)(mg:qM)(base:bt)(N:List Str)(qual:Str)(scope:eP)(f:ah)(cd:af)(A:bu)(outer:List Env)(s:ak)(H:Hp)(E:XK):Cx where
 prog:=P
 w:=w
 K:=K
 mg:=mg
 base:=base
 A:=A.deeper (envOfC qual scope s.heap.objs.size f cd)
 N:=N
 s₀:=s
 H₀:=H
 env:=envOfC qual scope s.heap.objs.size f cd
 outer:=outer
 stack:=envOfC qual scope s.heap.objs.size f cd::outer
 ex:=[]
 calm:=true
 fn:=fun _=>true
 pn:=[]
 xe:=fun e s'=>wpAny (model P w) (A.deeper (envOfC qual scope s.heap.objs.size f cd)) (leaving (envOfC qual scope s.heap.objs.size f cd) e) (fun _ l=>o outer H s E e l) (fun u l=>o outer H s E u l) s'
theorem ziB{sc:eP}{n:Nat}{x:Str}(h:sc.names.lookup x=some .cell):∃c,(cellsFrom n sc.names []).lookup x=some c:=by have q:=e7 sc.names n [] (.inl h);exact fZ.mp q
theorem zkK{Y:CXT}{P:aI}{w:aT}{K:qF}{mg:qM}{base:bt}{N ps:List Str}{qual:Str}{scope:eP}{f:ah}{cd:af}{A:bu}{outer:List Env}{s s1:ak}{H:Hp}{E:XK}{us:List af}{G:List V}
  (S:Uq N ps scope) (hd:A.handled=none) (C:Env0 P w K mg base A outer s H) (hl:G.length=ps.length) (r:Vals G us)
  (x:InCallC s s.heap.objs.size (bindL (envOfC qual scope s.heap.objs.size f cd).kindOf (ps.zip us) fun _=>none) (cellsFrom (s.heap.objs.size+1) scope.names []) (bindC (envOfC qual scope s.heap.objs.size f cd).kindOf (ps.zip us) fun _=>none) s1) :
  Inv (cxOf Y P w K mg base N qual scope f cd A outer s H E) [] (start N G) H s1:=by
 have hpl:ps.length<=N.length:=by have:=congrArg eI S.pre;rw[cw]at this;lia
 obtain⟨U,tk,rfl,Z⟩:=x.done;have J:∀b:ah,b∉(cxOf Y P w K mg base N qual scope f cd A outer s H E).ex:=fun b z=>absurd (show b∈([]:List ah) from z) (by simp);refine⟨⟨C.mod,S.kind,rfl,rfl,aw _,fun y z c U o=>?_,fun y I=>?_,fun y c _ h=>?_,fun _=>hd,Around.frames_deeper C.frames,.inr ⟨rfl,rfl⟩,fun b z=>absurd z (J b),C.bs,C.bsz,fun b _ _=>J b,fun b z=>absurd z (J b),C.funs,C.frf⟩,
  rfl,C.bare,Un.kept Z,⟨_,x.toInCall.ns,fun i y v U o h3=>?_⟩,fun y c h=>⟨_,x.cell y c h⟩,C.hok.fresh (aw _),fun y c h=>?_,fun p R=>absurd (show p∈([]:qO) from R) (by simp),C.hok.kept Z,?_⟩
 exact name_of_addr x.apart (eQ U) (eQ o);have I:scope.names.lookup y=some .cell\/scope.names.lookup y=some .free:=I;rcases I with I|I;exact ziB I;exact absurd rfl (S.nofree _ (eQ I));exact cO (x.above y c (eQ h));have hi:i<G.length:=by unfold start at o;by_cases hi:i<G.length;exact hi;rw[aR (by simpa using hi)]at o;rw[dG]at o;split at o <;> cases o
 have ha:G[i]?=some v:=by
  unfold start at o;rw[bh (by simpa using hi),aU]at o;cases e:G[i]? with
  | none=>rw[e]at o;cases o
  | some a=>rw[e]at o;cases o;rfl
 obtain⟨u,hu,rv⟩:=r.get ha;have R:ps[i]?=some y:=by rw[<- S.pre,List.getElem?_take_of_lt (by lia)];exact U
 have L:ps.Nodup:=by rw[<- S.pre];exact S.nd.sublist (mG _ _)
 refine⟨u,rv,?_⟩;rcases S.par y (aX R) with k|k;exact .inl ⟨k,zgZ L R hu k⟩;obtain⟨c,e⟩:=ziB (n:=s.heap.objs.size+1) k;refine .inr ⟨.inl k,c,e,?_⟩;have q:=x.cell y c e;rw[zg1 L R hu (by show scope.names.lookup y≠_;rw[k];decide)]at q;exact q;exact C.hok.fresh (cO (x.above y c (eQ h)));unfold start;show _=N.length;rw[aM,aJ,gL];lia
theorem zuT{Z:CXT}{P:aI}{w:aT}{K:qF}{mg:qM}{base:bt}{k:Nat}{f:ah}{name qual:Str}{params:Arguments}{body:List cN}{scope:eP}{dV kV doc pm C ct oc:af}{an od:Option ah}
  {osl:Array (Option af)} {N ps:List Str} {sp:Sp} (lk:K.lookup f=some ⟨oc,od,.func (cP name qual params body scope dV kV doc pm an C ct),osl⟩) (hcd:gz K C qual=true) (S:Uq N ps scope)
  (len:∀G H Q E,sp G H Q E->G.length=ps.length)
  (HD:∀(A:bu) (outer:List Env) (s:ak) (H:Hp) (G:List V) (Q:VK) (E:XK),Room k (A.deeper (envOfC qual scope s.heap.objs.size f C))->sp G H Q E ->
   ∃t,PSs (cxOf Z P w K mg base N qual scope f C A outer s H E) body t/\t { nx:=fun _ L=>Q .non L,rt:=Q } (start N G) H) :
  FnOk P w K mg base Z (k+1) f (cP name qual params body scope dV kV doc pm an C ct) ps sp:=by
 refine⟨len,fun A outer s H args us G Q E hr U hb r Y=>?_⟩;have hl:=len _ _ _ _ Y;have KX:K.In s.heap:=U.mod.kin.keeps fun b o e=>(U.bs b o e).1;have lim:s.heap.NoLimit:=U.mod.nolimit.keeps fun b o e=>(U.bs b o e).1;have HG:∀y∈ps.zip us,scope.names.lookup y.1=some .local\/(scope.names.lookup y.1=some .cell/\((cellsFrom (s.heap.objs.size+1) scope.names []).lookup y.1).isSome=true):=fun⟨n,v⟩ hy=>by rcases S.par n (ft hy).1 with q|q;exact .inl q;exact .inr ⟨q,e7 _ _ _ (.inl q)⟩
 refine codeAny_call_function hr.depth (KX _ _ lk) rfl S.co S.gen rfl (PySem.W.codeRec_of KX hcd) (hb _ _ _ _ ?_);refine wpAny_newFunctionEnv_cells S.kind HG fun env he s1 x=>?_;subst he;refine⟨lim.keeps x.toInCall.keep,codeAny_func ?_⟩;obtain⟨t,ht,hq⟩:=HD A outer s H G Q E (hr.deeper _) Y;have I:Inv (cxOf Z P w K mg base N qual scope f C A outer s H E) [] (start N G) H s1:=zkK S hr.hd U hl r x;refine cH (ht [] s1 (start N G) H _ I hq) (fun fl s' R=>?_) fun e s' R=>R;have fin:∀{σ':St} {L:Hp} {v:V} {u:af},Inv (cxOf Z P w K mg base N qual scope f C A outer s H E) [] σ' L s'->RelV v u->Q v L->CE outer P w H s Q u s' :=
  fun {σ' L v u} J rv q=>⟨v,L,J.os,J.bare,J.base,J.hok,rv,q⟩
 cases fl with
 | ret u =>obtain⟨v,σ',L,J,rv,q⟩:=R;exact fin J rv q
 | next =>obtain⟨σ',L,J,q⟩:=R;exact fin (v:=V.non) (u:=iA) J rfl q
 | brk =>obtain⟨_,_,_,q⟩:=R;exact c9 q
 | cont =>obtain⟨_,_,_,q⟩:=R;exact c9 q
section
variable{X:Cx}{x:Str}{p pos:Pos}{e:aO}{es:List aO}{t:TA}{id T:String}{r:List V->Hp->VK->Prop}
def tCB(r:List V->Hp->VK->Prop)(t:TA):TE:=fun σ H Q=>t σ H fun o l=>r o l Q
theorem zmp(hc:JU X (.builtin id) r)(R:Gl X x)(G:X.mg x=none)(Y:bootBuiltins x=some (.builtin id))(ha:PA X (e::es) t)(U:x ≠ "__name__":=by decide) (v:Ndb x:=by decide)
  (he:starEach (e::es) X.env=(false,eval e X.env)::starEach es X.env:=by rfl) (o:(backTo pos (starEach es X.env)).any (·.1)=false:=by rfl):PE X (.Call (.Name x p) (e::es) [] pos) (tCB r t):=by
 intro pins s σ H Q I h;refine iF (UG I R G Y ?_ U v);exact m9 (thn (ha pos pins s σ H _ I h) fun us s1 ⟨S,L,J,Z,q1⟩=>hc pins s1 σ L S us Q J Z q1) he o
theorem zj0(hc:JU X (.type T) r)(L:Gl X x)(v:X.mg x=none)(U:bootBuiltins x=some (.type T))(ha:PA X (e::es) t)(S:x ≠ "__name__":=by decide) (u:Ndb x:=by decide)
  (Z:starEach (e::es) X.env=(false,eval e X.env)::starEach es X.env:=by rfl) (o:(backTo pos (starEach es X.env)).any (·.1)=false:=by rfl):PE X (.Call (.Name x p) (e::es) [] pos) (tCB r t):=by
 intro pins s σ H Q I h;refine iF (UG I L v U ?_ S u);exact cL (thn (ha pos pins s σ H _ I h) fun us s1 ⟨R,J,G,Y,q1⟩=>hc pins s1 σ J R us Q G Y q1) Z o
end
end L2
namespace HT
open PySem PyProof.Rows
def lexLt:List Int->List Int->Bool
 | [],[]=>false
 | [],_::_=>true
 | _::_,[]=>false
 | x::xs,y::ys=>if x=y then lexLt xs ys else decide (x<y)
theorem zi2(x y:Int)(xs l:List Int):lexLt (x::xs) (y::l)=if x=y then lexLt xs l else decide (x<y):=rfl
theorem zfo:lexLt [] []=false:=rfl
theorem zer(y:Int)(l:List Int):lexLt [] (y::l)=true:=rfl
theorem zes(x:Int)(xs:List Int):lexLt (x::xs) []=false:=rfl
theorem zm8(A:bu)(s:ak)(a:Int)(t:Tok)(c:Int)(u:Tok):∃e,ot A s (.int a t) (.int c u) e/\(e=true↔a=c) :=
 ⟨(a == c),iG a t c u,by simp⟩
theorem zmc(A:bu)(s:ak)(a:Int)(t:Tok)(c:Int)(u:Tok)(prog:aI)(w:aT)(E:qV)(Q:qV)(h:Q (.bool (decide (a<c))) s) :
  wpAny (model prog w) A (richCompare .Lt (.int a t) (.int c u)) Q E s :=
 (ve h:wpAny (model prog w) A (compareOp .Lt (.int a t) (.int c u)) Q E s)
section
open PySem.SeqAt
open PySem.AutoSeq1 (wpAny_loadPart')
open PySem.MeetsSeq PySem.MeetsSeq2 PySem.MeetsSeq3
theorem zeY(l b:ah)(items Y:Array af)(n n2:Nat)(dd dd2:Option ah)(sl sl2:Array (Option af))(ns ms:List Int)(hi:fO items.toList ns)(hj:fO Y.toList ms) :
  Meets (iq.«tuple.__lt__» ⟨[.ref l,.ref b],[]⟩)
   (fun _ R s=>s.heap.get? l=some { cls:=.type "tuple",dict:=dd,data:=.seq items n,slots:=sl }/\s.heap.get? b=some { cls:=.type "tuple",dict:=dd2,data:=.seq Y n2,slots:=sl2 } /\
    R (.ok (.ret (.bool (lexLt ns ms)))) s) :=
 .of_wp fun prog w A R s h=>by
  obtain⟨hp,g,d,tk,os⟩:=s;obtain⟨hl,hb,h⟩:=h;have f2:=AutoSeq1.sub_tuple_tuple;have z1:items.size=ns.length:=by rw[<- hi.length];simp
  have z2:Y.size=ms.length:=by rw[<- hj.length];simp
  wp_walk using nI hl,nI hb,wpAny_forIn_list _ (fun rest b s'=>b.1=none/\s'=⟨hp,g,d,tk,os⟩/\∃(vs ws:List af) (C G:List Int),rest=vs.zip ws /\
   fO vs C/\fO ws G/\C.length+Y.size=G.length+items.size/\R (.ok (.ret (.bool (lexLt C G)))) ⟨hp,g,d,tk,os⟩) _
  case turn =>
   rintro⟨y,x⟩ rest b s' ⟨U,rfl,vs,ws,C,G,J,S,I,v,L⟩;cases S with
   | nil=>rw[List.zip_nil_left]at J;cases J
   | cons a t hvi' =>
    cases I with
    | nil=>rw[List.zip_nil_right]at J;cases J
    | cons c u Z =>
     rw[iH]at J;injection J with hyx hrest;injection hyx with hy hx;subst hy hx;rw[zi2]at L;simp only[aF]at v;obtain⟨e,he,N⟩:=zm8 A.in1 ⟨hp,g,d,tk,os⟩ a t c u;refine ab (he prog w _ _ ?_);cases e with
     | true =>rw[if_pos (N.mp rfl)]at L;wp_walk;exact⟨rfl,rfl,_,_,_,_,hrest,hvi',Z,by lia,L⟩
     | false =>rw[if_neg (fun q=>absurd (N.mpr q) aW)]at L;have hri:=zmc A.in1 ⟨hp,g,d,tk,os⟩ a t c u prog w;wp_walk using hri;exact⟨_,rfl,by simpa using L⟩
  case fin =>
   rintro⟨b1,b2⟩ s' ⟨U,rfl,vs,ws,C,G,J,S,I,v,L⟩;simp only at U;subst U;have hv:lexLt C G=decide (items.size<Y.size):=by
    cases S with
    | nil =>
     cases I with
     | nil =>simp only[bO]at v;rw[zfo];exact(decide_eq_false (by lia)).symm
     | cons c u hw =>simp only[bO,aF]at v;rw[zer];exact(decide_eq_true (by lia)).symm
    | cons a t hv =>
     cases I with
     | nil =>simp only[bO,aF]at v;rw[zes];exact(decide_eq_false (by lia)).symm
     | cons c u hw =>rw[iH]at J;cases J
   rw[hv]at L;wp_walk;exact⟨_,rfl,by simpa[m5] using L⟩
  case h =>exact⟨rfl,rfl,items.toList,Y.toList,ns,ms,rfl,hi,hj,by lia,h⟩
end
section
variable{prog:aI}{w:aT}{A:bu}{E:qV}{s:ak}
theorem zi1{l b:ah}{items I:Array af}{ns C:List Int}{Q:qV}(U:og s.heap l items)(hb:og s.heap b I)(hi:fO items.toList ns)(S:fO I.toList C)
  (Z:A.units<cLine) (h:Q (.bool (lexLt ns C)) s):wpAny (model prog w) A (compareOp .Lt (.ref l) (.ref b)) Q E s:=by
 obtain⟨⟨cls,Y,data,sl⟩,N,hc,n,hd⟩:=id U;obtain⟨⟨R,J,data2,G⟩,u,v,n2,hd2⟩:=id hb;simp only at hc hd v hd2;subst hc hd v hd2;exact richCompare_meets_room (op:=.Lt) ⟨_,N,rfl⟩ ⟨_,u,rfl⟩ PySem.F.slot_tuple_lt PySem.F.entry_tuple_lt (PySem.F.args_tuple_lt_2 _ _) (zeY l b items I n n2 Y J sl G ns C hi S)
  ⟨N,u,show kG (lexLt ns C)≠Value.notImplemented/\Q (.bool (lexLt ns C)) s from⟨(fun x=>nomatch x),h⟩⟩ Z
theorem zpA{t b:ah}{v l:List af}{Q:qV}(R:og s.heap t v.toArray)(hb:og s.heap b l.toArray)(J:v≠[])
  (U:l=[]->Q (.ref t) s) (S:l≠[]->Q (.ref s.heap.objs.size) { s with heap:=s.heap.push { cls:=.type "tuple",data:=.seq (v++l).toArray } })
  (hsz:v.length+l.length<=sizeLine):wpAny (model prog w) A (binaryOp .Add (.ref t) (.ref b)) Q E s:=by
 obtain⟨⟨cls,L,data,sl⟩,I,hc,n,hd⟩:=id R;obtain⟨⟨N,G,data2,x⟩,u,C,n2,hd2⟩:=id hb;simp only at hc hd C hd2;subst hc hd C hd2;have e:v.toArray++l.toArray=(v++l).toArray:=by simp
 by_cases hw:l=[];exact mH ⟨_,I,rfl⟩ ⟨_,u,rfl⟩ kg l8 gA gu (gf _ _)
  (tuple_addW1 t b v.toArray l.toArray n n2 L G sl x (by simpa using J) (by simp[hw])) ⟨I,u,U hw⟩
 refine mH ⟨_,I,rfl⟩ ⟨_,u,rfl⟩ kg l8 gA gu (gf _ _)
  (tuple_addW2 t b v.toArray l.toArray n n2 L G sl x (by simpa using J) (by simpa using hw) (by rw[ay,ay];exact hsz)) ⟨I,u,?_⟩
 rw[e];exact S hw
def sIx(n d:Nat):Option Int->Nat
 | none=>d
 | some v=>if v<0 then(v+(n:Int)).toNat else min v.toNat n
theorem ze3(n d:Nat):sIx n d none=d:=rfl
theorem zg7(n d k:Nat):sIx n d (some (k:Int))=min k n:=by show(if (k:Int)<0 then((k:Int)+(n:Int)).toNat else min (k:Int).toNat n)=min k n;rw[if_neg (by lia),fD]
theorem zqn(n d:Nat)(hd:d<=n)(o:Option Int):sIx n d o<=n:=by
 cases o with
 | none=>exact hd
 | some v =>show(if v<0 then(v+(n:Int)).toNat else min v.toNat n)<=n;by_cases hv:v<0;rw[if_pos hv];lia;rw[if_neg hv];exact Nat.min_le_right _ _
theorem zln(v:Int)(n d:Nat):(if v<0 then max (v+(n:Int)) 0 else min v (n:Int))=((sIx n d (some v):Nat):Int):=by show(if v<0 then max (v+(n:Int)) 0 else min v (n:Int))=(((if v<0 then(v+(n:Int)).toNat else min v.toNat n):Nat):Int);by_cases hv:v<0;simp only[if_pos hv];lia;simp only[if_neg hv];lia
theorem zjd(lo hi:Option Int)(n:Nat):fT lo hi 1 (n:Int)=(((sIx n 0 lo:Nat):Int),((sIx n n hi:Nat):Int)):=by
 have l:¬((1:Int)<0):=by lia
 unfold fT;simp only[l,if_false];refine uv ?_ ?_;cases lo with
 | none=>rfl
 | some v=>exact zln v n 0
 cases hi with
 | none=>rfl
 | some v=>exact zln v n n
theorem ziO(i j:Nat):eo (i:Int) (j:Int) 1=j - i:=by
 unfold eo;have l:(1:Int) > 0:=by lia
 simp only[l,if_true,sE];split <;> lia
theorem zeA{v:af}{o:Option Int}{Q:Option Int->ak->Prop}(p:i5 v o)(h:Q o s):wpAny (model prog w) A (nJ v) Q E s:=by
 cases p with
 | none=>exact ou h
 | int i t=>exact slicePart_int h
theorem zb3{sl:ah}{C v:af}{lo hi:Option Int}{n:Nat}{Q:Int×Int×Nat->ak->Prop}(G:s.heap.IsSliceOf sl C v .none)(pl:i5 C lo)(I:i5 v hi)
  (h:Q (((sIx n 0 lo:Nat):Int),1,sIx n n hi - sIx n 0 lo) s):wpAny (model prog w) A (iI (.ref sl) (pure (n:Int))) Q E s:=by
 obtain⟨os,l,J,u⟩:=id G;unfold iI o5;refine ab (ab (cC l u (x:=C) rfl (ab (cC l u (x:=v) rfl (ab (cC l u (x:=.none) rfl (aj ?_)))))));refine ab (ou ?_);show wpAny _ _ (if ((1:Int) == 0)=true then _ else _) _ _ s;rw[if_neg (by decide)];refine ab (zeA pl (ab (zeA I (ab (aj ?_)))));show wpAny _ _ (match fT lo hi 1 (n:Int) with|(lo,hi)=>pure (lo,(1:Int),eo lo hi 1)) _ _ s;rw[zjd lo hi n];show wpAny _ _ (pure (((sIx n 0 lo:Nat):Int),(1:Int),eo ((sIx n 0 lo:Nat):Int) ((sIx n n hi:Nat):Int) 1)) _ _ s;rw[ziO];exact aj h
theorem zmk(xs:Array af)(i k:Nat):((cg k).filterMap fun(m:Nat)=>xs[((i:Int)+(m:Int)*1).toNat]?).toArray=((xs.toList.drop i).take k).toArray:=by
 have e:(fun(m:Nat)=>xs[((i:Int)+(m:Int)*1).toNat]?)=fun m=>xs[i+m]?:=by
  funext m;have:((i:Int)+(m:Int)*1).toNat=i+m:=by lia
  rw[this]
 rw[e];have:=pick_run xs i k;rw[List.filterMap_map]at this;have e2:((fun x=>xs[x]?)∘fun x=>i+x)=fun m=>xs[i+m]?:=rfl;rw[e2]at this;rw[this]
theorem zdh{t sl:ah}{items:Array af}{J I:af}{lo hi:Option Int}{Q:qV}(l:og s.heap t items)(L:s.heap.IsSliceOf sl J I .none)(pl:i5 J lo)(N:i5 I hi)
  (hw:¬(sIx items.size 0 lo=0/\sIx items.size items.size hi=items.size))
  (h:Q (.ref s.heap.objs.size) { s with heap:=s.heap.push { cls:=.type "tuple",data:=.seq ((items.toList.drop (sIx items.size 0 lo)).take (sIx items.size items.size hi - sIx items.size 0 lo)).toArray } })
  (hsz:items.size<=sizeLine):wpAny (model prog w) A (getItem (.ref t) (.ref sl)) Q E s:=by
 have u:sizeOk (.seq ((items.toList.drop (sIx items.size 0 lo)).take (sIx items.size items.size hi - sIx items.size 0 lo)).toArray):=by show((items.toList.drop (sIx items.size 0 lo)).take (sIx items.size items.size hi - sIx items.size 0 lo)).toArray.size<=sizeLine;rw[ay,cw,de,aP];lia
 have S:sIx items.size items.size hi<=items.size:=zqn _ _ (aw _) hi;obtain⟨os,x,G,R⟩:=id L;have v:s.TypeIs (.ref sl) "slice":=⟨os,x,G⟩;unfold getItem;try with_reducible refine cE ?_
 first|refine ab (aj ?_)|skip
 refine ab (mI l.typeIs (by decide) ?_);refine ab (dH (name:=aa "__getitem__") l.typeIs bS
  (eS bS l.typeIs lQ ?_ (mm _ _)))
 show wpAny _ _ (iJ (.ref t) >>= _) _ _ s;refine ab (tupleItemsOf_ l ?_);refine ab (ir v ?_);rw[if_pos (by decide)];refine ab (zb3 L pl N ?_);have C:¬((((sIx items.size 0 lo:Nat):Int) == 0&&(1:Int) == 1&&(sIx items.size items.size hi - sIx items.size 0 lo) == items.size)=true):=by intro q;rw[aZ,aZ]at q;have q1:((sIx items.size 0 lo:Nat):Int)=0:=eq_of_beq q.1.1;have q2:sIx items.size items.size hi - sIx items.size 0 lo=items.size:=eq_of_beq q.2;exact hw ⟨by lia,by lia⟩
 show wpAny _ _ (if (((sIx items.size 0 lo:Nat):Int) == 0&&(1:Int) == 1&&(sIx items.size items.size hi - sIx items.size 0 lo) == items.size)=true then _ else _) _ _ s;rw[if_neg C,zmk];first
  | exact ab (m:=eN _) (dI (aj ⟨_,rfl,aj h⟩) u)
  | exact ab (m:=eN _) (dI (ab (aj (aj ⟨_,rfl,aj h⟩))) u)
  | exact ab (ab (m:=eN _) (dI (aj (aj ⟨_,rfl,aj h⟩)) u))
  | exact ab (ab (m:=eN _) (dI (aj ⟨_,rfl,aj h⟩) u))
end
end HT
namespace L2
open PySem PySem.Spec PyProof.Rows
abbrev TO:=St->Hp->(Option Int->Hp->Prop)->Prop
def PO(X:Cx)(e:Option aO)(t:TO):Prop :=
 ∀(pins:qO) (s:ak) (σ:St) (H:Hp) (Q:Option Int->Hp->Prop),Inv X pins σ H s->t σ H Q ->
  wpAny (model X.prog X.w) X.A (evalPart e X.env) (fun u s'=>∃o l,Inv X pins σ l s'/\i5 u o/\Q o l) X.xe s
def zn8:TO:=fun _ H Q=>Q none H
def ztg(t:TE):TO:=fun σ H Q=>t σ H fun x l=>∃i,x=.int i/\Q (some i) l
theorem intsAre_of{ns:List Int}:∀{us:List af},Vals (ns.map V.int) us->fO us ns:=by
 induction ns with
 | nil=>intro us r;rw[fP]at r;cases r;exact .nil
 | cons n ns x =>
  intro us r;rw[aK]at r;cases r with
  | cons v u =>obtain⟨t,e⟩:=v;subst e;exact .cons n t (x u)
section
variable{X:Cx}{e:aO}{te:TE}{lo hi:Option aO}{tl th:TO}{pos p2:Pos}
theorem zor:PO X none zn8:=by intro pins s σ H Q I h;rw[evalPart_none];exact aj ⟨none,H,I,.none,h⟩
theorem zoq(h:PE X e te):PO X (some e) (ztg te):=by intro pins s σ H Q I hw;rw[evalPart_some];refine thn (h pins s σ H _ I hw) fun u s1 l=>?_;obtain⟨x,v,o,C,q1⟩:=l;obtain⟨i,rfl,q⟩:=q1;obtain⟨t,rfl⟩:=C;exact⟨some i,v,o,.int i t,q⟩
def SlR(X:Cx)(r:V->Option Int->Option Int->Hp->VK->Prop):Prop :=
 ∀(pins:qO) (s:ak) (σ:St) (H:Hp) (x:V) (v G C:af) (lo hi:Option Int) (sl:ah) (Q:VK),Inv X pins σ H s->RelV x v->s.heap.IsSliceOf sl G C .none->i5 G lo->i5 C hi->r x lo hi H Q ->
  ∃T id,typeLookup (.type T) "__getitem__" = pure (some (.builtin id))/\s.TypeIs v T/\wpAny (model X.prog X.w) X.A (getItem v (.ref sl)) (EP X pins σ Q) X.xe s
theorem SlR.or{r C:V->Option Int->Option Int->Hp->VK->Prop}(h:SlR X r)(h':SlR X C):SlR X (fun x lo hi H Q=>r x lo hi H Q\/C x lo hi H Q):=by intro pins s σ H x v u l lo hi sl Q I J G pl o q;rcases q with q|q;exact h pins s σ H x v u l lo hi sl Q I J G pl o q;exact h' pins s σ H x v u l lo hi sl Q I J G pl o q
def tSl(r:V->Option Int->Option Int->Hp->VK->Prop)(te:TE)(tl th:TO):TE:=fun σ H Q=>te σ H fun x C=>tl σ C fun l o=>th σ o fun u v=>r x l u v Q
theorem zmm{r:V->Option Int->Option Int->Hp->VK->Prop}(hr:SlR X r)(he:PE X e te)(hl:PO X lo tl)(hu:PO X hi th):PE X (.Subscript e (.Slice lo hi none p2) pos) (tSl r te tl th):=by intro pins s σ H Q I h;refine ow (thn (he pins s σ H _ I h) fun v s1 C=>?_);obtain⟨x,Z,N,r1,q1⟩:=C;refine wpAny_Slice (thn (hl pins s1 σ Z _ N q1) fun J s2 ⟨l,H2,I2,pl,q2⟩=>thn (hu pins s2 σ H2 _ I2 q2) fun G s3 C=>?_);obtain⟨u,L,I3,U,q3⟩:=C;rw[evalPart_none];refine aj ?_;have Y:Inv X pins σ L { s3 with heap:=s3.heap.push { cls:=.type "slice",data:=.fields #[J,G,.none] } }:=I3.kept (t':=s3.toks) fun b ob q=>ai _ q;obtain⟨T,id,hT,R,hg⟩:=hr pins { s3 with heap:=s3.heap.push { cls:=.type "slice",data:=.fields #[J,G,.none] } } σ L x v J G l u s3.heap.objs.size Q Y r1 (vV ..) pl U q3;show wpAny (model X.prog X.w) X.A (subscriptTail e (.Slice lo hi none p2) v (.ref s3.heap.objs.size)) (EP X pins σ Q) X.xe { s3 with heap:=s3.heap.push { cls:=.type "slice",data:=.fields #[J,G,.none] } };exact tail_any (ops:=[.ref s3.heap.objs.size,v]) R hT hg (by with_unfolding_all rfl)
def cutV(xs:List V)(lo hi:Option Int):List V:=(xs.drop (HT.sIx xs.length 0 lo)).take (HT.sIx xs.length xs.length hi - HT.sIx xs.length 0 lo)
theorem zhL(xs:List V)(lo hi:Option Int):(cutV xs lo hi).length<=xs.length:=by unfold cutV;rw[cw,de];lia
def rSlT(K:qF):V->Option Int->Option Int->Hp->VK->Prop:=fun x lo hi H Q=>∃a xs,x=.ref a/\SqT K H a xs /\
 ¬(HT.sIx xs.length 0 lo=0/\HT.sIx xs.length xs.length hi=xs.length)/\∀p,H p=none->Q (.ref p) (upd H p (.tup (cutV xs lo hi)))
theorem zp7:SlR X (rSlT X.K):=by
 intro pins s σ H x v U S lo hi sl Q I R N pl L h;obtain⟨a,xs,rfl,hx,hw,q⟩:=h;cases R;obtain⟨C,r,G,J⟩:=I.tuple hx;have l:C.toArray.size=xs.length:=by rw[ay];exact r.length.symm
 refine⟨"tuple",_,bS.lookup,G.typeIs,?_⟩;refine HT.zdh G N pl L (by rw[l];exact hw) ?_ (by rw[l];exact J);rw[l];refine⟨.ref s.heap.objs.size,_,I.laid (t':=s.toks) (o:=.tup (cutV xs lo hi)) (fun b Y q=>ai _ q) (aw _) ?_,rfl,q _ (I.hok.fresh (aw _))⟩;exact⟨aH (zhL xs lo hi) J,_,(r.drop (HT.sIx xs.length 0 lo)).take (HT.sIx xs.length xs.length hi - HT.sIx xs.length 0 lo),IsTD.new _ _⟩
def rLtT(K:qF):R2:=fun x y H Q=>∃a b ns o,x=.ref a/\y=.ref b/\SqT K H a (ns.map V.int)/\SqT K H b (o.map V.int)/\Q (.bl (HT.lexLt ns o)) H
theorem zqS(U:X.A.units<cLine):OpR X (compareOp .Lt) (rLtT X.K):=by intro pins s σ H x y v u Q I Y Z h;obtain⟨a,b,ns,G,rfl,rfl,ha,hb,q⟩:=h;cases Y;cases Z;obtain⟨C,J,R,_⟩:=I.tuple ha;obtain⟨o,S,p2,_⟩:=I.tuple hb;have i1:fO C.toArray.toList ns:=intsAre_of J;have N:fO o.toArray.toList G:=intsAre_of S;exact HT.zi1 R p2 i1 N U ⟨.bl (HT.lexLt ns G),H,I,rfl,q⟩
def zt0(K:qF):R2:=fun x y H Q=>∃a b xs l,x=.ref a/\y=.ref b/\SqT K H a xs/\SqT K H b l/\xs≠[]/\xs.length+l.length<=sizeLine /\
 (l=[]->Q (.ref a) H)/\(l≠[]->∀p,H p=none->Q (.ref p) (upd H p (.tup (xs++l))))
theorem Vals.nil_iff{xs:List V}{us:List af}(r:Vals xs us):us=[]↔xs=[]:=by
 cases r with
 | nil=>simp
 | cons _ _=>simp
theorem zoF:OpR X (binaryOp .Add) (zt0 X.K):=by intro pins s σ H x y v u Q I S U h;obtain⟨a,b,xs,N,rfl,rfl,ha,hb,hx,J,q1,q2⟩:=h;cases S;cases U;obtain⟨L,C,R,_⟩:=I.tuple ha;obtain⟨G,l,p2,_⟩:=I.tuple hb;refine HT.zpA R p2 (fun z=>hx (C.nil_iff.mp z)) (fun z=>⟨.ref a,H,I,rfl,q1 (l.nil_iff.mp z)⟩) (fun z=>?_) (by rw[<- C.length,<- l.length];exact J);refine⟨.ref s.heap.objs.size,_,I.laid (t':=s.toks) (o:=.tup (xs++N)) (fun b Y q=>ai _ q) (aw _) ?_,rfl,q2 (fun w=>z (l.nil_iff.mpr w)) _ (I.hok.fresh (aw _))⟩;exact⟨by rw[aM];exact J,_,C.append l,IsTD.new _ _⟩
end
def ixN(n:Nat)(i:Int):Option Nat:=if 0<=i then(if i<n then some i.toNat else none) else if -(n:Int)<=i then some (i+n).toNat else none
def atI{α:Type}(xs:List α)(i:Int):Option α:=(ixN xs.length i).bind fun j=>xs[j]?
theorem zkG{n:Nat}{i:Int}{j:Nat}(h:ixN n i=some j):seqIndex? i n=some j/\j<n/\-(n:Int)<=i/\i<n:=by unfold ixN at h;by_cases h0:0<=i;rw[if_pos h0]at h;by_cases h1:i<n;rw[if_pos h1]at h;have e:i.toNat=j:=aQ h;exact⟨by rw[nA h0 h1,e],by lia,by lia,h1⟩;rw[if_neg h1]at h;cases h;rw[if_neg h0]at h;by_cases h1:-(n:Int)<=i;rw[if_pos h1]at h;have e:(i+n).toNat=j:=aQ h;exact⟨by rw[mJ (by lia) h1,e],by lia,h1,by lia⟩;rw[if_neg h1]at h;cases h
theorem zhR{α:Type}{xs:List α}{i:Int}{v:α}(h:atI xs i=some v):∃j,seqIndex? i xs.length=some j/\xs[j]?=some v/\j<xs.length/\-(xs.length:Int)<=i/\i<xs.length:=by
 unfold atI at h;cases e:ixN xs.length i with
 | none=>rw[e]at h;cases h
 | some j =>rw[e]at h;obtain⟨x,o,u,l⟩:=zkG e;exact⟨j,x,h,o,u,l⟩
theorem zpG{α:Type}{xs:List α}{j:Nat}{v:α}(h:xs[j]?=some v):atI xs (j:Int)=some v:=by
 have l:j<xs.length:=(aL.mp h).1;have e:ixN xs.length (j:Int)=some j:=by unfold ixN;rw[if_pos (by lia),if_pos (by lia)];simp
 unfold atI;rw[e];exact h
def zlA(b:aO):Prop:=∀o i,subscripted b false o i=operate [o,i] (getItem o i)
def IxR(X:Cx)(r:R2):Prop :=
 ∀(value slice:aO) (pins:qO) (s:ak) (σ:St) (H:Hp) (x y:V) (v u:af) (Q:VK),Inv X pins σ H s->RelV x v->RelV y u->r x y H Q ->
  subscripted slice false v u=operate [v,u] (getItem v u)->wpAny (model X.prog X.w) X.A (subscriptTail value slice v u) (EP X pins σ Q) X.xe s
def MtR(X:Cx)(id:String)(r:V->List V->Hp->VK->Prop):Prop :=
 ∀(pins:qO) (s:ak) (σ:St) (H:Hp) (x:V) (xs:List V) (v:af) (us:List af) (Q:VK),Inv X pins σ H s->RelV x v->Vals xs us->r x xs H Q ->
  wpAny (model X.prog X.w) X.A (call (.builtin id) (v::us)) (EP X pins σ Q) X.xe s
section
variable{X:Cx}{a b:aO}{ta tb:TE}{pos:Pos}
theorem IxR.or{r l:R2}(h:IxR X r)(h':IxR X l):IxR X (fun x y H Q=>r x y H Q\/l x y H Q):=by intro value slice pins s σ H x y v u Q I C G q o;rcases q with q|q;exact h value slice pins s σ H x y v u Q I C G q o;exact h' value slice pins s σ H x y v u Q I C G q o
theorem Uk{r:R2}(l:IxR X r)(ha:PE X a ta)(hb:PE X b tb)(o:zlA b):PE X (.Subscript a b pos) (tOp r ta tb):=by intro pins s σ H Q I h;exact ow (binT ha hb I h fun v u s2 x y J L C G q=>l a b pins s2 σ J x y v u Q L C G q (o _ _))
def rIxL(K:qF):R2:=fun x y H Q=>∃p xs i v,x=.ref p/\y=.int i/\SqL K H p xs/\atI xs i=some v/\Q v H
def rIxT(K:qF):R2:=fun x y H Q=>∃p xs i v,x=.ref p/\y=.int i/\SqT K H p xs/\atI xs i=some v/\Q v H
def rIxS:R2:=fun x y H Q=>∃z i c,x=.str z/\y=.int i/\z.length<=sizeLine/\atI z.cps.toList i=some c/\Q (.str ⟨#[c]⟩) H
theorem Ur:IxR X (rIxL X.K):=by
 intro value slice pins s σ H x y v u Q I rx ry h L;obtain⟨p,xs,i,z,rfl,rfl,U,Z,q⟩:=h;cases rx;obtain⟨t,rfl⟩:=ry;obtain⟨G,r,pl,hz⟩:=I.list U;obtain⟨j,l,h2,h3,h4,Y⟩:=zhR Z;obtain⟨w,R,J⟩:=r.get h2;have S:=r.length;have hn:=UH;have fin:EP X pins σ Q w s:=⟨z,H,I,J,q⟩;by_cases h0:0<=i;have C:i.toNat=j:=by rw[nA h0 Y]at l;exact aQ l
 exact item_listR pl.isList h0 (by lia) (by rw[C];simpa using R) fin L;have C:(i+(G.toArray.size:Int)).toNat=j:=by rw[mJ (by lia) h4]at l;rw[ay,<- S];exact aQ l
 exact kK (x:=w) pl.isList.typeIs slot_list_getitem.lookup
  (wpAny_getItem_list_neg (Q:=fun r s'=>r=w/\EP X pins σ Q r s') pl.isList (by lia) (by rw[ay] <;> lia) (by lia) (by rw[C];simpa using R) ⟨rfl,fin⟩) L
theorem zrG:IxR X (rIxT X.K):=by
 intro value slice pins s σ H x y v u Q I S U h G;obtain⟨p,xs,i,z,rfl,rfl,J,L,q⟩:=h;cases S;obtain⟨t,rfl⟩:=U;obtain⟨C,r,pl,hz⟩:=I.tuple J;obtain⟨j,Y,N,Z,h4,h5⟩:=zhR L;obtain⟨w,R,l⟩:=r.get N;have o:=r.length;have hn:=UH;have fin:EP X pins σ Q w s:=⟨z,H,I,l,q⟩;exact kK (x:=w) pl.typeIs slot_tuple_getitem.lookup
  (getItem_tuple (j:=j) (Q:=fun r s'=>r=w/\EP X pins σ Q r s') pl (by lia) (by lia) (by rw[ay,<- o];exact Y) (by simpa using R) ⟨rfl,fin⟩) G
theorem zrH:IxR X rIxS:=by
 intro value slice pins s σ H x y v u Q I R S h C;obtain⟨z,i,c,rfl,rfl,Z,J,q⟩:=h;obtain⟨t,rfl⟩:=R;obtain⟨t',rfl⟩:=S;obtain⟨j,l,L,U,N,G⟩:=zhR J;have o:z.cps.toList.length=z.length:=by simp[gn]
 rw[o]at l N G;have Y:=UH;exact tail_any (gQ s z t) slot_str_getitem.lookup (getItem_str (c:=c) (by have e1:decide (i < -(2 ^ 63:Int))=false:=decide_eq_false (by lia);have e2:decide (i>=2 ^ 63)=false:=decide_eq_false (by lia);rw[e1,e2,p8]) (by rw[l];simpa using L) ⟨.str ⟨#[c]⟩,H,I.tok _,⟨_,rfl⟩,q⟩) C
def rIx(K:qF):R2:=fun x y H Q=>rIxL K x y H Q\/rIxT K x y H Q\/rIxS x y H Q
theorem zrI:IxR X (rIx X.K):=Ur.or (zrG.or zrH)
theorem zi0(l:List af)(n j:Nat)(u:af):fK (·.setIfInBounds j u) { cls:=.type "list",data:=.seq l.toArray n }={ cls:=.type "list",data:=.seq (l.set j u).toArray n }:=by simp[fK]
theorem Inv.lst{pins:qO}{σ:St}{H:Hp}{s:ak}{p:ah}{xs:List V}(I:Inv X pins σ H s)(h:H p=some (.lst xs)) :
  ∃(o:List af) (n:Nat),Vals xs o/\s.heap.get? p=some { cls:=.type "list",data:=.seq o.toArray n }/\xs.length<=sizeLine:=by
 obtain⟨z,o,n,r,e⟩:=I.hok p _ h;exact⟨o,n,r,e,z⟩
theorem Inv.lstUpd{pins:qO}{σ:St}{H:Hp}{s:ak}{p:ah}{xs v:List V}{o its':List af}{n C:Nat}{f:Obj->Obj}(I:Inv X pins σ H s)(h:H p=some (.lst xs))
  (G:s.heap.get? p=some { cls:=.type "list",data:=.seq o.toArray n }) (hf:f { cls:=.type "list",data:=.seq o.toArray n }={ cls:=.type "list",data:=.seq its'.toArray C }) (r:Vals v its') (J:v.length<=sizeLine) (t:Nat) :
  Inv X pins σ (upd H p (.lst v)) { s with heap:=s.heap.update p f,toks:=t }:=by
 have e:(s.heap.update p f).get? p=some { cls:=.type "list",data:=.seq its'.toArray C }:=by rw[kW f G (by rw[hf] <;> rfl),hf]
 refine I.write (x:=p) (e:=p) (by rw[h];trivial) (.inl rfl) (fun b u hb q=>(kL _ _ (ip hb)).trans q) ⟨_,e⟩ ?_;exact⟨J,its',C,r,e⟩
def ztY:V->V->V->Hp->(Hp->Prop)->Prop:=fun o i v H Q=>∃p xs k j,o=.ref p/\i=.int k/\H p=some (.lst xs)/\ixN xs.length k=some j/\Q (upd H p (.lst (xs.set j v)))
theorem set_list:PSet X ztY:=by
 intro pins s σ H o i v ov iv u Q I ro ri Z h;obtain⟨p,xs,k,j,rfl,rfl,U,hj,q⟩:=h;cases ro;obtain⟨t,rfl⟩:=ri;obtain⟨x,n,r,G,hz⟩:=I.lst U;obtain⟨C,h2,R,Y⟩:=zkG hj;have J:=r.length;have hn:=UH;have S:Inv X pins σ (upd H p (.lst (xs.set j v))) { s with heap:=s.heap.update p (fK (·.setIfInBounds j u)) } :=
  I.lstUpd U G (zi0 x n j u) (r.set Z j) (by rw[kS];exact hz) s.toks
 by_cases h0:0<=k;have L:k.toNat=j:=by rw[nA h0 Y]at C;exact aQ C
 exact PySem.W.ki_setAt G h0 (by lia) (by rw[ay,<- J];exact Y) (by rw[L];exact⟨_,S,q⟩);have L:(k+(x.toArray.size:Int)).toNat=j:=by rw[mJ (by lia) R]at C;rw[ay,<- J];exact aQ C
 exact PySem.W.ki_setBack G (by lia) (by rw[ay,<- J];exact R) (by lia) (by rw[L];exact⟨_,S,q⟩)
theorem zgR:JU X (.builtin "len") (fun xs H Q=>∃p v,xs=[.ref p]/\(SqL X.K H p v\/SqT X.K H p v)/\Q (.int v.length) H):=by intro pins s σ H xs us Q I r h;obtain⟨p,v,rfl,x,q⟩:=h;obtain⟨u,rfl,J⟩:=vals1 r;cases J;have N:=UH;rcases x with x|x;obtain⟨C,G,pl,L⟩:=I.list x;have o:=G.length;exact lO pl.isList (by simp only[ay] <;> lia) ⟨.int v.length,H,I.tok _,⟨s.toks+1,by rw[ay,o]⟩,q⟩;obtain⟨C,G,pl,L⟩:=I.tuple x;have o:=G.length;exact len_tuple pl (by simp only[ay] <;> lia) ⟨.int v.length,H,I.tok _,⟨s.toks+1,by rw[ay,o]⟩,q⟩
theorem Yg:JU X (.type "tuple") (fun xs H Q=>∃p x,xs=[.ref p]/\((SqL X.K H p x/\∀l,H l=none->Q (.ref l) (upd H l (.tup x)))\/(SqT X.K H p x/\Q (.ref p) H))):=by
 intro pins s σ H xs us Q I r h;obtain⟨p,x,rfl,h⟩:=h;obtain⟨u,rfl,R⟩:=vals1 r;cases R;rcases h with⟨G,q⟩|⟨G,q⟩;obtain⟨v,C,pl,N⟩:=I.list G;have L:=C.length;refine call_tuple_list pl.isList (fun h' kp=>?_) (by simp only[ay] <;> lia);have J:Inv X pins σ H { s with heap:=h' }:=I.kept (t':=s.toks) kp;have S:Inv X pins σ (upd H h'.objs.size (.tup x)) { s with heap:=h'.push { cls:=.type "tuple",data:=.seq v.toArray } } :=
  J.laid (t':=s.toks) (fun b o e=>ai _ e) (aw _) (show JE X.prog X.w _ _ _ (.tup x) from⟨N,v,C,IsTD.new _ _⟩)
 exact⟨.ref h'.objs.size,_,S,rfl,q _ (J.hok.fresh (aw _))⟩;obtain⟨v,C,pl,N⟩:=I.tuple G;exact call_tuple_same pl ⟨.ref p,H,I,rfl,q⟩
def tyV(K:qF)(T:String)(x:V)(H:Hp):Prop:=match x with
 | .str _=>T = "str"
 | .int _=>T = "int"
 | .ref p=>(T = "list" /\ ∃xs,SqL K H p xs)\/(T = "tuple" /\ ∃o,K.lookup p=some o/\o.cls=.type "tuple" /\ o.dict=none) \/
   (T = "dict" /\ ((∃l,H p=some (.dK l))\/∃l,H p=some (.dT l)))\/(T = "set" /\ ∃S n,H p=some (.set S n))
 | _=>False
theorem zpV{pins:qO}{σ:St}{H:Hp}{s:ak}{T:String}{x:V}{v:af}(I:Inv X pins σ H s)(r:RelV x v)(ty:tyV X.K T x H) :
  s.TypeIs v T/\∀a,v=.ref a->∃C,s.heap.get? a=some C/\C.dict=none:=by
 cases x with
 | str z =>obtain⟨t,rfl⟩:=r;cases(show T = "str" from ty);exact⟨gQ s z t,fun _ e=>nomatch e⟩
 | int i =>obtain⟨t,rfl⟩:=r;cases(show T = "int" from ty);exact⟨typeIs_int s i t,fun _ e=>nomatch e⟩
 | ref p =>
  cases r;rcases ty with⟨rfl,xs,J⟩|⟨rfl,o,l,hc,hd⟩|⟨rfl,l⟩|⟨rfl,S,n,l⟩;obtain⟨G,_,pl,_⟩:=I.list J;refine⟨pl.isList.typeIs,fun a e=>?_⟩;cases e;obtain⟨o,n,e,c,hd,_⟩:=pl;exact⟨o,e,hd⟩;refine⟨⟨o,I.kIn p o l,hc⟩,fun a e=>?_⟩;cases e;exact⟨o,I.kIn _ o l,hd⟩;have z:∃o,s.heap.get? p=some o/\o.ExactDict:=by rcases l with⟨u,l⟩|⟨u,l⟩;obtain⟨_,_,_,_,o,_,_,e,ex,_⟩:=I.hok p _ l;exact⟨o,e,ex⟩;obtain⟨_,_,_,_,o,_,_,e,ex,_⟩:=I.hok p _ l;exact⟨o,e,ex⟩
  obtain⟨o,e,ex⟩:=z;refine⟨⟨o,e,ex.1⟩,fun a e2=>?_⟩;cases e2;exact⟨o,e,ex.2.1⟩;obtain⟨o,_,_,_,e,ex,_⟩:=I.hok p _ l;refine⟨⟨o,e,ex.1⟩,fun a e2=>?_⟩;cases e2;exact⟨o,e,ex.2.1⟩
 | _=>exact c9 ty
def tBM(K:qF)(T:String)(r:V->List V->Hp->VK->Prop)(to:TE)(t:TA):TE:=fun σ H Q=>to σ H fun x l=>tyV K T x l/\t σ l fun xs o=>r x xs o Q
variable{o e:aO}{es:List aO}{to:TE}{t:TA}{name:Str}{apos HF:Pos}{T id:String}{r:V->List V->Hp->VK->Prop}
theorem Uz(pa:PlainAttrs T)(slot:Slot T name id)(G:typeOf (.builtin id)=pure (.type "method_descriptor")) (Y:MtR X id r) (U:PE X o to) (ha:PA X (e::es) t)
  (E2:attributeBase o name X.env (eval o X.env)=eval o X.env:=by rfl)
  (S:((backTo HF (starEach (e::es) X.env)).all (fun x=>!x.1)&&(backToKw HF (keywordEach [] X.env)).all (fun x=>x.1.isSome)
   && decide ((e::es).length+([]:List e8).length+(if ([]:List e8).isEmpty then 0 else 1)<30))=true:=by rfl)
  (E3:(apos.endLine == HF.line)=true:=by rfl) (hs:starEach (e::es) X.env=(false,eval e X.env)::starEach es X.env:=by rfl) (HR:(backTo HF (starEach es X.env)).any (·.1)=false:=by rfl) :
  PE X (.Call (.Attribute o name apos) (e::es) [] HF) (tBM X.K T r to t):=by
 intro pins s σ H Q I h;refine wpAny_Call_method_late E2 S E3 rfl (thn (U pins s σ H _ I h) fun v s1 J=>?_);obtain⟨x,Z,L,R,ty,q1⟩:=J;obtain⟨h1,h2⟩:=zpV L R ty;refine⟨T,id,pa,slot,G,h1,h2,?_⟩;have N:=ha HF pins s1 σ Z _ L q1;rw[hs]at N ⊢;refine Calls.callWith_builtin (by show(false||(backTo HF (starEach es X.env)).any (·.1))=false;rw[HR] <;> rfl) (Calls.evalArgs_plain ?_);exact thn N fun us s2 ⟨vs,H2,I2,r2,q2⟩=>Y pins s2 σ H2 x vs v us Q I2 R r2 q2
end
def MtM(X:Cx)(id:String)(r:V->List V->Hp->VK->Prop):Prop :=
 ∀(pins:qO) (s:ak) (σ:St) (H:Hp) (x:V) (xs:List V) (v:af) (us:List af) (Q:VK),Inv X pins σ H s->RelV x v->Vals xs us->r x xs H Q ->
  wpAny (model X.prog X.w) X.A (call (.builtin id) (v::us)) (EP X pins σ Q) X.xe s
theorem Vals.one{x:V}{us:List af}(h:Vals [x] us):∃u,us=[u]/\RelV x u:=by
 cases h with
 | cons r t=>cases t;exact⟨_,rfl,r⟩
section
variable{X:Cx}{pins:qO}{σ:St}{H:Hp}{s:ak}{l b:ah}{xs ys zs:List V}
theorem Inv.lset{o its':List af}{n:Nat}{f:Array af->Array af}{t':Nat}(I:Inv X pins σ H s)(G:H l=some (.lst xs))
  (e:s.heap.get? l=some { cls:=.type "list",data:=.seq o.toArray n }) (hf:f o.toArray=its'.toArray) (v:Vals ys its') (J:ys.length<=sizeLine) :
  Inv X pins σ (upd H l (.lst ys)) { s with heap:=s.heap.update l (fK f),toks:=t' }:=by
 have q:=PySem.IsL.update e f;rw[hf]at q;refine I.write (x:=l) (e:=l) (by rw[G];exact trivial) (.inl rfl) (fun L u hb C=>(kL s.heap (fK f) (ip hb)).trans C) ⟨_,q⟩ ?_;exact⟨J,its',_,v,q⟩
theorem Inv.lnew{o:List af}{t':Nat}(I:Inv X pins σ H s)(u:Vals ys o)(v:ys.length<=sizeLine) :
  Inv X pins σ (upd H s.heap.objs.size (.lst ys)) { s with heap:=s.heap.push { cls:=.type "list",data:=.seq o.toArray },toks:=t' } :=
 I.laid (fun _ _ q=>ai _ q) (aw _) ⟨v,o,0,u,aB _ rfl⟩
theorem Inv.fresh(I:Inv X pins σ H s):H s.heap.objs.size=none:=I.hok.fresh (aw _)
theorem Inv.lstM(I:Inv X pins σ H s)(u:H l=some (.lst xs)):xs.length<=sizeLine/\∃(o:List af) (n:Nat),Vals xs o/\xs.length=o.length/\s.heap.get? l=some { cls:=.type "list",data:=.seq o.toArray n }:=by obtain⟨z,o,n,r,e⟩:=I.hok l _ u;exact⟨z,o,n,r,r.length,e⟩
theorem zmx{n:Nat}(h:n<=sizeLine):gh n=false:=by unfold gh;exact decide_eq_false (by lia)
end
section
variable{X:Cx}
def zjJ:V->List V->Hp->VK->Prop:=fun x u H Q=>∃l xs y,x=.ref l/\u=[y]/\H l=some (.lst xs)/\xs.length<sizeLine/\Q .non (upd H l (.lst (xs++[y])))
theorem zd6:MtM X "list.append" zjJ:=by intro pins s σ H x R v us Q I L J h;obtain⟨l,xs,y,rfl,rfl,G,U,q⟩:=h;cases L;obtain⟨u,rfl,N⟩:=J.one;obtain⟨z,C,n,r,S,e⟩:=I.lstM G;refine iK F.slot_list_append ⟨_,e,rfl⟩ F.entry_list_append (F.args_list_append_2 _ _) (PySem.list_append l C.toArray n u (by rw[ay];lia)) ⟨e,?_⟩;refine⟨.non,_,I.lset (its':=C++[u]) G e (by simp) (r.append (.cons N .nil)) ?_,rfl,q⟩;rw[aM,gM];lia
def zol:V->List V->Hp->VK->Prop:=fun x u H Q=>∃l b xs zs,x=.ref l/\u=[.ref b]/\H l=some (.lst xs)/\H b=some (.lst zs)/\xs.length+zs.length<=sizeLine/\Q .non (upd H l (.lst (xs++zs)))
theorem zke:MtM X "list.extend" zol:=by
 intro pins s σ H x vs v us Q I Y L h;obtain⟨l,b,xs,zs,rfl,rfl,J,N,hz,q⟩:=h;cases Y;obtain⟨u,rfl,Z⟩:=L.one;cases Z;obtain⟨z,G,n,r,hl,e⟩:=I.lstM J;obtain⟨z2,C,n2,U,R,e2⟩:=I.lstM N;have hsz:G.toArray.size+C.toArray.size<=sizeLine:=by rw[ay,ay];lia
 have S:¬(!G.toArray.isEmpty&&gh (G.toArray.size+C.toArray.size))=true:=by rw[zmx hsz,lp];exact aW
 refine iK F.slot_list_extend ⟨_,e,rfl⟩ F.entry_list_extend (F.args_list_extend_2 _ _)
  (AutoSeq1.list_extend_list_list_0 l G.toArray n b C.toArray n2 S (by rw[ay];lia) (by lia)) ⟨e,e2,?_⟩
 refine⟨.non,_,I.lset (its':=G++C) J e (by simp) (r.append U) ?_,rfl,q⟩;rw[aM];lia
def rCat:R2:=fun x y H Q=>∃l b xs zs,x=.ref l/\y=.ref b/\H l=some (.lst xs)/\H b=some (.lst zs)/\xs.length+zs.length<=sizeLine/\∀p,H p=none->Q (.ref p) (upd H p (.lst (xs++zs)))
theorem zqY:OpR X (binaryOp .Add) rCat:=by
 intro pins s σ H x y v u Q I R S h;obtain⟨l,b,xs,zs,rfl,rfl,U,J,hz,q⟩:=h;cases R;cases S;obtain⟨z,G,n,r,Z,e⟩:=I.lstM U;obtain⟨z2,C,n2,N,L,e2⟩:=I.lstM J;refine PySem.P.add_list e e2 ?_ (by rw[ay,ay];lia);have Y:G.toArray++C.toArray=(G++C).toArray:=by simp
 rw[Y];exact⟨.ref _,_,I.lnew (t':=s.toks) (r.append N) (by rw[aM];lia),rfl,q _ I.fresh⟩
end
end L2
namespace Att
open PySem PySem.W PySem.Calls PyProof.Rows
theorem zd9{P:oz}{h:bt}:∀(ns:List Int) (u:List af),WellAll P h u (ns.map x6)->fO u ns:=by
 intro ns;induction ns with
 | nil =>intro u w;rw[fP]at w;cases w;exact .nil
 | cons n ns v =>
  intro u w;rw[aK]at w;cases w with
  | cons a b =>cases a;exact .cons _ _ (v _ b)
theorem zjw{l:OpenLaw}{n:Nat}(R:l.most=some n){P:oz}{h:bt}{args:List WData}{vals:List af}
  (J:l.row.toRowW.claim.pre args=true) (C:WellAll P h vals args) :
  ∃a I ns,vals=[cu a]/\args=[WData.list (ns.map x6)]/\h.get? a=some { cls:=.type "list",data:=.seq I.toArray }/\fO I ns/\ns.length<=n:=by
 have G:WShape.hasAll [] args [.list .int]=true:=(pre_splitW J).1;have hc:l.pre.holds [] { args:=args }=true:=(pre_splitW J).2;obtain⟨d,r,rfl,h1,U⟩:=hasAllW_cons G;obtain rfl:=hasAllW_nil U;obtain⟨xs,rfl,N⟩:=hasW_list h1;obtain⟨ns,rfl⟩:=items_int N;have u:ns.length<=n:=by
  unfold OpenLaw.pre at hc;have x:(WTm.not (.lt (.lit (.int (n:Int))) (.len (.arg 0)))).holds [] { args:=[.list (ns.map .int)] }=true:=by have x:=(holds_andW hc).1;rw[R]at x;exact x
  have v:=condW_of x (w_not (w_lt w_lit (w_len_list (w_arg rfl))));rw[aJ]at v;refine nc fun q=>?_;have S:(n:Int)<((ns.length:Nat):Int):=by lia
  first
   | (rw[decide_eq_true S]at v;exact absurd v (by decide))
   | (simp at v;lia)
 cases C with
 | cons w1 Y =>
  cases Y;cases w1 with
  | list L Z=>exact⟨_,_,ns,rfl,rfl,L,zd9 ns _ Z,u⟩
theorem zjS(l:OpenLaw)(args:List WData):l.row.toRowW.claim.post args (.bool true) args=true :=
 postW_of (r:=l.row.toRowW) (X:=(true == true))
  (show wb [] (.bool true) .bool=true by first|rfl|decide|simp[wb,WShape.arms,WShape.armsAll])
  (show(WTm.eq .res (.lit (.bool true))).value [] { args:=args,res:=some (.bool true),after:=args }=some (.bool (true == true)) from w_eq_bool (w_res rfl) w_lit) rfl
theorem attach_call{l:OpenLaw}{n:Nat}{q:aI}{loose:List Str}{XP:(Str->Option af)->bt->Prop}{YP:aT->bt->Prop}{d:DefRec}
  (hn:l.most=some n) (N:d.params.defaults=[])
  (call:∀(w:aT) (s₀ v:ak) (mg R:qM) (L:ah) (o:Obj) (pm cd doc:af) (a:ah) (C:List af) (ns:List Int),
   Ground q loose [] XP w s₀ mg R v.heap->YP w v.heap ->
   v.heap.get? L=some o->o.data=.func (docDef d.name d.params d.body d.scope pm cd doc)->v.heap.CodeRec cd d.name->mg d.name=some (.ref L) ->
   v.heap.get? a=some { cls:=.type "list",data:=.seq C.toArray }->fO C ns->ns.length<=n->v.gens=#[] ->
   codeAny (model l.prog w) callerA (.call (.ref L) ⟨[.ref a],[]⟩) (fun r s'=>r=.ok (.ret (.bool true))/\OldK v.heap s'.heap/\s'.os=v.os/\ik s'.gens) v) :
  WalkO q loose XP YP l.row.toRowW d [] (fun f C=>wc f C):=by
 intro w s₀ v mg R G Y L o pm cd doc dV kV ho hd Z hD S hg args vals as HN hlay hrd U hlo;obtain rfl:dV=.none:=Dflts.none hD N;obtain rfl:kV=.none:=Dflts.noKw hD;obtain⟨a,C,ns,rfl,rfl,I,x,J⟩:=zjw hn HN U;refine enter_call (mF (call w s₀ v mg R L o pm cd doc a C ns G Y ho (fd_plain hd) Z S I x J hg) fun r s' hq=>?_);obtain⟨rfl,h2,h3,h4⟩:=hq;exact⟨.inl ⟨.bool true,.bool true,[],rfl,fun _=>rfl,.bool true,zjS l _,fun _=>⟨mL,fun _ hm=>(nomatch hm)⟩⟩,h2,h3,h4⟩
end Att
namespace L2
open PySem PySem.Spec PyProof.Rows
theorem zjh{u:List af}{ns:List Int}(h:fO u ns):Vals (ns.map V.int) u:=by
 induction h with
 | nil=>exact .nil
 | cons n t h v=>exact .cons ⟨t,rfl⟩ v
def Only(H:Hp):Prop:=∀b,H b=none\/∃o xs,H b=some (.frz o (.lst xs))
theorem zmL{P:aI}{w:aT}{K:qF}{mg mb:qM}{CX:CXT}{k:Nat}{fa a:ah}{fd:cJ}{x:Str}{sp:Sp}{C:ak}{I:List af}{ns:List Int}
  (KX:K.In C.heap) (R:C.heap.Ns mainGlobals mg) (hb:C.heap.Ns builtinsNs mb) (hbb:∀x:Str,x ≠ "__name__" -> mb x=bootBuiltins x) (hlim:C.heap.NoLimit) (hg:C.gens=#[])
  (ha:C.heap.get? a=some { cls:=.type "list",data:=.seq I.toArray }) (hi:fO I ns) (hl:ns.length<=sizeLine) (hr:Room k callerA)
  (F:∀base:bt,K.In base->base.Ns mainGlobals mg->FnOk P w K mg base CX k fa fd [x] sp) (Ic:∀(s:ak) (u:af),n0 s fd ⟨[u],[]⟩ [(x,u)])
  (hsp:∀H:Hp,Only H->SqL K H a (ns.map V.int)->sp [.ref a] H (fun v _=>v=.bl true) fun _ _ _=>False)
  (hCX:∀H e s',CX [] H C (fun _ _ _=>False) e s'->False) :
  codeAny (model P w) callerA (.call (.ref fa) ⟨[.ref a],[]⟩) (fun r s'=>r=.ok (.ret (.bool true))/\OldK C.heap s'.heap/\s'.os=C.os/\ik s'.gens) C:=by
 have rv:=zjh hi;have U:=hi.length;have core:∀H:Hp,Only H->SqL K H a (ns.map V.int)->HOk P w H C.heap->(∀b,H b≠none->b=a)->(H a≠none->K.lookup a=none) ->
   codeAny (model P w) callerA (.call (.ref fa) ⟨[.ref a],[]⟩) (fun r s'=>r=.ok (.ret (.bool true))/\OldK C.heap s'.heap/\s'.os=C.os/\ik s'.gens) C:=by
  intro H hO hS hok hA hK;have HI:∀{b:ah} {o:Obj},C.heap.get? b=some o->H b=none->(hidT C.heap H).get? b=some o:=fun e n=>zm3 e n;have noA:∀{b:ah} {o:Obj} {S:Array rN} {L:Nat},C.heap.get? b=some o->o.data=.dict S L->H b=none:=fun {b o S L} e d=>by
   cases q:H b with
   | none=>rfl
   | some u =>have e':b=a:=hA b (by rw[q];simp);subst e';rw[ha]at e;cases e;have d':Data.seq I.toArray _=Data.dict S L:=d;cases d'
  have G:∀{b:ah} {m:qM},C.heap.Ns b m->(hidT C.heap H).Ns b m:=fun {b m} ⟨o,S,L,e,d,r⟩=>⟨o,S,L,HI e (noA e d),d,r⟩;have Y:K.In (hidT C.heap H):=fun b o e=>HI (KX b o e) (by
   cases q:H b with
   | none=>rfl
   | some u =>have e':b=a:=hA b (by rw[q];simp);subst e';rw[hK (by rw[q];simp)]at e;cases e)
  have hM:Mod K mg (hidT C.heap H):=⟨Y,G R,⟨mb,G hb,hbb⟩,let ⟨mc,h1,h2⟩:=hlim;⟨mc,G h1,h2⟩⟩;have e0:Env0 P w K mg (hidT C.heap H) callerA [] C H:=⟨rfl,hM,fun b o e=>zoK e,sI (zkP _ _),trivial,fun b hb=>absurd (show b∈([]:List ah) from hb) (by simp),hok,.of_eq hg⟩;refine mF ((F _ Y (G R)).run callerA [] C H ⟨[.ref a],[]⟩ [.ref a] [.ref a] _ _ hr e0 (Ic C (.ref a)) (.cons rfl .nil) (hsp H hO hS)) fun r s' h=>?_;cases r with
  | error e=>exact(hCX H e s' h).elim
  | ok fl =>
   cases fl with
   | next=>exact c9 h
   | brk=>exact c9 h
   | cont=>exact c9 h
   | ret u =>
    obtain⟨v,H',os,bare,un,Z,r',q⟩:=h;have q':v=.bl true:=q;subst q';obtain rfl:u=kG true:=r';refine⟨rfl,OldK.of_keep fun b o e=>?_,os,bare⟩;cases q:H b with
    | none=>exact un.keep b o e q (by intro z;exact absurd (show b∈([]:List ah) from z) (by simp)) (by simp)
    | some u =>rcases hO b with z|⟨ob,xs,z⟩;rw[q]at z;cases z;have z2:=un.frzs b ob _ z;obtain⟨e1,_⟩:=hok b _ z;obtain⟨e2,_⟩:=Z b _ z2;rw[e]at e1;cases e1;exact e2
 cases hk:K.lookup a with
 | some o =>have e:=KX a o hk;rw[ha]at e;cases e;refine core (fun _=>none) (fun _=>.inl rfl) (.inr ⟨_,I.toArray,_,hk,rfl,rfl,rfl,by rw[ay,U];exact hl,by simpa using rv⟩) (fun b u z=>by have J:(none:Option HO)=some u:=z;cases J) (fun b z=>absurd rfl z) fun z=>absurd rfl z
 | none =>refine core (fun b=>if b=a then some (.frz { cls:=.type "list",data:=.seq I.toArray } (.lst (ns.map V.int))) else none) (fun b=>?_) (.inl (.inr ⟨{ cls:=.type "list",data:=.seq I.toArray },if_pos rfl⟩)) (fun b u z=>?_) (fun b z=>?_) fun _=>hk;by_cases hb:b=a;exact .inr ⟨_,_,if_pos hb⟩;exact .inl (if_neg hb);by_cases hb:b=a;have J:=(if_pos hb).symm.trans z;cases J;subst hb;exact⟨ha,by rw[aJ];exact hl,I,_,rv,ha⟩;have J:=(if_neg hb).symm.trans z;cases J;by_cases hb:b=a;exact hb;exact absurd (if_neg hb) z
def QB(s:cN):Arguments:=match s with
 | .FunctionDef _ a _ _ _ _ _ _ _ _=>a
 | _=>{ posonlyargs:=[],args:=[],vararg:=none,kwonlyargs:=[],kw_defaults:=[],kwarg:=none,defaults:=[] }
def J9(s:cN):List cN:=match s with
 | .FunctionDef _ _ b _ _ _ _ _ _ _=>b
 | _=>[]
def JC(s:cN):eP:=match s with
 | .FunctionDef _ _ _ _ _ _ sc _ _ _=>sc
 | _=>{ kind:=.function,names:=[],isGenerator:=false,isCoroutine:=false }
abbrev CX0:CXT:=fun _ _ _ _ _ _=>False
abbrev E0:XK:=fun _ _ _=>False
theorem zt4{X:Cx}:zlB CX0 X E0:=fun _ _ _ _ _ _ _ h=>h.elim
structure Fun(K:qF)(x qual:Str)(st:cN)(f:ah)(fd:cJ):Prop where
 ex:∃(oc:af) (od:Option ah) (kV doc pm:af) (an:Option ah) (cdv ct:af) (osl:Array (Option af)),
  fd=cP x qual (QB st) (J9 st) (JC st) .none kV doc pm an cdv ct/\K.lookup f=some ⟨oc,od,.func fd,osl⟩/\gz K cdv qual=true
 kp:gy K (.ref f)=true
section
variable{P:aI}{w:aT}{K:qF}{mg:qM}{base:bt}
theorem Fun.ok{x qual:Str}{st:cN}{f:ah}{fd:cJ}{N ps:List Str}{k:Nat}{v:Sp}(F:Fun K x qual st f fd)(S:Uq N ps (JC st))(len:∀u H Q E,v u H Q E->u.length=ps.length)
  (U:∀(l:af) (A:bu) (outer:List Env) (s:ak) (H:Hp) (u:List V) (Q:VK) (E:XK),Room k (A.deeper (envOfC qual (JC st) s.heap.objs.size f l))->v u H Q E ->
   ∃t,PSs (cxOf CX0 P w K mg base N qual (JC st) f l A outer s H E).nox (J9 st) t/\t { nx:=fun _ R=>Q .non R,rt:=Q } (start N u) H):FnOk P w K mg base CX0 (k+1) f fd ps v:=by
 obtain⟨Z,Y,kV,doc,pm,an,l,ct,I,rfl,J,C⟩:=F.ex;refine zuT J C S len fun A outer s H u Q E L G=>?_;obtain⟨t,h,q⟩:=U l A outer s H u Q E L G;exact⟨t,h.nox,q⟩
theorem Fun.binds{x qual:Str}{st:cN}{f:ah}{fd:cJ}{ps:List Str}(F:Fun K x qual st f fd)
  (h:∀(kV doc pm:af) (an:Option ah) (u ct:af) (us:List af),us.length=ps.length->bindArgs (cP x qual (QB st) (J9 st) (JC st) .none kV doc pm an u ct) ⟨us,[]⟩=pure (ps.zip us)):Binds K fd ps []:=by
 obtain⟨J,I,kV,doc,pm,an,u,ct,v,rfl,G,C⟩:=F.ex;exact .all (h kV doc pm an u ct)
theorem znV{x qual:Str}{st:cN}{f:ah}{I:af}{G an:Option ah}{C:Array (Option af)}{kV doc pm v ct:af}(l:K.lookup f=some ⟨I,G,.func (cP x qual (QB st) (J9 st) (JC st) .none kV doc pm an v ct),C⟩)
  (c:gz K v qual=true) (k:gy K (.ref f)=true):Fun K x qual st f (cP x qual (QB st) (J9 st) (JC st) .none kV doc pm an v ct):=⟨⟨I,G,kV,doc,pm,an,v,ct,C,rfl,l,c⟩,k⟩
end
section
variable{X:Cx}
theorem pv(i:Nat){x:Str}{pos:Pos}(u:X.N[i]?=some x:=by rfl)(o:Vis X.env.scope x:=by walk_at "V")(hd:Ndb x:=by decide)
  (l:Ncd x:=by decide):PE X (.Name x pos) (tVar i):=Qg u o hd l
end
theorem iteF{A B:Prop}(h:B):if false=true then A else B:=by rw[if_neg aW];exact h
theorem iteT{A B:Prop}(h:A):if true=true then A else B:=by rw[if_pos rfl];exact h
def Same(H l:Hp):Prop:=∀b o,H b=some o->l b=some o
theorem Same.refl(H:Hp):Same H H:=fun _ _ h=>h
end L2
namespace L2
open PySem PySem.Spec PyProof PyProof.Rows
def closed(env:Env):List (Str×dA)->List (Str×ah)->List (Str×ah)
 | [],acc=>acc
 | (n,k)::r,acc=>closed env r (if (k == .free)=true then(n,(env.cells.lookup n).getD 0)::acc else acc)
theorem zek{env:Env}:∀(l:List (Str×dA)) (o:List (Str×ah)),(∀x∈l,x.2=.free->∃c,env.cells.lookup x.1=some c) ->
  (forIn l o fun x __s=>if (x.snd == bV)=true then do
    let c <- cellOf env x.fst
    pure (gj ((x.fst,c)::__s))
   else pure (gj __s):Sem (List (Str×ah)))=pure (closed env l o)
 | [],o,_=>rfl
 | (n,k)::r,o,h=>by
  have C:=fun a=>zek (env:=env) r a fun x hx=>h x (bP _ hx);rw[hG];by_cases e:(k == bV)=true;obtain⟨c,hc⟩:=h (n,k) cj (by simpa using e);have u:uB n env.cells=some c:=hc;have e2:cellOf env n=pure c:=by unfold cellOf;rw[u]
  simp only[e,if_true,e2,pure_bind];rw[C];conv=>rhs;unfold closed
  simp only[e,if_true,u,fQ];have v:(k == bV)=false:=by simpa using e
  simp only[v,bG,if_false,pure_bind];rw[C];conv=>rhs;unfold closed
  simp only[v,bG,if_false]
theorem zbP{scope:eP}{env:Env}(h:∀x∈scope.names,x.2=.free->∃c,env.cells.lookup x.1=some c):closureFor scope env=pure (closed env scope.names []):=by simp only[closureFor];rw[zek scope.names [] h];rfl
theorem zeT{env:Env}:∀(l:List (Str×dA)) (v:List (Str×ah)),(∀x∈l,x.2=.free->∃c,env.cells.lookup x.1=some c) ->
  (∀x c,v.lookup x=some c->env.cells.lookup x=some c)->∀x c,(closed env l v).lookup x=some c->env.cells.lookup x=some c
 | [],v,_,ha=>ha
 | (n,k)::r,v,h,ha=>by
  unfold closed;refine zeT r _ (fun x hx=>h x (bP _ hx)) fun x c=>?_;by_cases e:(k == bV)=true;obtain⟨d,hd⟩:=h (n,k) cj (by simpa using e);have C:uB n env.cells=some d:=hd;simp only[e,if_true,C,fQ];intro q;rw[cK]at q;by_cases ex:(x == n)=true;simp only[ex]at q;have G:x=n:=by simpa using ex
  cases q;rw[G];exact C;have I:(x == n)=false:=by simpa using ex
  simp only[I]at q;exact ha x c q;have J:(k == bV)=false:=by simpa using e
  simp only[J,bG,if_false];exact ha x c
theorem zeV{env:Env}:∀(l:List (Str×dA)) (v:List (Str×ah)) (x:Str),(∃c,v.lookup x=some c)->∃c,(closed env l v).lookup x=some c
 | [],_,_,h=>h
 | (n,k)::r,v,x,h=>by
  unfold closed;refine zeV r _ x ?_;by_cases e:(k == bV)=true;simp only[e,if_true];rw[cK];cases(x == n) with
  | true=>exact⟨_,rfl⟩
  | false=>exact h
  have C:(k == bV)=false:=by simpa using e
  simp only[C,bG,if_false];exact h
theorem zeU{env:Env}:∀(l:List (Str×dA)) (v:List (Str×ah)) (x:Str),(x,bV)∈l->∃c,(closed env l v).lookup x=some c
 | [],_,_,h=>nomatch h
 | (n,k)::r,v,x,h=>by unfold closed;rcases aq.mp h with e|h;cases e;refine zeV r _ _ ?_;have C:(bV == bV)=true:=rfl;simp only[C,if_true];rw[cK];simp;exact zeU r _ x h
theorem lookup_mem{α:Type}{l:List (Str×α)}{x:Str}{v:α}(h:l.lookup x=some v):(x,v)∈l:=by
 induction l with
 | nil=>simp at h
 | cons p r u =>
  obtain⟨n,w⟩:=p;rw[cK]at h;by_cases e:(x == n)=true;simp only[e]at h;cases h;have o:x=n:=by simpa using e
  rw[o];exact cj;have e2:(x == n)=false:=by simpa using e
  simp only[e2]at h;exact bP _ (u h)
def Uj(env:Env)(p:Str×dA):Str×dA:=if (p.2 == bV&&env.scope.kind == .function&&env.kindOf p.1 == some .cell)=true then(p.1,.cell) else p
theorem zjH(env:Env)(p:Str×dA):(Uj env p).1=p.1:=by unfold Uj;by_cases c:(p.2 == bV&&env.scope.kind == .function&&env.kindOf p.1 == some .cell)=true;rw[if_pos c];rw[if_neg c]
def kin(env:Env)(x:Str):Option dA->Option dA
 | some .free=>if (env.scope.kind == .function&&env.kindOf x == some .cell)=true then some .cell else some .free
 | o=>o
theorem zjG(env:Env)(x:Str)(k:dA):some (Uj env (x,k)).2=kin env x (some k):=by
 unfold Uj;by_cases c:(k == bV&&env.scope.kind == .function&&env.kindOf x == some .cell)=true;rw[if_pos c];rw[aZ,aZ]at c;have v:k=.free:=by simpa using c.1.1
 subst v;unfold kin;rw[if_pos (by rw[aZ];exact⟨c.1.2,c.2⟩)];rw[if_neg c];cases k with
 | free =>have:¬(env.scope.kind == .function&&env.kindOf x == some .cell)=true:=fun z=>c (by have C:(bV == bV)=true:=rfl;rw[C,gi];exact z);unfold kin;rw[if_neg this]
 | _=>rfl
theorem ze9(scope:eP)(env:Env):(relabel scope env).names=scope.names.map (Uj env):=by show scope.names.map _=_;refine ie fun p _=>?_;obtain⟨n,k⟩:=p;rfl
theorem zeD(env:Env):∀(l:List (Str×dA)) (x:Str),(l.map (Uj env)).lookup x=kin env x (l.lookup x)
 | [],_=>rfl
 | (n,k)::r,x=>by
  have G:=zeD env r x;have v:Uj env (n,k)=(n,(Uj env (n,k)).2):=uv (zjH env (n,k)) rfl;rw[aK,v,cK,cK];by_cases e:(x == n)=true;have C:x=n:=by simpa using e
  subst C;simp only[beq_self_eq_true];exact zjG env x k;have e2:(x == n)=false:=by simpa using e
  simp only[e2];exact G
theorem zdm(scope:eP)(env:Env)(x:Str):(relabel scope env).names.lookup x=kin env x (scope.names.lookup x):=by rw[ze9];exact zeD env _ x
def tbH(A B:Hp):Hp:=fun b=>match A b with
 | some (.tbl q)=>some (.tbl q)
 | _=>B b
theorem zjm{A B:Hp}(h:∀b q,A b=some (.tbl q)->B b=some (.tbl q)):tbH A B=B:=funext fun b=>by unfold tbH;split;rename_i q e;exact(h b q e).symm;rfl
abbrev capN(X:Cx)(capt:List Nat):List Str:=capt.map fun i=>X.N.getD i fB
abbrev capS(capt:List Nat)(σ:St):St:=capt.map fun i=>σ.getD i none
abbrev Qu(own:List Str):St:=own.map fun _=>none
def celO(scope:eP)(C:ah):List (Str×ah):=cellsFrom (C+1) scope.names []
def QS(X:Cx)(scope:eP)(C:ah):List (Str×ah):=celO scope C++closed X.env scope.names []
abbrev Ub(X:Cx)(scope:eP)(own:List Str)(capt:List Nat)(C:ah)(s₀:ak)(H₀:Hp)(fp:List ah):Cx :=
 { X with N:=own++capN X capt,s₀:=s₀,H₀:=tbH X.H₀ H₀,env:=compEnvC scope (QS X scope C) C X.env,outer:=X.stack,stack:=X.stack,ex:=fp,fn:=fun y=>scope.names.lookup y == some .cell,pn:=[],xe:=fun _ _=>False }
abbrev Fam(X:Cx)(scope:eP)(own:List Str)(capt:List Nat)(P:Cx->Prop):Prop:=∀C s₀ H₀ fp,P (Ub X scope own capt C s₀ H₀ fp)
theorem zlp{cl:List (Str×ah)}(names:List (Str×dA)):∀(n:Nat) (l:List (Str×ah)),cellsFrom n names (l++cl)=cellsFrom n names l++cl:=by
 induction names with
 | nil=>exact fun _ _=>rfl
 | cons a r o =>obtain⟨x,k⟩:=a;intro n l;unfold cellsFrom;by_cases z:(k == gX)=true;rw[if_pos z,if_pos z];exact o (n+1) ((x,n)::l);rw[if_neg z,if_neg z];exact o n l
theorem zlo{x:Str}{c:ah}(names:List (Str×dA)):∀(n:Nat) (o:List (Str×ah)),(x,c)∈cellsFrom n names o->(x,gX)∈names\/(x,c)∈o:=by
 induction names with
 | nil=>exact fun _ _ h=>.inr h
 | cons a r u =>obtain⟨y,k⟩:=a;intro n o h;unfold cellsFrom at h;by_cases z:(k == gX)=true;rw[if_pos z]at h;rcases u _ _ h with h|h;exact .inl (.tail _ h);rcases aq.mp h with e|h;cases e;rw[eq_of_beq z];exact .inl (.head _);exact .inr h;rw[if_neg z]at h;exact(u _ _ h).imp (.tail _) id
theorem ZW{scope:eP}{h':bt}{C n b c:Nat}{x:Str}(l:n8 h' (C+1) (celO scope C))(o:n<=C)(z:(x,c)∈celO scope C)(u:b<n):c≠b:=fun e=>by subst e;exact fA _ (au (au u o) (gC (l.empty _ _ z).2))
structure JD(scope:eP)(own:List Str)(capt:List Nat)(X:Cx):Prop where
 kind:scope.kind=.function
 nov:∀y∈scope.names,y.2=.free->(y.1,gX)∉scope.names
 names:∀y∈scope.names,y.2=.local->scope.names.lookup y.1=some .local
 frees:∀y∈scope.names,y.2=.free->X.env.kindOf y.1=some .cell\/X.env.kindOf y.1=some .free
 caps:∀k∈capt,scope.names.lookup (X.N.getD k fB)=some .free
theorem getD_some{α:Type}{l:List (Option α)}{k:Nat}{v:α}(h:l.getD k none=some v):l[k]?=some (some v):=by
 rw[bg]at h;cases e:l[k]? with
 | none=>rw[e]at h;cases h
 | some o=>rw[e]at h;simp at h;rw[h]
section
variable{X:Cx}{scope:eP}{own:List Str}{capt:List Nat}
theorem JD.cells(S:JD scope own capt X)(ok:X.Ok):∀x∈scope.names,x.2=.free->∃c,X.env.cells.lookup x.1=some c:=fun x hx hf=>ok.has x.1 (S.frees x hx hf)
theorem JD.sub(S:JD scope own capt X)(ok:X.Ok):∀x c,(closed X.env scope.names []).lookup x=some c->X.env.cells.lookup x=some c :=
 zeT scope.names [] (S.cells ok) (fun x c h=>nomatch (show(none:Option ah)=some c from h))
theorem JD.cell(S:JD scope own capt X)(ok:X.Ok){C:ah}{x:Str}{c:ah}(h:(QS X scope C).lookup x=some c):(x,c)∈celO scope C\/X.env.cells.lookup x=some c:=by
 rw[QS,gp]at h;cases e:(celO scope C).lookup x with
 | some d =>rw[e]at h;cases h;exact .inl (mem_of_lookup e)
 | none =>rw[e]at h;exact .inr (S.sub ok x c h)
theorem JD.free(S:JD scope own capt X){C:ah}{x:Str}(h:scope.names.lookup x=some .free):∃d,(closed X.env scope.names []).lookup x=some d/\(QS X scope C).lookup x=some d:=by
 obtain⟨d,hd⟩:=zeU (env:=X.env) scope.names [] x (lookup_mem h);refine⟨d,hd,?_⟩;rw[QS,gp];cases e:(celO scope C).lookup x with
 | none=>exact hd
 | some q =>rcases zlo _ _ _ (mem_of_lookup e) with z|z;exact absurd z (S.nov _ (lookup_mem h) rfl);cases z
theorem ziM{x:Str}(h:(relabel scope X.env).names.lookup x=some .cell\/(relabel scope X.env).names.lookup x=some .free):scope.names.lookup x=some .cell\/scope.names.lookup x=some .free:=by
 rw[zdm]at h;cases q:scope.names.lookup x with
 | none=>rw[q]at h;rcases h with z|z <;> cases z
 | some k =>
  rw[q]at h;cases k with
  | free=>exact .inr rfl
  | cell=>exact .inl rfl
  | _=>rcases h with z|z <;> cases z
theorem zpz{pins:qO}{σ:St}{H₀:Hp}{s₀:ak}{C:ah}{N:List ah}{h':bt}(S:JD scope own capt X)(I:Inv X pins σ H₀ s₀)(hf:∀b∈N,FpOk X pins H₀ b)(L:∀b∈N,b<s₀.heap.objs.size)(v:s₀.heap.objs.size<=C)(G:n8 h' (C+1) (celO scope C)) :
  (Ub X scope own capt C s₀ H₀ N).Ok:=by
 have old:∀{x y c},(x,c)∈celO scope C->X.env.cells.lookup y=some c->False:=fun h hz=>by obtain⟨w,q⟩:=I.cell _ _ hz;exact ZW G v h q.lt rfl
 unfold Ub;rw[zjm I.base.tbls];refine⟨I.ok.mod,S.kind,I.ok.glob,I.ok.blt,v,fun x y c Y h2=>?_,fun x Z=>?_,fun x c z h=>?_,I.ok.hd,I.ok.frames,.inl rfl,fun b hb=>?_,I.bs,aH I.ok.bsz I.sz,fun b o e hb=>?_,fun b hb z=>?_,I.stack,I.stkFree⟩;rcases S.cell I.ok Y with a|a <;> rcases S.cell I.ok h2 with b|b;exact name_of_addr G.apart a b;exact(old a b).elim;exact(old b a).elim;exact I.ok.inj x y c a b;rcases ziM Z with q|q;have:=e7 scope.names (C+1) [] (.inl q);show ∃c,(QS X scope C).lookup x=some c;rw[QS,gp];obtain⟨d,hd⟩:=fZ.mp this;exact⟨d,by rw[celO,hd];rfl⟩;exact let ⟨d,_,e⟩:=S.free q;⟨d,e⟩;have q:=e7 scope.names (C+1) [] (.inl (eq_of_beq z));obtain⟨d,hd⟩:=fZ.mp q;have h:(QS X scope C).lookup x=some c:=h;rw[QS,gp,celO,hd]at h;cases h;have:=(G.empty _ _ (mem_of_lookup hd)).2;exact aH v (gC this);obtain⟨f0,f1,f2,J,f4,R⟩:=hf b hb;have U:=L b hb;refine⟨aN (au U v),fun x c e=>?_⟩;rcases S.cell I.ok e with z|z;exact ZW G v z U;exact f4 x c z;obtain⟨f0,f1,f2,J,f4,R⟩:=hf b hb;rcases J with z|z;exact I.ok.noex b o e z;exact absurd (au (ax (I.ok.bs b o e).1) z) (fA _);obtain⟨f0,f1,f2,J,f4,R⟩:=hf b hb;rcases aq.mp (I.stkSub b z) with q|q;exact f1 q;exact f2 q
theorem zlk{J:HO}{pins:qO}{σ:St}{H₀:Hp}{s₀:ak}{fp:List ah}{h':bt}{D C:ah}(S:JD scope own capt X)(I:Inv X pins σ H₀ s₀)(hf:∀b∈fp,FpOk X pins H₀ b)(hfp:∀b∈fp,b<s₀.heap.objs.size)
  (Z:s₀.heap.objs.size<=D) (R:D<C) (old:∀b o,s₀.heap.get? b=some o->h'.get? b=some o) (hns:h'.Ns C (fun _=>none)) (ck:n8 h' (C+1) (celO scope C)) (N:JE X.prog X.w (upd H₀ D J) h' D J) :
  Inv (Ub X scope own capt C s₀ H₀ fp) [] (Qu own++capS capt σ) (upd H₀ D J) { s₀ with heap:=h' }:=by
 have hC:s₀.heap.objs.size<=C:=cO (df Z R);have ok:=zpz (own:=own) (capt:=capt) S I hf hfp hC ck;have hn:H₀ D=none:=I.hok.fresh Z;unfold Ub at ok ⊢;rw[zjm I.base.tbls]at ok ⊢;refine⟨ok,rfl,I.bare,Un.laid old Z hn,⟨_,hns,fun i x v e1 e2 e3=>?_⟩,fun x c e=>?_,?_,fun x c e=>?_,fun p hp=>absurd (show p∈([]:qO) from hp) (by simp),I.hok.laid (o:=J) old Z N,(by show(Qu own++capS capt σ).length=(own++capN X capt).length;simp[Qu,capS,capN])⟩;have L:(Qu own).length=own.length:=aJ ..;by_cases hi:i<own.length;rw[bh (by rw[L];exact hi)]at e2;unfold Qu at e2;rw[aU]at e2;cases q:own[i]? with
 | none=>rw[q]at e2;cases e2
 | some z=>rw[q]at e2;cases e2
 have U:own.length<=i:=nc hi;have G:(own++capN X capt)[i]?=some x:=e1;rw[aR U]at G;rw[aR (by rw[L];exact U),L]at e2;unfold capN at G;unfold capS at e2;rw[aU]at G e2;cases q:capt[i - own.length]? with
 | none=>rw[q]at G;cases G
 | some k =>
  rw[q]at G e2;have ex:X.N.getD k fB=x:=aQ G;have ev:σ.getD k none=some v:=aQ e2;have hv:=getD_some ev;have Y:k<X.N.length:=by rw[<- I.len];exact(aL.mp hv).1
  have hx:X.N[k]?=some x:=by rw[bg,aC Y]at ex;rw[aC Y];exact congrArg some ex
  have Hy:=S.caps k (aX q);rw[ex]at Hy;have HG:=S.frees _ (lookup_mem Hy) rfl;obtain⟨m,hm,hl⟩:=I.loc;obtain⟨u,r,l⟩:=hl k x v hx hv (HG.elim (fun z=>.inr (.inl z)) fun z=>.inr (.inr z));refine⟨u,r,.inr ⟨?_,?_⟩⟩;have e:=zdm scope X.env x;rw[Hy]at e;show(relabel scope X.env).names.lookup x=some .cell\/(relabel scope X.env).names.lookup x=some .free;rw[e];unfold kin;by_cases c:(X.env.scope.kind == .function&&X.env.kindOf x == some .cell)=true;rw[if_pos c];exact .inl rfl;rw[if_neg c];exact .inr rfl;rcases l with⟨z,_⟩|⟨_,c,hc,o,N,hod⟩;rcases HG with y|y <;> (have y':X.env.kindOf x=_:=y;rw[z]at y';cases y');obtain⟨d,hd,hd2⟩:=S.free (C:=C) Hy;have:=S.sub I.ok x d hd;rw[hc]at this;cases this;exact⟨c,hd2,o,old _ _ N,hod⟩
 rcases S.cell I.ok e with z|z;exact⟨none,(ck.empty _ _ z).1⟩;obtain⟨v,o,N,hd⟩:=I.cell x c z;exact⟨v,o,old _ _ N,hd⟩;show upd H₀ D J C=none;rw[Je (kH R)];exact I.hok.fresh hC;show upd H₀ D J c=none;rcases S.cell I.ok e with z|z;rw[Je (ZW ck (aw _) z R)];exact I.hok.fresh (aH hC (gC (ck.empty _ _ z).2));obtain⟨v,o,N,hd⟩:=I.cell x c z;rw[Je (aN (au (ax N) Z))];exact I.freeC x c z
theorem zni{pins Hw:qO}{σ σ':St}{H₀ G:Hp}{s₀ s':ak}{R:List ah}{l:bt}{C:ah}(I:Inv X pins σ H₀ s₀)(hf:∀b∈R,FpOk X pins H₀ b)(hC:s₀.heap.objs.size<=C)
  (J:Inv (Ub X scope own capt C s₀ H₀ R) Hw σ' G s') (sb:fN C s'.heap l):Inv X pins σ G { s' with heap:=l }:=by
 have L:G C=none:=J.free;have x:∀b o,s₀.heap.get? b=some o->b≠C:=fun b o e=>aN (au (ax e) hC);have u:Un (frs X.stack) R (tbH X.H₀ H₀) G s₀.heap s'.heap:=J.base;rw[zjm I.base.tbls]at u;have Y:Un (frs X.stack) R H₀ G s₀.heap l:=by refine⟨fun b o q n S N=>(sb.2 b (x b o q)).trans (u.keep b o q n S N),fun b o q n S N=>?_,u.free,fun b o q N=>?_,u.tups,u.frzs,u.tbls⟩;obtain⟨sl,e⟩:=u.slot b o q n S N;exact⟨sl,(sb.2 b (x b o q)).trans e⟩;obtain⟨U,e⟩:=u.there b o q N;exact⟨U,(sb.2 b (x b o q)).trans e⟩
 have hok:HOk X.prog X.w G l:=fun b ob e=>by refine(J.hok b ob e).stay (fun c v hc q=>(sb.2 c ?_).trans q) (fun _ q=>q) (fun _ _ q=>q) fun _ _ _ q=>q;rintro rfl;rcases hc with z|z;subst z;rw[L]at e;cases e;rw[L]at z;cases z
 refine I.call' (s':={ s' with heap:=l }) J.os Y hok J.bare fun b hb=>?_;obtain⟨f0,f1,f2,Z,f4,f5⟩:=hf b hb;exact⟨Z,f1,f4,f5⟩
end
def PTs(Y:Cx)(ifs:List aO)(t:TT):Prop :=
 ∀(pins:qO) (s:ak) (σ:St) (H:Hp) (Q:Bool->Hp->Prop),Inv Y pins σ H s->t σ H Q ->
  wpAny (model Y.prog Y.w) Y.A (forIn ifs true fun c r=>if r=true then do let ok <- isTrue c Y.env (eval c Y.env);pure (gj ok) else pure (gj r)) (TP Y pins σ Q) Y.xe s
def tYes:TT:=fun _ H Q=>Q true H
theorem zon{Y:Cx}:PTs Y [] tYes:=fun _ _ _ H _ I h=>wpAny_tests_nil ⟨H,I,h⟩
theorem zom{Y:Cx}{c:aO}{t:TT}(h:PT Y c t):PTs Y [c] t:=fun pins s σ H Q I q=>wpAny_tests_one (h pins s σ H Q I q)
abbrev NoX:af->ak->Prop:=fun _ _=>False
def Wk:St->St->Prop
 | [],[]=>True
 | none::r,_::r'=>Wk r r'
 | some v::r,o::r'=>o=some v/\Wk r r'
 | _,_=>False
theorem Wk.weak:∀{σ σ':St},Wk σ σ'->σ.length=σ'.length/\∀(i:Nat) v,σ[i]?=some (some v)->σ'[i]?=some (some v)
 | [],[],_=>⟨rfl,fun _ _ h=>by simp at h⟩
 | none::r,o::r',h=>by
  obtain⟨a,b⟩:=Wk.weak (σ:=r) (σ':=r') h;refine⟨by simp[a],fun i v e=>?_⟩;cases i with
  | zero=>simp at e
  | succ i=>simpa using b i v (by simpa using e)
 | some w::r,o::r',h=>by
  obtain⟨h0,l⟩:o=some w/\Wk r r':=h;obtain⟨a,b⟩:=Wk.weak l;refine⟨by simp[a],fun i v e=>?_⟩;cases i with
  | zero=>rw[h0];simpa using e
  | succ i=>simpa using b i v (by simpa using e)
 | none::_,[],h=>c9 h
 | some _::_,[],h=>c9 h
 | [],_::_,h=>c9 h
abbrev TM:=St->Hp->(Hp->Prop)->Prop
def zn4(e:aO)(d:Nat)(tg iter:aO)(ifs:List aO)(l:af)(env:Env)(nx:Sem Fin->Sem Fin):Prop:=∀it,compTurn e d it l env=(do
 standAt iter.pos
 match <- pyNext it with
 | none=>pure (.done .next)
 | some v =>
  letOwnedTupleGo tg it v
  assign tg env v
  let mut ok:=true
  for c in ifs do
   if ok then ok <- isTrue c env (eval c env)
  if ok then nx (again (.compLoop e d it l env)) else again (.compLoop e d it l env))
def IsC(e:aO):Prop:=∀(A:bu) (P:aI) (w:aT) (d:Nat) (it l:af) (env:Env),(A.under (.compLoop e d it l env)=A/\(model P w).den (.compLoop e d it l env)=(compTurn e d it l env).onRaise fun x=>do noteFrame x env;theTreesLotGoes x) /\
 (A.under (.compStart e d it l env)=A/\(model P w).den (.compStart e d it l env)=(compStart e d it l env).onRaise fun x=>do noteFrame x env;standAt theWindowsPlace)/\(Code.compLoop e d it l env).quiet=true
def PM(Y:Cx)(nx:Sem Fin->Sem Fin)(o:TM):Prop:=∀(pins:qO) (s:ak) (σ:St) (H:Hp) (N:Hp->Prop) (k:Sem Fin) (Q:Fin->ak->Prop) (E:qV),Inv Y pins σ H s->o σ H N ->
 (∀s' l,Inv Y pins σ l s'->N l->wpAny (model Y.prog Y.w) Y.A k Q E s')->wpAny (model Y.prog Y.w) Y.A (nx k) Q E s
def Zt(g:TG)(tt:TT)(C:TM)(σ:St)(J:It)(G:Hp)(Q:Hp->Prop):Prop:=∃(n:Nat) (W:Nat->Hp->Prop),W 0 G/\∀i o,W i o ->
 (i=n->J.stop i o/\Q o)/\(i<n->J.go i o/\∀x v,J.yld i o x v->g x σ v fun l I=>Wk σ l/\tt l I fun b u=>if b=true then C l u (W (i+1)) else W (i+1) u)
section
variable{Y:Cx}{e:aO}{d:Nat}{tg iter:aO}{ifs:List aO}{acc:af}{nx:Sem Fin->Sem Fin}{g:TG}{tt:TT}{te:TM}{pins:qO}{σ:St}{s:ak}{H1:Hp}{Q:Hp->Prop}{R:Result->ak->Prop}
theorem zmJ(hC:IsC e)(hxe:Y.xe=NoX)(hc:Y.calm=true)(hT:zn4 e d tg iter ifs acc Y.env nx)(hg:PG Y tg g)(ht:PTs Y ifs tt)(hm:PM Y nx te){it:ah}{C:List ah}{tn:Nat->bt->Prop}{J:It}(T:Turn Y.prog Y.w Y.K tg J C it tn)
  (HE:∀{v:Hp},(∀b∈C,v b=none)->∀b∈C,FpOk Y pins v b) (I:Inv Y pins σ H1 s) (st:tn 0 s.heap) (fr:∀b∈C,H1 b=none) (h:Zt g tt te σ J H1 Q) (hR:∀s' v,Inv Y pins σ v s'->Q v->R (.ok .next) s') :
  codeAny (model Y.prog Y.w) Y.A (.compLoop e d (.ref it) acc Y.env) R s:=by
 obtain⟨n,W,w0,turn⟩:=h;refine codeAny_loop (hC Y.A Y.prog Y.w _ _ _ _).2.2 (fun m s'=>∃i v,i+m=n/\Inv Y pins σ v s'/\tn i s'.heap/\(∀b∈C,v b=none)/\W i v) ?_ n ⟨0,H1,e9 _,I,st,fr,w0⟩;rintro m s4 ⟨i,H4,him,I4,st4,fr4,w4⟩;rw[(hC Y.A Y.prog Y.w _ _ _ _).1.1,(hC Y.A Y.prog Y.w _ _ _ _).1.2];refine wpAny_noted (cH (E:=NoX) ?_ (fun _ _ q=>q) fun _ _ z=>c9 z);rw[hT];refine ab (dU (ab ?_));obtain⟨t1,t2⟩:=turn i H4 w4;by_cases hi:i=n
 ·obtain⟨stop,qn⟩:=t1 hi;refine thn (T.done Y rfl rfl rfl hc i pins s4 _ H4 NoX I4 (HE fr4) st4 stop) fun r s5 l=>?_;obtain⟨hr,I5⟩:=l;subst hr;exact aj (hR _ _ I5 qn)
 obtain⟨go,step⟩:=t2 (by omega);refine thn (T.item Y rfl rfl rfl hc i pins s4 _ H4 NoX I4 (HE fr4) st4 go) fun r s5 l=>?_;obtain⟨u,hr,h5⟩:=l;subst hr;refine ab (thn h5 fun _ s6 l=>ab ?_);obtain⟨x,H6,I6,r6,y6,N,fr6⟩:=l;have a1:=hg _ s6 _ H6 x u _ (I6.pinned (HE fr6) (T.obj _ _ N)) r6 (step x H6 y6);rw[hxe]at a1;refine thn a1 fun _ s7 l=>ab ?_;obtain⟨G,H7,I7,wk,q7⟩:=l;obtain⟨wl,wv⟩:=wk.weak;have again:∀{U:ak} {S:Hp},Inv Y (pins++Y3 C s6.heap) G S U->W (i+1) S->∃m',m'<m/\∃i v,i+m'=n/\Inv Y pins σ v U/\tn i U.heap/\(∀b∈C,v b=none)/\W i v:=fun {U S} Z w8=>by have pn:∀{b o},b∈C->s6.heap.get? b=some o->_:=fun {b o} hb e=>Z.pin (b,o) (cb _ (cb _ (zdf hb e)));refine⟨m - 1,by omega,i+1,S,by omega,(Z.unpinned).weak wl wv,T.keep _ _ _ N fun b hb o e=>(pn hb e).1,fun b hb=>?_,w8⟩;obtain⟨o,e,d⟩:=T.obj _ _ N b hb;exact(pn hb e).2.1
 have a2:=ht _ s7 G H7 _ I7 q7;rw[hxe]at a2;refine thn a2 fun ok U l=>?_;obtain⟨S,Z,q8⟩:=l;cases ok with
 | false=>exact aj ⟨rfl,again Z (by simpa using q8)⟩
 | true=>exact hm _ U G S _ _ _ _ Z (by simpa using q8) fun s' v I' w'=>aj ⟨rfl,again I' w'⟩
theorem zjp{prog:aI}{w:aT}{A:bu}{it:af}{env:Env}(u:IsC e)(v:(clausesOf e)[d]?=some ⟨tg,iter,ifs,0⟩)
  (h0:codeAny (model prog w) A (.compLoop e d it acc env) R s)
  (h:wpAny (model prog w) A (pyIter it) (fun l s'=>codeAny (model prog w) A (.compLoop e d l acc env) R s') (notedBy (model prog w) A env fun x s'=>R (.error x) s') s) :
  codeAny (model prog w) A (.compStart e d it acc env) R s:=by
 refine codeAny_of_tree ?_;rw[(u A prog w _ _ _ _).2.1.1,(u A prog w _ _ _ _).2.1.2];refine wpAny_notedAt ?_;unfold compStart;rw[v];show wpAny _ _ (PySem.ask >>= _) _ _ s;refine ab (wpAny_askSetting (wpAny_ite ?_));split;first
  | exact ab (aj (aj (kh (u A prog w _ _ _ _).2.2 h0)))
  | exact aj (kh (u A prog w _ _ _ _).2.2 h0)
 first
  | exact ab (dN (ab (dU (ab (cH h (fun l s' h'=>aj (kh (u A prog w _ _ _ _).2.2 h')) fun _ _ x=>x)))))
  | (refine ab (dN ?_);show wpAny _ _ (standAt iter.pos >>= _) _ _ s;exact ab (dU (ab (cH h (fun l s' h'=>aj (kh (u A prog w _ _ _ _).2.2 h')) fun _ _ x=>x))))
end
def NA(P:aI)(w:aT)(v:Sem af)(z:ah->HO->Prop):Prop:=∀(A:bu) (E:qV) (s:ak) (Q:qV),sysModules<s.heap.objs.size ->
 (∀l:Obj,l.isFreed=false->(∀h':bt,h'.get? s.heap.objs.size=some l->∃o,z s.heap.objs.size o/\∀u,JE P w u h' s.heap.objs.size o)->Q (.ref s.heap.objs.size) { s with heap:=s.heap.push l })->wpAny (model P w) A v Q E s
structure Zs(e tg iter:aO)(ifs:List aO)(scope:eP)(EV:Sem af)(nx:af->Env->Sem Fin->Sem Fin):Prop where
 nof:IsC e
 cl:∃gs,clausesOf e=⟨tg,iter,ifs,0⟩::gs
 turn:∀acc env,zn4 e 0 tg iter ifs acc env (nx acc env)
 ev:∀env,∃p,eval e env=comprehension e scope env p EV false (eval iter env) none
 ev2:∀env u,∃p,evalThenUse e env u=do let _ <- comprehension e scope env p EV false (eval iter env) (some u)
section
theorem ziW{M:rH}{A:bu}{E:qV}{s:ak}{scope:eP}{globals:ah}{cl:List (Str×ah)}{qual:Str}{outer:Env}{Q:Env->ak->Prop}
  (u:∀h',h'.Ns s.heap.objs.size (fun _=>none)->(∀b o,s.heap.get? b=some o->h'.get? b=some o)->n8 h' (s.heap.objs.size+1) (celO scope s.heap.objs.size) ->
   Q { scope,locals:=s.heap.objs.size,globals,cells:=celO scope s.heap.objs.size++cl,qual,func:=none,code:=outer.code,frame:=outer.frame,builtins:=outer.builtins } { s with heap:=h' }) :
  wpAny M A (newFunctionEnv scope globals cl [] qual none .none (some outer)) Q E s:=by
 simp only[newFunctionEnv,Option.isSome_some,if_true];refine ab (wpAny_alloc (ab (wpAny_layCells _ (fun name kind cells=>by cases hkc:kind == gX <;> simp[hkc]) _ _ _ _ ?_)));have sz:(s.heap.push { cls:=.type "dict",data:=.dict #[] }).objs.size=s.heap.objs.size+1:=dX ..;have ok:=cellsFrom_ok scope.names (s.heap.push { cls:=.type "dict",data:=.dict #[] }) (s.heap.objs.size+1) [] ⟨fun _ _ l=>(nomatch l),mL⟩ (by rw[sz];exact aw _);dsimp only;rw[show cellsFrom (s.heap.push { cls:=.type "dict",data:=.dict #[] }).objs.size scope.names cl=celO scope s.heap.objs.size++cl by rw[sz];exact zlp (cl:=cl) scope.names _ []];rw[sz]at ok;rw[iL];refine ab (aj (aj (u _ ?_ (fun b o e=>nK _ _ b o (ai _ e)) ok)));exact(Heap.Ns.new s.heap (.type "dict")).keeps (nK _ _)
variable{X:Cx}{e tg iter:aO}{ifs:List aO}{scope:eP}{EV:Sem af}{nx:af->Env->Sem Fin->Sem Fin}{z:ah->HO->Prop}{own:List Str}{capt:List Nat}{wi:TI}{g:TG}{tt:TT}{te:ah->TM}
theorem zlj(S:JD scope own capt X){pins:qO}{σ:St}{v:Hp}{s2:ak}{o:List ah}{C:ah}{h':bt}(J:Inv X pins σ v s2)(f2:∀b∈o,FpOk X pins v b)(u:∀b∈o,b<s2.heap.objs.size)(I:s2.heap.objs.size<=C)(R:n8 h' (C+1) (celO scope C)){G:Hp}(N:∀b∈o,G b=none):∀b∈o,FpOk (Ub X scope own capt C s2 v o) [] G b:=fun b hb=>by obtain⟨g0,g1,g2,g3,Y,Z⟩:=f2 b hb;have L:=u b hb;refine⟨N b hb,aN (au L I),fun z=>?_,.inl hb,fun x c e=>?_,fun p U=>absurd (show p∈([]:qO) from U) (by simp)⟩;rcases aq.mp (J.stkSub b z) with q|q;exact g1 q;exact g2 q;rcases S.cell J.ok e with z|z;exact ZW R I z L;exact Y x c z
def zp2(z:ah->HO->Prop)(own:List Str)(capt:List Nat)(wi:TI)(g:TG)(tt:TT)(te:ah->TM):TE:=fun σ H Q=>wi σ H fun J o=>∀D l,o D=none->z D l->Zt g tt (te D) (Qu own++capS capt σ) J (upd o D l) (Q (.ref D))
theorem ziy(hc:X.calm=true)(S:JD scope own capt X)(k:Zs e tg iter ifs scope EV nx)(na:NA X.prog X.w EV z)(hg:Fam X scope own capt fun Y=>PG Y tg g)(ht:Fam X scope own capt fun Y=>PTs Y ifs tt)(hm:∀D,Fam X scope own capt fun Y=>PM Y (nx (.ref D) Y.env) (te D))
  {pins:qO} {σ:St} {Q:VK} {Z:af} {s2:ak} {E:qV} {RR:af->ah->Result->ak->Prop}
  (h2:PIE X pins σ tg (fun J H1=>∀D ho,H1 D=none->z D ho->Zt g tt (te D) (Qu own++capS capt σ) J (upd H1 D ho) (Q (.ref D))) Z s2)
  (hR:∀D C s' H',(∃m,s'.heap.Ns C m)->(∀I,fN C s'.heap I->Inv X pins σ H' { s' with heap:=I })->H' C=none->FpOk X pins H' C->Q (.ref D) H'->RR (.ref D) C (.ok .next) s') :
  wpAny (model X.prog X.w) X.A EV (fun acc s₃=>wpAny (model X.prog X.w) X.A (newFunctionEnv scope X.env.globals (closed X.env scope.names []) [] X.env.qual none .none (some X.env)) (fun v s₄ =>
   codeAny (model X.prog X.w) X.A (.compStart e 0 Z acc { v with scope:=relabel scope X.env }) (RR acc v.locals) s₄) E s₃) E s2:=by
 obtain⟨it,fp,tn,J,H2,rfl,U,T,st2,f2,rd⟩:=h2;have R:∀b∈fp,b<s2.heap.objs.size:=fun b hb=>by obtain⟨o,e,_⟩:=T.obj 0 _ st2 b hb;exact ax e
 refine na _ _ _ _ (iu (by decide) (U.mod.glob.keeps U.bk).lt) fun ob lv hob=>ziW fun u N hk ck=>?_;have g0:(s2.heap.push ob).get? s2.heap.objs.size=some ob:=aB _ lv;have hC:(s2.heap.push ob).objs.size=s2.heap.objs.size+1:=dX ..;have old:∀b o,s2.heap.get? b=some o->u.get? b=some o:=fun b o e=>hk b o (ai _ e);obtain⟨ho,hz,hok⟩:=hob u (hk _ _ g0);dsimp only at N ck ⊢;generalize hCe:(s2.heap.push ob).objs.size=C at N hC ck ⊢;have G:s2.heap.objs.size<=C:=by omega
 have st1:=T.keep _ _ _ st2 fun b hb o e=>old b o e;have loop:codeAny (model X.prog X.w) X.A (.compLoop e 0 (.ref it) (.ref s2.heap.objs.size) (compEnvC scope (QS X scope C) C X.env)) (RR (.ref s2.heap.objs.size) C) { s2 with heap:=u } :=
  zmJ (Y:=Ub X scope own capt C s2 H2 fp) k.nof rfl hc (k.turn _ _) (hg _ _ _ _) (ht _ _ _ _) (hm _ _ _ _ _) T (zlj S U f2 R G ck) (zlk (D:=s2.heap.objs.size) S U f2 R (aw _) (by rw[hC];exact Nat.lt_succ_self _) old N ck (hok _)) st1 (fun b hb=>by rw[Je (aN (R b hb))];exact(f2 b hb).1)
   (rd _ ho (U.hok.fresh (aw _)) hz) fun s5 H4 I5 q=>by obtain⟨m,hn,_⟩:=I5.loc;exact hR _ _ s5 H4 ⟨m,hn⟩ (fun I sb=>zni U f2 G I5 sb) I5.free (U.fpOk G I5.free) q
 obtain⟨gs,hcl⟩:=k.cl;exact zjp k.nof (by rw[hcl];rfl) loop (T.self X.A 0 _ _ _ st1 loop)
theorem zoz(hc:X.calm=true)(S:JD scope own capt X)(k:Zs e tg iter ifs scope EV nx)(na:NA X.prog X.w EV z)(hi:PI X tg iter wi)(R:Fam X scope own capt fun Y=>PG Y tg g)(L:Fam X scope own capt fun Y=>PTs Y ifs tt)(G:∀D,Fam X scope own capt fun Y=>PM Y (nx (.ref D) Y.env) (te D))
  (Z:Fsi X iter):PE X e (zp2 z own capt wi g tt te):=by
 intro pins s σ H Q I h;obtain⟨gs,x⟩:=k.cl;obtain⟨p,ev⟩:=k.ev X.env;rw[ev];refine i6 (use:=none) x Z (zbP (S.cells I.ok)) S.kind S.names (thn (hi pins s σ H _ I h) fun v s1 U=>thn U fun N s2 h2=>?_);refine ziy (RR:=fun u C=>compPost (model X.prog X.w) X.A X.xe none (EP X pins σ Q) u C) hc S k na R L G h2 fun D C s' H' o J _ _ q=>?_;obtain⟨m,o⟩:=o;exact⟨m,o,fun l sb=>⟨.ref D,H',J l sb,rfl,q⟩⟩
theorem zoo(hc:X.calm=true)(S:JD scope own capt X)(k:Zs e tg iter ifs scope EV nx)(na:NA X.prog X.w EV z)(hi:PI X tg iter wi)(hg:Fam X scope own capt fun Y=>PG Y tg g)(ht:Fam X scope own capt fun Y=>PTs Y ifs tt)(hm:∀D,Fam X scope own capt fun Y=>PM Y (nx (.ref D) Y.env) (te D))
  (hs:Fsi X iter) {i:Nat} {x:Str} {pos' Hr:Pos} (hN:X.N.Nodup) (R:X.N[i]?=some x) (hx:Loc X.env.scope x) (hsw:swapsWith e (some (.Name x pos')) Hr.line X.env=pure true)
  (hf:Fnl X x):PS X (.Assign [.Name x pos'] e Hr) (tAsg (zp2 z own capt wi g tt te) (QH i)):=by
 intro pins s σ H D I h;obtain⟨gs,Z⟩:=k.cl;obtain⟨p,ev⟩:=k.ev2 X.env (assign (.Name x pos') X.env);rw[exec_Assign_Name_used _ _ _ _ hsw];refine ab (dU (ab ?_));rw[ev];refine ab (cH (i6 (use:=some (assign (.Name x pos') X.env)) (Q:=fun _ s'=>SP X pins D .next s') Z hs (zbP (S.cells I.ok)) S.kind S.names (thn (hi pins s σ H _ I h) fun v s1 h1=>thn h1 fun itv s2 h2=>?_)) (fun _ s' hq=>aj (aj hq)) fun _ _ e=>e);refine ziy (RR:=fun U C=>compPost (model X.prog X.w) X.A X.xe (some (assign (.Name x pos') X.env)) (fun _ s'=>SP X pins D .next s') U C) (Q:=fun v l=>QH i v σ l D.nx) hc S k na hg ht hm h2 fun D' C s' l u J hCn fp q=>?_;obtain⟨m,u⟩:=u;obtain⟨f0,f1,f2,f3,f4,f5⟩:=fp;have Is:Inv X pins σ l s':=J s'.heap (xh _ _);refine mD (zfQ Is hN R hx (show RelV (.ref D') (.ref D') from rfl) (fun G I'' sb=>?_) hf);obtain⟨a,sb,ha⟩:=sb;have neA:C≠a:=by rcases ha with rfl|ha;exact f1;exact fun z=>f4 x a ha z.symm
 exact⟨m,u.sameBut sb neA,fun h' L=>⟨_,l,I''.turned (t':=G.toks) (fun b o hb e=>(L.2 b hb).trans e) f0 f1 f3 f4 f5,q⟩⟩
end
def VE(scope outer:eP)(N:List Str)(capt:List Nat):Bool :=
 scope.kind == .function&&scope.names.all (fun y=>!(y.2 == .free)||!scope.names.contains (y.1,.cell))&&scope.names.all (fun y=>!(y.2 == .local)||scope.names.lookup y.1 == some .local) &&
 scope.names.all (fun y=>!(y.2 == .free)||(outer.names.lookup y.1 == some .cell||outer.names.lookup y.1 == some .free))&&capt.all (fun k=>scope.names.lookup (N.getD k fB) == some .free)
theorem JD.of{X:Cx}{scope:eP}{own:List Str}{capt:List Nat}(h:VE scope X.env.scope X.N capt=true):JD scope own capt X:=by simp only[VE,aZ,bw,hW,eJ,beq_iff_eq,beq_eq_false_iff_ne]at h;obtain⟨⟨⟨⟨J,G⟩,I⟩,x⟩,C⟩:=h;refine⟨J,fun y u e=>?_,fun y u e=>(I y u).resolve_left fun z=>z e,fun y u e=>(x y u).resolve_left fun z=>z e,C⟩;have:=(G y u).resolve_left fun z=>z e;simpa using this
end L2
namespace L2
open PySem PySem.Spec PyProof.Rows
section
variable{X:Cx}
theorem zqV:OpR X (compareOp .Is) (fun x y H Q=>∃a b,x=.bl a/\y=.bl b/\Q (.bl (a == b)) H):=by intro pins s σ H x y v u Q I o C h;obtain⟨a,b,rfl,rfl,q⟩:=h;cases o;cases C;exact is_bool ⟨.bl (a == b),H,I,rfl,q⟩
def kitB(t T:String):Option Bool:=if (bY t == bY T)=true then some true else if PySem.W.kitMeta T=true then(fastBuiltinMro t).map (·.contains (.type T)) else none
theorem Uo(K:qF)(t T:String):oo K (.type t) (.type T)=kitB t T:=rfl
inductive Ty (H:Hp):V->String->Prop where
 | non:Ty H .non "NoneType"
 | bl (x:Bool):Ty H (.bl x) "bool"
 | int (i:Int):Ty H (.int i) "int"
 | str (x:Str):Ty H (.str x) "str"
 | lst {a:ah} {xs:List V} (e:H a=some (.lst xs)):Ty H (.ref a) "list"
 | tup {a:ah} {xs:List V} (e:H a=some (.tup xs)):Ty H (.ref a) "tuple"
 | dK {a:ah} {kvs:List (Key×V)} (e:H a=some (.dK kvs)):Ty H (.ref a) "dict"
theorem Ty.of{K:qF}{H:Hp}{v:V}{t:String}(h:Ty H v t):TyOf K H v (.type t):=by
 cases h with
 | non=>exact .non
 | bl x=>exact .bl x
 | int i=>exact .int i
 | str x=>exact .str x
 | lst e=>exact .lst e
 | tup e=>exact .tup e
 | dK e=>exact .dK e
theorem ziD:bootBuiltins "isinstance" = some (.builtin "isinstance"):=by decide +kernel
theorem boot_int:bootBuiltins "int" = some (.type "int"):=by decide +kernel
theorem Vz:bootBuiltins "bool" = some (.type "bool"):=by decide +kernel
theorem Qz:bootBuiltins "tuple" = some (.type "tuple"):=by decide +kernel
theorem VD:bootBuiltins "str" = some (.type "str"):=by decide +kernel
theorem Ue:bootBuiltins "all" = some (.builtin "all"):=by decide +kernel
theorem zgU:bootBuiltins "min" = some (.builtin "min"):=by decide +kernel
theorem zgV:bootBuiltins "max" = some (.builtin "max"):=by decide +kernel
theorem J2:bootBuiltins "len" = some (.builtin "len"):=by decide +kernel
theorem zgW:∀{bs:List Bool}{us:List af},Vals (bs.map V.bl) us->LSm.BoolsAre us bs
 | [],_,h=>by cases h;exact .nil
 | b::bs,_,h=>by
  cases h with
  | cons r t =>cases(show _=kG b from r);exact .cons b (zgW t)
theorem Uf(hc:X.calm=true):JU X (.builtin "all") (fun xs H Q=>∃(a:ah) (bs:List Bool),xs=[.ref a]/\SqL X.K H a (bs.map V.bl)/\Q (.bl (bs.all id)) H):=by
 intro pins s σ H xs us Q I r h;obtain⟨a,bs,rfl,R,q⟩:=h;cases r with
 | cons N U =>
  cases U;cases(show _=cu a from N);obtain⟨o,L,p,hz⟩:=I.list R;have hb:=zgW L;have x:s.heap.IsList a o.toArray:=p.isList;have C:a<s.heap.objs.size:=by obtain⟨_,e,_⟩:=x;exact ax e
  refine call_all_walk (gx x ?_);refine⟨s.heap.objs.size,[s.heap.objs.size,a],[s.heap.objs.size],o.toArray.size,_,_,fun i=>(bs[i]?).getD true,rfl,we (A:=X.A.in1) (I.ok.hd hc) _ a (aN C) o.toArray,
   ⟨⟨_,aB _ rfl,rfl,rfl⟩,x.push _⟩,fun i v s' Z E' J G=>?_,fun h' Y S=>?_⟩
  obtain⟨b,e,rfl⟩:=hb.get i v (by simpa using J);simp only[e,fQ]at G;exact cf G;have e:((cg o.toArray.size).all fun i=>(bs[i]?).getD true)=bs.all id:=by rw[ay,hb.length];exact LSm.range_all bs
  rw[e];exact⟨.bl _,H,I.kept (LSm.kept_iter S),rfl,q⟩
mutual
inductive UB (H:Hp):V->ae->Prop
 | non:UB H .non .none
 | bl (b:Bool):UB H (.bl b) (.bool b)
 | int (i:Int):UB H (.int i) (.int i)
 | str (x:Str):UB H (.str x) (.str x)
 | lst {a:ah} {xs:List V} {ds:qD}:H a=some (.lst xs)->Zm H xs ds->UB H (.ref a) (.list ds)
 | tup {a:ah} {xs:List V} {ds:qD}:H a=some (.tup xs)->Zm H xs ds->UB H (.ref a) (.tuple ds)
inductive Zm (H:Hp):List V->List ae->Prop
 | nil:Zm H [] []
 | cons {v:V} {vs:List V} {d:ae} {ds:qD}:UB H v d->Zm H vs ds->Zm H (v::vs) (d::ds)
end
theorem Inv.bigM{pins:qO}{σ:St}{H:Hp}{s:ak}(I:Inv X pins σ H s):sysModules<s.heap.objs.size :=
 iu (by decide) (I.mod.glob.keeps I.bk).lt
def Yl(i j:Int):Prop:=0<j/\j<2 ^ 128
theorem Vx:OpR X (binaryOp .FloorDiv) (rI Yl fun i j=>.int (i / j)):=opI fun i j _ _ _ _ _ hc q=>by
 have G:(0:Int)<j:=hc.1;have C:j<2 ^ 128:=hc.2;refine floordiv_int (by omega) (by rw[iE i (by omega)];exact q) (.inl (PyProof.noPylong_of_log2 ?_));have u:j.natAbs<2 ^ 128:=by omega
 have x:j.natAbs.log2<128:=(uC (by omega)).mpr u;omega
end
def Pl(X:Cx)(l:List aO):Prop:=∀pos,(backTo pos (starEach l X.env)).any (·.1)=false
def Hd(X:Cx):List aO->Prop
 | []=>True
 | e::r=>starEach (e::r) X.env=(false,eval e X.env)::starEach r X.env/\Pl X r
structure PB(X:Cx)(es:List aO)(t:TA):Prop where
 pa:PA X es t
 pl:Pl X es
 hd:Hd X es
section
variable{X:Cx}{es:List aO}{t:TA}{te:TE}
theorem Qo:PB X [] tNil:=⟨Qy,fun _=>rfl,trivial⟩
theorem JX(h:PE X e te)(l:PB X es t)(o:starEach (e::es) X.env=(false,eval e X.env)::starEach es X.env):PB X (e::es) (JS te t) :=
 ⟨J3 h l.pa o,fun pos=>by rw[o];have:(backTo pos ((false,eval e X.env)::starEach es X.env)).any (·.1)=(false||(backTo pos (starEach es X.env)).any (·.1)):=rfl;rw[this,l.pl pos];rfl,o,l.pl⟩
theorem pb_i{j pos}(l:PB X es t):PB X (.Constant (.int i) j pos::es) (JS (tC (.int i)) t):=JX Jz l rfl
theorem pb_v(i:Nat){x:Str}{pos:Pos}(o:PB X es t)(v:X.N[i]?=some x:=by rfl)(u:Vis X.env.scope x:=by walk_at "V")(hd:Ndb x:=by rfl)
  (l:Ncd x:=by rfl):PB X (.Name x pos::es) (JS (tVar i) t):=JX (Qg v u hd l) o rfl
theorem zoC(h:PE X (.Name x pos) te)(l:PB X es t):PB X (.Name x pos::es) (JS te t):=JX h l rfl
theorem znI{a b c d}(h:PE X (.BinOp a b c d) te)(l:PB X es t):PB X (.BinOp a b c d::es) (JS te t):=JX h l rfl
theorem zqK{a b c d}(h:PE X (.Compare a b c d) te)(l:PB X es t):PB X (.Compare a b c d::es) (JS te t):=JX h l rfl
variable{e:aO}{x:Str}{p pos:Pos}
theorem zjY{x1}(h:PB X es t):PE X (.Tuple es x1 pos) (tTup t):=znH h.pa
theorem Vf(h:PB X es t):PE X (.List es pos) (tLst t):=zqH h.pa
theorem YH{id:String}{r:List V->Hp->VK->Prop}(hc:JU X (.builtin id) r)(v:X.mg x=none)(G:bootBuiltins x=some (.builtin id))(h:PB X (e::es) t)(J:Gl X x:=by rfl)(I:x ≠ "__name__":=by decide) (o:Ndb x:=by rfl) :
  PE X (.Call (.Name x p) (e::es) [] pos) (tCB r t):=zmp hc J v G h.pa I o h.hd.1 (h.hd.2 pos)
theorem Zx(hc:JU X (.type T) r)(u:X.mg x=none)(v:bootBuiltins x=some (.type T))(h:PB X (e::es) t)(I:Gl X x:=by rfl)(G:x ≠ "__name__":=by decide) (o:Ndb x:=by rfl) :
  PE X (.Call (.Name x p) (e::es) [] pos) (tCB r t):=zj0 hc I u v h.pa G o h.hd.1 (h.hd.2 pos)
end
end L2
namespace Bd
open PySem L2
structure Def(K:qF)(mg:qM)(x:Str)(st:cN)(ps:List Str)(f:ah)(fd:cJ):Prop where
 F:Fun K x x st f fd
 b:Binds K fd ps []
 m:mg x=some (.ref f)
section
variable{X:Cx}{k:Nat}{f:ah}{fd:cJ}{ps:List Str}{sp:Sp}{x:Str}{p pos:Pos}{e:aO}{es:List aO}{t:TA}{st:cN}
theorem zoy(D:Def X.K X.mg x st ps f fd)(G:FnOk X.prog X.w X.K X.mg X.base CX0 k f fd ps sp)(u:Room k X.A)(h:PB X (e::es) t)(v:Gl X x:=by rfl)
  (o:Ndb x:=by rfl):PE X (.Call (.Name x p) (e::es) [] pos) (zp3 sp [] E0 t):=zoA G u v D.m D.F.kp D.b .nil zt4 h.pa o h.hd.1 (h.hd.2 pos)
theorem zox(l:X.mg x=none)(o:bootBuiltins x=some (.type T))(u:Gl X x:=by rfl)(v:x ≠ "__name__":=by decide) (hd:Ndb x:=by rfl):PE X (.Name x p) (tC (.ty T)) :=
 zoB u l o rfl v hd
end
theorem iteP{c A B:Prop}[Decidable c](hc:c)(h:A):if decide c=true then A else B:=by rw[decide_eq_true hc];exact iteT h
theorem iteN{c A B:Prop}[Decidable c](hc:¬c)(h:B):if decide c=true then A else B:=by rw[decide_eq_false hc];exact iteF h
theorem zrK{c A B:Prop}[Decidable c](o:c->A)(l:¬c->B):if decide c=true then A else B:=by by_cases h:c;exact iteP h (o h);exact iteN h (l h)
theorem zfH{α:Type}{xs:List α}{k:Int}{v:α}(h0:0<=k)(h:xs[k.toNat]?=some v):atI xs k=some v:=by obtain⟨n,rfl⟩:=ki h0;exact zpG h
theorem Qp(k:Nat):(0:Int)<2 ^ k:=by
 have:(0:Nat)<2 ^ k:=nL k;have e:((2 ^ k:Nat):Int)=(2:Int) ^ k:=by simp
 omega
theorem zjR(h:k<=64):(2:Int) ^ k<2 ^ 128:=by
 have:(2:Nat) ^ k<2 ^ 128:=Nat.pow_lt_pow_right (by decide) (by omega);have e:((2 ^ k:Nat):Int)=(2:Int) ^ k:=by simp
 omega
theorem zdB(h:k<=64):(2:Int) ^ k<=2 ^ 64:=by
 have:(2:Nat) ^ k<=2 ^ 64:=lq (by decide) (by omega);have e:((2 ^ k:Nat):Int)=(2:Int) ^ k:=by simp
 omega
theorem zlY(h:H p=none):Same H (upd H p o):=fun b u e=>by rw[Je (QE e h)];exact e
end Bd
namespace L2
open PySem PySem.Spec PyProof.Rows
theorem zpH(k h:Nat):(k*2 ^ h) &&& (2 ^ h)=(k % 2)*2 ^ h:=by
 have e1:k*2 ^ h=k <<< h:=(kj k h).symm;have e2:(2:Nat) ^ h=1 <<< h:=by rw[kj,nB]
 have l:(k &&& 1) <<< h=k <<< h &&& 1 <<< h:=Nat.shiftLeft_and_distrib;rw[e1];conv=>lhs;rw[e2]
 rw[<- l,mn,kj]
theorem zlR(h:Nat)(u:0<=k):eR (k*2 ^ h) (2 ^ h)=if k % 2=0 then k*2 ^ h+2 ^ h else k*2 ^ h - 2 ^ h:=by
 obtain⟨n,rfl⟩:=ki u;have l:((2 ^ h:Nat):Int)=(2:Int) ^ h:=by simp
 have e1:((n:Int)*2 ^ h)=((n*2 ^ h:Nat):Int):=by rw[Int.natCast_mul,l]
 rw[bitXor_and,e1,<- l,bitAnd_pp (iD _) (iD _)];have e2:((n*2 ^ h:Nat):Int).toNat &&& ((2 ^ h:Nat):Int).toNat=(n % 2)*2 ^ h:=by rw[fD,fD];exact zpH n h
 rw[e2];rcases Nat.mod_two_eq_zero_or_one n with z|z;have:((n:Int)) % 2=0:=by lia
 rw[if_pos this,z];simp;have:¬((n:Int)) % 2=0:=by lia
 rw[if_neg this,z,nB];lia
def HAND:ae:=.dict [(.none,.none)]
def SCR(ns:List Int):ae:=.dict [(.none,.list (ns.map .int))]
def YX(H:Hp)(hd:ah)(n:Int):Prop:=∃d m t:Int,H hd=some (.lst [.int d,.int m,.int t])/\0<=m/\m<2 ^ 62/\0<=t/\t<=n
def StT(K:qF)(a:ah)(xs:List V):Prop :=
 ∃(o:Obj) (l:Array af) (n:Nat),K.lookup a=some o/\o.cls=.type "tuple" /\ o.data=.seq l n/\l.size<=sizeLine/\Vals xs l.toList/\o.dict=none
theorem StT.sq{K:qF}{H:Hp}{a:ah}{xs:List V}(h:StT K a xs):SqT K H a xs:=by obtain⟨o,l,n,G,x,C,u,v,_⟩:=h;exact .inr ⟨o,l,n,G,x,C,u,v⟩
def hsT(k:Int×Int):Int:=reduceHash (o7 [hashInt k.1,hashInt k.2])
def entZ(z:(Int×Int)×ah×V)(e:rN):Prop:=e.hash=hsT z.1/\e.key=.ref z.2.1/\RelV z.2.2 e.val
abbrev ZT:=List ((Int×Int)×ah×V)
def ZDO(a:ah)(zs:ZT)(v:Nat):HO:=.ext fun h=>(a == sysModules)=false/\zs.length<=sizeLine/\(zs.map (·.1)).Nodup/\∃o l,h.get? a=some o/\o.ExactDict/\o.data=.dict l v/\gm entZ zs l.toList
abbrev KT2:=List ((Int×Int)×ae)
def entI(z:Int×V)(e:rN):Prop:=e.hash=hashInt z.1/\(∃t,e.key=.int z.1 t)/\RelV z.2 e.val
def KDO(a:ah)(zs:List (Int×V))(v:Nat):HO:=.ext fun h=>(a == sysModules)=false/\zs.length<=sizeLine/\(zs.map (·.1)).Nodup/\∃o l,h.get? a=some o/\o.ExactDict/\o.data=.dict l v/\gm entI zs l.toList
def blkT(k:Int×Int):ae:=.tuple [.int k.1,.int k.2]
def zpl(l:List (Int×ae)):List (ae×ae):=l.map fun q=>(.int q.1,q.2)
def UW(l:KT2):List (ae×ae):=l.map fun q=>(blkT q.1,q.2)
def EXC(C:ah):ae:=.dict [(.none,.int (C:Int))]
def EXO(a C:ah):HO:=.ext fun h=>∃o,h.get? a=some o/\o.cls=.ref C/\∃u,o.data=.fields u
mutual
inductive Rep (K:qF)(hd:Option ah)(O:ah->Prop)(H:Hp):V->ae->Prop
 | non:Rep K hd O H .non .none
 | bl (b:Bool):Rep K hd O H (.bl b) (.bool b)
 | int (i:Int):Rep K hd O H (.int i) (.int i)
 | str (x:Str):Rep K hd O H (.str x) (.str x)
 | tup {a vs ds} (h:H a=some (.tup vs)) (o:¬O a) (r:Reps K hd O H vs ds):Rep K hd O H (.ref a) (.tuple ds)
 | tupS {a vs ds} (h:StT K a vs) (r:Reps K hd O H vs ds):Rep K hd O H (.ref a) (.tuple ds)
 | lst {a vs ds} (h:H a=some (.lst vs)) (o:¬O a) (r:Reps K hd O H vs ds):Rep K hd O H (.ref a) (.list ds)
 | dct {a ep} (h:H a=some (KDO a [] ep)) (o:¬O a):Rep K hd O H (.ref a) (.dict [])
 | dcK {a kvs ep ks ps} (h:H a=some (KDO a kvs ep)) (o:¬O a) (r:Yi K hd O H kvs ks) (e:ps=zpl ks):Rep K hd O H (.ref a) (.dict ps)
 | dcT {a zs ep ks ps} (h:H a=some (ZDO a zs ep)) (o:¬O a) (r:Qe K hd O H zs ks) (e:ps=UW ks):Rep K hd O H (.ref a) (.dict ps)
 | hand {a} (h:hd=some a):Rep K hd O H (.ref a) HAND
 | scr {a ns} (h:Rd H a (.lst (ns.map V.int))) (o:¬O a):Rep K hd O H (.ref a) (SCR ns)
 | scrS {a} {ns:List Int} (h:∀H':Hp,SqL K H' a (ns.map V.int)):Rep K hd O H (.ref a) (SCR ns)
 | exc {a C} (h:H a=some (EXO a C)) (o:¬O a):Rep K hd O H (.ref a) (EXC C)
inductive Reps (K:qF)(hd:Option ah)(O:ah->Prop)(H:Hp):List V->List ae->Prop
 | nil:Reps K hd O H [] []
 | cons {v d vs ds} (h:Rep K hd O H v d) (r:Reps K hd O H vs ds):Reps K hd O H (v::vs) (d::ds)
inductive Yi (K:qF)(hd:Option ah)(O:ah->Prop)(H:Hp):List (Int×V)->List (Int×ae)->Prop
 | nil:Yi K hd O H [] []
 | cons {k v d kvs ks} (h:Rep K hd O H v d) (r:Yi K hd O H kvs ks):Yi K hd O H ((k,v)::kvs) ((k,d)::ks)
inductive Qe (K:qF)(hd:Option ah)(O:ah->Prop)(H:Hp):ZT->KT2->Prop
 | nil:Qe K hd O H [] []
 | cons {k q v d zs ks} (h:Rep K hd O H (.ref q) (.tuple [.int k.1,.int k.2])) (h2:Rep K hd O H v d) (r:Qe K hd O H zs ks):Qe K hd O H ((k,q,v)::zs) ((k,d)::ks)
end
section
variable{K:qF}{hd:Option ah}{O O':ah->Prop}{H H':Hp}
theorem Rep.mono(C:∀a o,H a=some o->O' a->O a)(G:∀a o,¬O a->H a=some o->H' a=some o)(q:Rep K hd O H v d):Rep K hd O' H' v d :=
 Rep.rec (motive_1:=fun v d _=>Rep K hd O' H' v d) (motive_2:=fun v d _=>Reps K hd O' H' v d) (motive_3:=fun v d _=>Yi K hd O' H' v d) (motive_4:=fun v d _=>Qe K hd O' H' v d)
  .non .bl .int .str (fun h o _ r=>.tup (G _ _ o h) (fun z=>o (C _ _ h z)) r) (fun h _ r=>.tupS h r) (fun h o _ r=>.lst (G _ _ o h) (fun z=>o (C _ _ h z)) r) (fun h o=>.dct (G _ _ o h) (fun z=>o (C _ _ h z))) (fun h o _ e r=>.dcK (G _ _ o h) (fun z=>o (C _ _ h z)) r e) (fun h o _ e r=>.dcT (G _ _ o h) (fun z=>o (C _ _ h z)) r e) .hand
  (fun h o=>h.elim (fun h=>.scr (.inl (G _ _ o h)) fun z=>o (C _ _ h z)) fun h=>h.elim fun u h=>.scr (.inr ⟨u,G _ _ o h⟩) fun z=>o (C _ _ h z)) .scrS (fun h o=>.exc (G _ _ o h) (fun z=>o (C _ _ h z)))
  .nil (fun _ _ h r=>.cons h r) .nil (fun _ _ h r=>.cons h r) .nil (fun _ _ _ h k r=>.cons h k r) q
theorem Reps.ind{P:List V->List ae->Prop}(n:P [] [])(c:∀{v d vs ds},Rep K hd O H v d->Reps K hd O H vs ds->P vs ds->P (v::vs) (d::ds))(q:Reps K hd O H vs ds):P vs ds:=by refine Reps.rec (motive_1:=fun _ _ _=>True) (motive_2:=fun v d _=>P v d) (motive_3:=fun _ _ _=>True) (motive_4:=fun _ _ _=>True) ?_ ?_ ?_ ?_ ?_ ?_ ?_ ?_ ?_ ?_ ?_ ?_ ?_ ?_ n (fun h r _ i=>c h r i) ?_ ?_ ?_ ?_ q <;> intros <;> trivial
theorem Qe.ind{P:ZT->KT2->Prop}(n:P [] [])(c:∀{k q v d vs ds},Rep K hd O H (.ref q) (.tuple [.int k.1,.int k.2])->Rep K hd O H v d->Qe K hd O H vs ds->P vs ds->P ((k,q,v)::vs) ((k,d)::ds))(q:Qe K hd O H vs ds):P vs ds:=by refine Qe.rec (motive_1:=fun _ _ _=>True) (motive_4:=fun v d _=>P v d) (motive_2:=fun _ _ _=>True) (motive_3:=fun _ _ _=>True) ?_ ?_ ?_ ?_ ?_ ?_ ?_ ?_ ?_ ?_ ?_ ?_ ?_ ?_ ?_ ?_ ?_ ?_ n (fun h k r _ _ i=>c h k r i) q <;> intros <;> trivial
theorem Reps.mono(u:∀a o,H a=some o->O' a->O a)(v:∀a o,¬O a->H a=some o->H' a=some o)(q:Reps K hd O H vs ds):Reps K hd O' H' vs ds:=q.ind .nil fun h _ r=>.cons (h.mono u v) r
theorem Qe.mono(u:∀a o,H a=some o->O' a->O a)(v:∀a o,¬O a->H a=some o->H' a=some o)(q:Qe K hd O H vs ds):Qe K hd O' H' vs ds:=q.ind .nil fun h k _ r=>.cons (h.mono u v) (k.mono u v) r
theorem Vr(e:(fL,v)::r=zpl l):False:=by
 cases l with
 | nil=>cases e
 | cons q l=>cases e
theorem dict_noT(e:(fL,v)::r=UW l):False:=by
 cases l with
 | nil=>cases e
 | cons q l=>cases e
theorem Reps.length(q:Reps K hd O H vs ds):vs.length=ds.length:=q.ind (P:=fun a b=>a.length=b.length) rfl fun _ _ e=>congrArg (·+1) e
theorem Reps.get{i:Nat}(q:Reps K hd O H l ds):ds[i]?=some d->∃v,l[i]?=some v/\Rep K hd O H v d :=
 q.ind (P:=fun l ds=>∀(i:Nat),ds[i]?=some d->∃v,l[i]?=some v/\Rep K hd O H v d) (fun _ e=>nomatch e) (fun {v _ _ _} h _ r i=>i.casesOn (fun e=>⟨v,rfl,aQ e▸h⟩) fun i e=>r i e) i
theorem Reps.append(q:Reps K hd O H vs ds)(s:Reps K hd O H ws es):Reps K hd O H (vs++ws) (ds++es):=q.ind (P:=fun a b=>Reps K hd O H (a++ws) (b++es)) s fun h _ r=>.cons h r
theorem Reps.take(n:Nat)(q:Reps K hd O H u ds):Reps K hd O H (u.take n) (ds.take n) :=
 q.ind (P:=fun u ds=>∀n:Nat,Reps K hd O H (u.take n) (ds.take n)) (fun n=>by rw[rf,rf];exact .nil) (fun h _ r n=>n.casesOn .nil fun n=>.cons h (r n)) n
theorem Reps.drop(n:Nat)(q:Reps K hd O H u ds):Reps K hd O H (u.drop n) (ds.drop n) :=
 q.ind (P:=fun u ds=>∀n:Nat,Reps K hd O H (u.drop n) (ds.drop n)) (fun n=>by rw[rg,rg];exact .nil) (fun h k r n=>n.casesOn (.cons h k) fun n=>r n) n
theorem Rep.tupI(h:Rep K hd O H v (.tuple ds)):∃a x,v=.ref a/\SqT K H a x/\Reps K hd O H x ds:=by
 cases h with
 | tup h o r=>exact⟨_,_,rfl,.inl (.inl h),r⟩
 | tupS h r=>exact⟨_,_,rfl,h.sq,r⟩
theorem Rep.lstI(h:Rep K hd O H v (.list ds)):∃a u,v=.ref a/\H a=some (.lst u)/\¬O a/\Reps K hd O H u ds:=by
 cases h with
 | lst h o r=>exact⟨_,_,rfl,h,o,r⟩
theorem Rep.intI(h:Rep K hd O H v (.int i)):v=.int i:=by cases h;rfl
theorem Rep.blI(h:Rep K hd O H v (.bool b)):v=.bl b:=by cases h;rfl
theorem Rep.strI(h:Rep K hd O H v (.str x)):v=.str x:=by cases h;rfl
theorem Rep.nonI(h:Rep K hd O H v .none):v=.non:=by cases h;rfl
theorem Rep.handI(h:Rep K hd O H v HAND):∃a,v=.ref a/\hd=some a:=by
 generalize e:HAND=d at h;cases h with
 | hand h=>exact⟨_,rfl,h⟩
 | dct _ _=>cases e
 | dcK _ _ _ o=>cases e;exact(Vr o).elim
 | dcT _ _ _ o=>cases e;exact(dict_noT o).elim
 | scr _ _=>simp[HAND,SCR]at e
 | scrS _=>simp[HAND,SCR]at e
 | exc _ _=>simp[HAND,EXC]at e
 | _=>cases e
theorem Rep.scrI(h:Rep K hd O H v (SCR ns)):∃a,v=.ref a/\SqL K H a (ns.map V.int):=by
 generalize e:SCR ns=d at h;cases h with
 | hand h=>simp[HAND,SCR]at e
 | dct _ _=>cases e
 | dcK _ _ _ u=>cases e;exact(Vr u).elim
 | dcT _ _ _ u=>cases e;exact(dict_noT u).elim
 | @scr a ms h o =>
  have:ns=ms:=by
   have u:(ns.map cI)=ms.map cI:=by simpa[SCR] using e
   have:=congrArg (List.map fun x=>match x with|cI i=>i|_=>0) u;simpa[cx,iX] using this
  subst this;exact⟨_,rfl,.inl h⟩
 | @scrS a ms h =>
  have:ns=ms:=by
   have u:(ns.map cI)=ms.map cI:=by simpa[SCR] using e
   have:=congrArg (List.map fun x=>match x with|cI i=>i|_=>0) u;simpa[cx,iX] using this
  subst this;exact⟨_,rfl,h H⟩
 | exc _ _=>simp[SCR,EXC]at e
 | _=>cases e
end
mutual
def QQ:ae->Bool
 | .list _=>false
 | .tuple ts=>YR ts
 | .dict [(.none,.none)]=>true
 | .dict _=>false
 | _=>true
def YR:List ae->Bool
 | []=>true
 | t::ts=>QQ t&&YR ts
end
section
variable{K:qF}{hd:Option ah}{O O':ah->Prop}{H:Hp}
theorem zoN(e:QQ (.dict (zpl ks))=true):False:=by cases ks <;> exact nomatch e
theorem zoM(e:QQ (.dict (UW ks))=true):False:=by cases ks <;> exact nomatch e
def MutO(o:Option HO):Prop:=(∃xs,o=some (.lst xs))\/(∃v,o=some (.dK v))\/∃u,o=some (.ext u)
theorem Rep.up(C:∀a,O a->MutO (H a))(q:Rep K hd O' H v d):QQ d=true->Rep K hd O H v d:=by
 refine Rep.rec (motive_1:=fun v d _=>QQ d=true->Rep K hd O H v d) (motive_2:=fun v d _=>YR d=true->Reps K hd O H v d) (motive_3:=fun _ _ _=>True) (motive_4:=fun _ _ _=>True)
  (fun _=>.non) (fun b _=>.bl b) (fun b _=>.int b) (fun b _=>.str b) (fun h _ _ r e=>.tup h (fun z=>by rcases C _ z with⟨xs,q⟩|⟨xs,q⟩|⟨b,q⟩ <;> (rw[h]at q;cases q)) (r e)) (fun h _ r e=>.tupS h (r e))
  (fun _ _ _ _ e=>nomatch e) (fun _ _ e=>nomatch e) (fun _ _ _ x _ e=>by subst x;exact(zoN e).elim) (fun _ _ _ x _ e=>by subst x;exact(zoM e).elim) (fun h _=>.hand h) (fun _ _ e=>nomatch e) (fun _ e=>nomatch e) (fun _ _ e=>nomatch e)
  (fun _=>.nil) (fun _ _ h r e=>by rw[YR,aZ]at e;exact .cons (h e.1) (r e.2)) trivial ?_ trivial ?_ q <;> intros <;> trivial
end
section
variable{X:Cx}{pins:qO}{σ:St}{H:Hp}{s:ak}{hd:Option ah}{O:ah->Prop}
theorem Rep.reads(I:Inv X pins σ H s){u:af}(q:Rep X.K hd O H v d):RelV v u->d.hasDict=false->∃G,Reads s.heap u d G:=by
 refine Rep.rec (motive_1:=fun v d _=>∀u,RelV v u->d.hasDict=false->∃G,Reads s.heap u d G) (motive_2:=fun v d _=>∀u,Vals v u->fE d=false->∃G,uE s.heap u d G) (motive_3:=fun _ _ _=>True) (motive_4:=fun _ _ _=>True)
  (fun _ r _=>by cases r;exact⟨_,.none⟩) (fun b _ r _=>by cases r;exact⟨_,.bool b⟩) (fun i _ r _=>by obtain⟨t,rfl⟩:=r;exact⟨_,.int i t⟩) (fun x _ r _=>by obtain⟨t,rfl⟩:=r;exact⟨_,.str x t⟩)
  (fun {_ vs _} h _ _ q _ r e=>?_) (fun {_ vs _} h _ q _ r e=>?_) (fun {_ vs _} h _ _ q _ r e=>?_) (fun _ _ _ _ e=>by simp[cm]at e) (fun _ _ _ _ _ _ _ e=>by simp[cm]at e) (fun _ _ _ _ _ _ _ e=>by simp[cm]at e)
  (fun _ _ _ e=>by simp[HAND,cm]at e) (fun _ _ _ _ e=>by simp[SCR,cm]at e) (fun _ _ _ e=>by simp[SCR,cm]at e) (fun _ _ _ _ e=>by simp[EXC,cm]at e)
  (fun _ r _=>by cases r;exact⟨_,.nil⟩) (fun _ _ h q _ r e=>?_) trivial (by intros;trivial) trivial (by intros;trivial) q u
 cases r;obtain⟨R,L,p,_⟩:=I.tuple (xs:=vs) (.inl (.inl h));obtain⟨o,N,hc,n,C⟩:=p;obtain⟨G,J⟩:=q _ L (by simpa[cm] using e);exact⟨_,.tuple N hc C (by simpa using J)⟩;cases r;obtain⟨R,L,p,_⟩:=I.tuple (xs:=vs) h.sq;obtain⟨o,N,hc,n,C⟩:=p;obtain⟨G,J⟩:=q _ L (by simpa[cm] using e);exact⟨_,.tuple N hc C (by simpa using J)⟩;cases r;obtain⟨R,L,p,_⟩:=I.list (xs:=vs) (.inl (.inl h));obtain⟨o,n,N,hc,_,C⟩:=p;obtain⟨G,J⟩:=q _ L (by simpa[cm] using e);exact⟨_,.list N hc C (by simpa using J)⟩;cases r with
 | cons U Y =>rw[fE,lu]at e;obtain⟨G,J⟩:=h _ U e.1;obtain⟨bs,S⟩:=q _ Y e.2;exact⟨_,.cons J S⟩
theorem Reps.reads(I:Inv X pins σ H s){us:List af}(q:Reps X.K hd O H v ds):Vals v us->fE ds=false->∃u,uE s.heap us ds u :=
 q.ind (P:=fun v ds=>∀us,Vals v us->fE ds=false->∃u,uE s.heap us ds u) (fun _ r _=>by cases r;exact⟨_,.nil⟩) (fun h _ q _ r e=>by
  cases r with
  | cons G C =>rw[fE,lu]at e;obtain⟨u,J⟩:=h.reads I G e.1;obtain⟨bs,x⟩:=q _ C e.2;exact⟨_,.cons J x⟩) us
end
inductive Cell where
 | val (d:ae)
 | own (ds:qD)
 | dct (ks:List (Key×ae))
 | rdo (ks:List (Key×ae))
 | dtt (ks:KT2)
def Cell.mine:Cell->Bool
 | .val _=>false
 | .own _=>true
 | .dct _=>true
 | .rdo _=>false
 | .dtt _=>true
def UA(K:qF)(hd:Option ah)(O:ah->Prop)(H:Hp)(l:List (Key×V))(o:List (Key×ae)):Prop:=gm (fun(p:Key×V) (q:Key×ae)=>p.1=q.1/\Rep K hd O H p.2 q.2) l o
theorem UA.mono{K:qF}{hd:Option ah}{O x:ah->Prop}{H u:Hp}(C:∀a o,H a=some o->x a->O a)(G:∀a o,¬O a->H a=some o->u a=some o){l:List (Key×V)}{v:List (Key×ae)}(r:UA K hd O H l v):UA K hd x u l v :=
 Paired.mapP r fun _ _ z=>⟨z.1,z.2.mono C G⟩
abbrev En:=List (Option Cell)
structure Ctx where
 hd:Option ah
 ext:ah->Prop
def OwnS(l:En)(σ:St)(a:ah):Prop:=∃(i:Nat) (c:Cell),c.mine=true/\l[i]?=some (some c)/\σ[i]?=some (some (V.ref a))
def Own(C:Ctx)(l:En)(σ:St)(a:ah):Prop:=C.ext a\/OwnS l σ a
mutual
def papD:ae->Bool
 | .tuple ts=>decide (ts.length<=1000000)&&zqL ts
 | .str x=>decide (x.length<=1000000)
 | .int _=>true
 | .none=>true
 | .bool _=>true
 | _=>false
def zqL:List ae->Bool
 | []=>true
 | t::ts=>papD t&&zqL ts
end
def pap(t:ae):Bool:=papD t&&t.canLay0&&decide (t.depth<=40)
def QN(K:qF)(H:Hp)(a:ah)(m:Nat):Prop:=∃(o:List V) (ts:qD),H a=some (.lst o)/\o.length<=m/\Reps K none (fun b=>MutO (H b)) H o ts/\∀t∈ts,pap t=true
def Hn(K:qF)(hd:Option ah)(H:Hp)(n:Nat):Prop:=∀a,hd=some a->(YX H a n/\n<10000000000000)\/(10000000000000<=n/\QN K H a (n - 10000000000000))
theorem Hn.lst{K:qF}{hd:Option ah}{H:Hp}{n:Nat}{a:ah}(h:Hn K hd H n)(e:hd=some a):∃o,H a=some (.lst o):=by rcases h a e with⟨⟨_,_,_,q,_⟩,_⟩|⟨_,_,_,q,_⟩;exact⟨_,q⟩;exact⟨_,q⟩
theorem QN.to{K:qF}{H u:Hp}{a:ah}{w:Nat}(h:QN K H a w)(ha:u a=H a)(k:∀b o,¬MutO (H b)->H b=some o->u b=some o)(m:∀b o,H b=some o->MutO (u b)->MutO (H b)):QN K u a w:=by obtain⟨v,ts,q,l,r,p⟩:=h;exact⟨v,ts,ha.trans q,l,r.mono m k,p⟩
theorem QN.upd{K:qF}{H:Hp}{a p:ah}{o:HO}{m:Nat}(h:QN K H a m)(ne:a≠p)(l:MutO (H p)):QN K (upd H p o) a m:=by refine h.to (Je ne) (fun b u nb e=>?_) fun b u e z=>?_;rw[Je (show b≠p from fun z=>nb (by rw[z];exact l))];exact e;by_cases y:b=p;rw[y];exact l;rw[Je y]at z;exact z
theorem QN.same{K:qF}{H u:Hp}{a:ah}{m:Nat}(h:QN K H a m)(s:∀b o,H b=some o->u b=some o):QN K u a m:=by obtain⟨v,ts,q,l,r,p⟩:=id h;exact h.to (by rw[q];exact s _ _ q) (fun b o _ e=>s b o e) fun b o e z=>by rw[s b o e]at z;rw[e];exact z
structure Stt(K:qF)(C:Ctx)(ρ:En)(σ:St)(H:Hp)(n:Nat):Prop where
 len:ρ.length=σ.length
 val:∀(i:Nat) (d:ae),ρ[i]?=some (some (Cell.val d))->∃v,σ[i]?=some (some v)/\Rep K C.hd (Own C ρ σ) H v d
 own:∀(i:Nat) (ds:qD),ρ[i]?=some (some (Cell.own ds))->∃a vs,σ[i]?=some (some (V.ref a))/\H a=some (.lst vs)/\Reps K C.hd (Own C ρ σ) H vs ds/\¬C.ext a
 dct:∀(i:Nat) (ks:List (Key×ae)),ρ[i]?=some (some (Cell.dct ks))->∃a kvs,σ[i]?=some (some (V.ref a))/\H a=some (.dK kvs)/\UA K C.hd (Own C ρ σ) H kvs ks/\¬C.ext a
 rdo:∀(i:Nat) (ks:List (Key×ae)),ρ[i]?=some (some (Cell.rdo ks))->∃a kvs,σ[i]?=some (some (V.ref a))/\H a=some (.dK kvs)/\UA K C.hd (Own C ρ σ) H kvs ks/\C.ext a/\C.hd≠some a
 dtt:∀(i:Nat) (ks:KT2),ρ[i]?=some (some (Cell.dtt ks))->∃a zs ep,σ[i]?=some (some (V.ref a))/\H a=some (ZDO a zs ep)/\Qe K C.hd (Own C ρ σ) H zs ks/\¬C.ext a
 dif:∀(i j:Nat) (c e:Cell) (a:ah),c.mine=true->e.mine=true->ρ[i]?=some (some c)->ρ[j]?=some (some e)->σ[i]?=some (some (V.ref a))->σ[j]?=some (some (V.ref a))->i=j
 hnd:Hn K C.hd H n
 ext:∀a,C.ext a->MutO (H a)
 hx:∀a,C.hd=some a->C.ext a
def ExtE(hd:Option ah)(H l:Hp):Prop:=∀a o,H a=some o->hd≠some a->l a=some o
theorem ExtE.refl:ExtE hd H H:=fun _ _ h _=>h
theorem ExtE.trans(a:ExtE hd H H1)(b:ExtE hd H1 H2):ExtE hd H H2:=fun c o h n=>b c o (a c o h n) n
theorem ExtE.new(h:H p=none):ExtE hd H (upd H p o):=fun b u e _=>by rw[Je (QE e h)];exact e
section
variable{K:qF}{C:Ctx}{ρ:En}{σ:St}{H H':Hp}{n n':Nat}
theorem MutO.ne(h:MutO o):o≠none:=by rcases h with⟨_,rfl⟩|⟨_,rfl⟩|⟨_,rfl⟩ <;> exact fun z=>by cases z
theorem Stt.at(S:Stt K C ρ σ H n){i:Nat}{c:Cell}(m:c.mine=true)(v:ρ[i]?=some (some c)):∃a:ah,σ[i]?=some (some (V.ref a))/\MutO (H a)/\¬C.ext a:=by
 cases c with
 | val d=>cases m
 | own ds =>obtain⟨a,x,e1,e2,_,o⟩:=S.own i ds v;exact⟨a,e1,.inl ⟨_,e2⟩,o⟩
 | dct u =>obtain⟨a,x,e1,e2,_,o⟩:=S.dct i u v;exact⟨a,e1,.inr (.inl ⟨_,e2⟩),o⟩
 | rdo u=>cases m
 | dtt u =>obtain⟨a,x,G,e1,e2,_,o⟩:=S.dtt i u v;exact⟨a,e1,.inr (.inr ⟨_,e2⟩),o⟩
theorem Stt.lst(S:Stt K C ρ σ H n){a:ah}(h:Own C ρ σ a):MutO (H a):=by rcases h with h|⟨i,c,m,o,l⟩;exact S.ext a h;obtain⟨b,e1,e2,_⟩:=S.at m o;rw[l]at e1;cases e1;exact e2
theorem Stt.dom(S:Stt K C ρ σ H n)(h:Own C ρ σ a):H a≠none:=(S.lst h).ne
theorem Stt.free(S:Stt K C ρ σ H n)(h:H a=none):¬Own C ρ σ a:=fun z=>S.dom z h
theorem ExtE.rep(e:ExtE C.hd H H')(hx:∀a,C.hd=some a->C.ext a){v d}(r:Rep K C.hd (Own C ρ σ) H v d):Rep K C.hd (Own C ρ σ) H' v d :=
 r.mono (fun _ _ _ z=>z) fun a o no h=>e a o h fun z=>no (.inl (hx a z))
theorem ExtE.reps(e:ExtE C.hd H H')(hx:∀a,C.hd=some a->C.ext a){v d}(r:Reps K C.hd (Own C ρ σ) H v d):Reps K C.hd (Own C ρ σ) H' v d :=
 r.mono (fun _ _ _ z=>z) fun a o no h=>e a o h fun z=>no (.inl (hx a z))
theorem Stt.onX(S:Stt K C ρ σ H n)(k:∀a o,H a=some o->¬C.ext a->H' a=some o)(U:∀a,C.ext a->MutO (H' a))(Y:∀a N,H a=some (.dK N)->C.ext a->C.hd≠some a->H' a=some (.dK N))(R:Hn K C.hd H' n'):Stt K C ρ σ H' n' where
 len:=S.len
 val:=fun i d hi=>by obtain⟨v,x,G⟩:=S.val i d hi;exact⟨v,x,G.mono (fun _ _ _ z=>z) fun a o no h=>k a o h fun z=>no (.inl z)⟩
 own:=fun i ds hi=>by obtain⟨a,J,x,G,I,u⟩:=S.own i ds hi;exact⟨a,J,x,k a _ G u,I.mono (fun _ _ _ z=>z) (fun a o no h=>k a o h fun z=>no (.inl z)),u⟩
 dct:=fun i ds hi=>by obtain⟨a,J,x,G,I,u⟩:=S.dct i ds hi;exact⟨a,J,x,k a _ G u,I.mono (fun _ _ _ z=>z) (fun a o no h=>k a o h fun z=>no (.inl z)),u⟩
 rdo:=fun i ds hi=>by obtain⟨a,J,x,G,I,u,L⟩:=S.rdo i ds hi;exact⟨a,J,x,Y a _ G u L,I.mono (fun _ _ _ z=>z) (fun a o no h=>k a o h fun z=>no (.inl z)),u,L⟩
 dtt:=fun i ds hi=>by obtain⟨a,J,Z,x,G,I,u⟩:=S.dtt i ds hi;exact⟨a,J,Z,x,k a _ G u,I.mono (fun _ _ _ z=>z) (fun a o no h=>k a o h fun z=>no (.inl z)),u⟩
 dif:=S.dif
 hnd:=R
 ext:=U
 hx:=S.hx
theorem Stt.mut(S:Stt K C ρ σ H n){a:ah}(ha:C.ext a)(h:Hn K C.hd H' n')(e:∀o,H a=some o->C.hd≠some a->H' a=some o):MutO (H' a):=by by_cases z:C.hd=some a;exact .inl (h.lst z);have q:=S.ext a ha;obtain⟨o,u⟩:=Option.ne_none_iff_exists'.mp q.ne;rw[e o u z,<- u];exact q
theorem Stt.on(S:Stt K C ρ σ H n)(e:ExtE C.hd H H')(h:Hn K C.hd H' n'):Stt K C ρ σ H' n' :=
 S.onX (fun a o ha no=>e a o ha fun z=>no (S.hx a z)) (fun a ha=>S.mut ha h (e a)) (fun a u ha _ l=>e a _ ha l) h
end
abbrev DTE:=En->Nat->(ae->Nat->Prop)->Prop
abbrev DTT:=En->Nat->(Bool->Nat->Prop)->Prop
abbrev DTA:=En->Nat->(List ae->Nat->Prop)->Prop
def DE(X:Cx)(e:aO)(d:DTE):Prop:=∃x,PE X e x/\∀(C:Ctx) (o:En) (σ:St) (H:Hp) (n:Nat) (Q:VK) (R:qN),Stt X.K C o σ H n->d o n R ->
 (∀t u v l,R t u->ExtE C.hd H l->Hn X.K C.hd l u->Rep X.K C.hd (Own C o σ) l v t->Q v l)->x σ H Q
def RepT(K:qF)(hd:Option ah)(O:ah->Prop)(H:Hp)(v:V)(t:ae):Prop :=
 Rep K hd O H v t\/(∃a u ds,v=.ref a/\t=.list ds/\H a=some (.lst u)/\Reps K hd O H u ds/\hd≠some a)\/∃a zs x o,v=.ref a/\t=.dict (UW o)/\H a=some (ZDO a zs x)/\Qe K hd O H zs o/\hd≠some a
def DL(X:Cx)(e:aO)(d:DTE):Prop:=∃x,PE X e x/\∀(C:Ctx) (o:En) (σ:St) (H:Hp) (n:Nat) (Q:VK) (R:qN),Stt X.K C o σ H n->d o n R ->
 (∀t u v l,R t u->ExtE C.hd H l->Hn X.K C.hd l u->RepT X.K C.hd (Own C o σ) l v t->Q v l)->x σ H Q
def DN(X:Cx)(e:aO)(d:DTA):Prop:=∃x,PE X e x/\∀(C:Ctx) (u:En) (σ:St) (H:Hp) (n:Nat) (Q:VK) (R:List ae->Nat->Prop),Stt X.K C u σ H n->d u n R ->
 (∀ts v p G o,R ts v->ExtE C.hd H o->Hn X.K C.hd o v->H p=none->o p=some (.lst G)->Reps X.K C.hd (fun a=>Own C u σ a\/a=p) o G ts->Q (.ref p) o)->x σ H Q
def DT(X:Cx)(e:aO)(d:DTT):Prop:=∃u,PT X e u/\∀(C:Ctx) (v:En) (σ:St) (H:Hp) (n:Nat) (Q:Bool->Hp->Prop) (R:Bool->Nat->Prop),Stt X.K C v σ H n->d v n R ->
 (∀b o l,R b o->ExtE C.hd H l->Hn X.K C.hd l o->Q b l)->u σ H Q
def DW(X:Cx)(e:aO)(d:DTT):Prop:=∃u,PW X e u/\∀(C:Ctx) (v:En) (σ:St) (H:Hp) (n:Nat) (Q:Bool->Hp->Prop) (R:Bool->Nat->Prop),Stt X.K C v σ H n->d v n R ->
 (∀b o l,R b o->ExtE C.hd H l->Hn X.K C.hd l o->Q b l)->u σ H Q
def DB(X:Cx)(G:List aO)(d:DTA):Prop:=∃v,PB X G v/\∀(C:Ctx) (o:En) (σ:St) (H:Hp) (n:Nat) (Q:List V->Hp->Prop) (R:List ae->Nat->Prop),Stt X.K C o σ H n->d o n R ->
 (∀ts u x l,R ts u->ExtE C.hd H l->Hn X.K C.hd l u->Reps X.K C.hd (Own C o σ) l x ts->ts.length=G.length->Q x l)->v σ H Q
section
variable{X:Cx}{e a b c:aO}{es:List aO}{d da db dc:DTE}{pos:Pos}
theorem dl(h:DE X e d):DL X e d:=by obtain⟨L,p,h⟩:=h;exact⟨L,p,fun C I σ H n Q R S hd u=>h C I σ H n Q R S hd fun t J v G r e o x=>u t J v G r e o (.inl x)⟩
def dNew(d:DTA):DTE:=fun u n R=>d u n fun ts o=>R (.list ts) o
theorem Jy{d:DTA}(h:DN X e d):DE X e (dNew d):=by obtain⟨N,p,h⟩:=h;refine⟨N,p,fun C I σ H n Q R S hd v=>h C I σ H n Q _ S hd fun ts J p U G r e u x o L=>v _ J _ G r e u (.lst o (S.free x) (L.mono (fun _ _ _ z=>.inl z) fun _ _ _ z=>z))⟩
def dVar(i:Nat):DTE:=fun l n R=>match l[i]? with|some (some (Cell.val d))=>R d n|_=>False
def dOwn(i:Nat):DTE:=fun o n R=>match o[i]? with|some (some (Cell.own d))=>R (.list d) n|_=>False
def dC(t:ae):DTE:=fun _ n R=>R t n
theorem Jk(i:Nat)(G:X.N[i]?=some x:=by rfl)(u:Vis X.env.scope x:=by walk_at "V")(hd:Ndb x:=by rfl)
  (l:Ncd x:=by rfl):DE X (.Name x pos) (dVar i):=by
 refine⟨_,Qg G u hd l,fun C L σ H n Q R S h I=>?_⟩;unfold dVar at h;split at h;rename_i d e;obtain⟨v,o,J⟩:=S.val i d e;exact⟨v,o,I d n v H h ExtE.refl S.hnd J⟩;exact h.elim
theorem zk4(i:Nat)(J:X.N[i]?=some x:=by rfl)(I:Vis X.env.scope x:=by walk_at "V")(hd:Ndb x:=by rfl)
  (o:Ncd x:=by rfl):DL X (.Name x pos) (dOwn i):=by
 refine⟨_,Qg J I hd o,fun C Z σ H n Q R S h L=>?_⟩;unfold dOwn at h;split at h;rename_i ds e;obtain⟨p,v,G,U,u,Y⟩:=S.own i ds e;exact⟨.ref p,G,L _ n _ H h ExtE.refl S.hnd (.inr (.inl ⟨p,v,ds,rfl,rfl,U,u,fun z=>Y (S.hx p z)⟩))⟩;exact h.elim
theorem Ji{i j pos}:DE X (.Constant (.int i) j pos) (dC (.int i)):=⟨_,Jz,fun _ _ _ H n _ _ S h l=>l _ n _ H h ExtE.refl S.hnd (.int i)⟩
theorem Qi{b j pos}:DE X (.Constant (.bool b) j pos) (dC (.bool b)):=⟨_,zt3,fun _ _ _ H n _ _ S h u=>u _ n _ H h ExtE.refl S.hnd (.bl b)⟩
theorem Qv{j pos}:DE X (.Constant .none j pos) (dC .none):=⟨_,zqG,fun _ _ _ H n _ _ S h l=>l _ n _ H h ExtE.refl S.hnd .non⟩
theorem Jo{x j pos}:DE X (.Constant (.str x) j pos) (dC (.str x)):=⟨_,U2,fun _ _ _ H n _ _ S h l=>l _ n _ H h ExtE.refl S.hnd (.str x)⟩
end
section
variable{K:qF}{hd:Option ah}{O:ah->Prop}{H H':Hp}{v:V}{t:ae}{n:Nat}
theorem Same.ext(h:Same H H'):ExtE hd H H':=fun a o e _=>h a o e
theorem Hn.same(h:Hn K hd H n)(s:Same H H'):Hn K hd H' n:=fun a e=>by rcases h a e with⟨⟨d,m,t,q,r⟩,l⟩|⟨l,p⟩;exact .inl ⟨⟨d,m,t,s _ _ q,r⟩,l⟩;exact .inr ⟨l,p.same s⟩
theorem Reps.same{vs ts}(s:Same H H')(r:Reps K hd O H vs ts):Reps K hd O H' vs ts:=r.mono (fun _ _ _ z=>z) fun a o _ h=>s a o h
theorem ExtE.repT(e:ExtE C.hd H H')(hx:∀a,C.hd=some a->C.ext a)(r:RepT K C.hd (Own C ρ σ) H v t):RepT K C.hd (Own C ρ σ) H' v t:=by rcases r with r|⟨a,L,ds,J,G,x,I,u⟩|⟨a,zs,R,N,J,G,x,I,u⟩;exact .inl (e.rep hx r);exact .inr (.inl ⟨a,L,ds,J,G,e _ _ x u,e.reps hx I,u⟩);exact .inr (.inr ⟨a,zs,R,N,J,G,e _ _ x u,I.mono (fun _ _ _ z=>z) (fun a o no h=>e a o h fun z=>no (.inl (hx a z))),u⟩)
theorem RepT.lstI{ds}(h:RepT K hd O H v (.list ds)):∃a o,v=.ref a/\H a=some (.lst o)/\Reps K hd O H o ds:=by rcases h with h|⟨a,o,I,C,u,x,G,_⟩|⟨a,o,J,I,C,u,x,G,_⟩;obtain⟨a,o,C,u,_,x⟩:=h.lstI;exact⟨a,o,C,u,x⟩;cases u;exact⟨a,o,C,x,G⟩;cases u
theorem RepT.tupI{ds}(h:RepT K hd O H v (.tuple ds)):∃a o,v=.ref a/\SqT K H a o/\Reps K hd O H o ds:=by rcases h with h|⟨a,o,J,I,x,G,C,_⟩|⟨a,o,L,J,I,x,G,C,_⟩;exact h.tupI;cases x;cases x
theorem RepT.rep(h:RepT K hd O H v t)(nl:∀ds,t≠.list ds)(nd:∀x,t≠.dict (UW x):=by intro x z;first|cases z|exact dict_noT (yH z)):Rep K hd O H v t:=by rcases h with h|⟨a,I,u,J,o,G,C,_⟩|⟨a,I,L,u,J,o,G,C,_⟩;exact h;exact absurd o (nl u);exact absurd o (nd u)
theorem RepT.intI{i}(h:RepT K hd O H v (.int i)):v=.int i:=(h.rep (by intro _ z;cases z)).intI
theorem RepT.blI{i}(h:RepT K hd O H v (.bool i)):v=.bl i:=(h.rep (by intro _ z;cases z)).blI
theorem RepT.strI{i}(h:RepT K hd O H v (.str i)):v=.str i:=(h.rep (by intro _ z;cases z)).strI
theorem RepT.nonI(h:RepT K hd O H v .none):v=.non:=(h.rep (by intro _ z;cases z)).nonI
theorem Rep.newT{vs ts}(no:¬O p)(h:H p=none)(r:Reps K hd O H vs ts):Rep K hd O (upd H p (.tup vs)) (.ref p) (.tuple ts) :=
 .tup JA no (r.same (fun b u e=>by rw[Je (QE e h)];exact e))
end
theorem JP(h:H p=none):Same H (upd H p o):=fun b u e=>by rw[Je (QE e h)];exact e
abbrev G2:=ae->ae->(ae->Prop)->Prop
def dOp(g:G2)(o db:DTE):DTE:=fun l n R=>o l n fun x n1=>db l n1 fun y n2=>g x y fun z=>R z n2
def Gp2(X:Cx)(r:R2)(g:G2):Prop:=∀(hd:Option ah) (O:ah->Prop) (H:Hp) (x y:V) (t u:ae) (Q:VK) (R:ae->Prop),(∀p,O p->H p≠none)->RepT X.K hd O H x t->RepT X.K hd O H y u->g t u R ->
 (∀z v l,R z->Same H l->Rep X.K hd O l v z->Q v l)->r x y H Q
section
variable{X:Cx}{a b c:aO}{da db dc:DTE}{pos:Pos}{r r':R2}{g g':G2}
theorem two{C:Ctx}{l:En}{σ:St}{H:Hp}{n:Nat}{N Y:TE}(ha:∀(C:Ctx) (l:En) (σ:St) (H:Hp) (n:Nat) (Q:VK) (R:qN),Stt X.K C l σ H n->da l n R ->
  (∀t I v o,R t I->ExtE C.hd H o->Hn X.K C.hd o I->RepT X.K C.hd (Own C l σ) o v t->Q v o)->N σ H Q)
  (hb:∀(C:Ctx) (l:En) (σ:St) (H:Hp) (n:Nat) (Q:VK) (R:qN),Stt X.K C l σ H n->db l n R ->
  (∀t I v o,R t I->ExtE C.hd H o->Hn X.K C.hd o I->RepT X.K C.hd (Own C l σ) o v t->Q v o)->Y σ H Q)
  {U:V->V->Hp->Prop} {R2:ae->ae->Nat->Prop} (S:Stt X.K C l σ H n) (h:da l n fun x n1=>db l n1 fun y n2=>R2 x y n2)
  (hq:∀x y n2 v w G,R2 x y n2->ExtE C.hd H G->Stt X.K C l σ G n2->RepT X.K C.hd (Own C l σ) G v x->RepT X.K C.hd (Own C l σ) G w y->U v w G) :
  N σ H fun v J=>Y σ J fun w G=>U v w G:=by
 refine ha C l σ H n _ _ S h fun t n1 v J r1 e1 Z q1=>?_;have L:=S.on e1 Z;refine hb C l σ J n1 _ _ L r1 fun u n2 w G r2 e2 h2 q2=>?_;exact hq t u n2 v w G r2 (e1.trans e2) (L.on e2 h2) (e2.repT S.hx q1) q2
theorem QO{op:oi}(o:OpR X (binaryOp op) r)(I:Gp2 X r g)(ha:DL X a da)(hb:DL X b db):DE X (.BinOp a op b pos) (dOp g da db):=by obtain⟨ta,pa,ha⟩:=ha;obtain⟨tb,J,hb⟩:=hb;refine⟨_,Jx o pa J,fun C Y σ H n Q R S h L=>?_⟩;refine two ha hb S h fun x y n2 v w H2 Z e l q1 q2=>?_;exact I C.hd (Own C Y σ) H2 v w x y Q _ (fun p=>l.dom) q1 q2 Z fun z u U N sm G=>L z n2 u U N (e.trans sm.ext) (l.hnd.same sm) G
theorem Qk{op:rL}(G:OpR X (compareOp op) r)(L:Gp2 X r g)(ha:DL X a da)(hb:DL X b db)(J:behindInMarks op b=false):DE X (.Compare a [op] [b] pos) (dOp g da db):=by obtain⟨ta,pa,ha⟩:=ha;obtain⟨tb,N,hb⟩:=hb;refine⟨_,zjZ G pa N J,fun C ρ σ H n Q R S h U=>?_⟩;refine two ha hb S h fun x y n2 v w H2 r2 e l q1 q2=>?_;exact L C.hd (Own C ρ σ) H2 v w x y Q _ (fun p=>l.dom) q1 q2 r2 fun z u Z Y sm I=>U z n2 u Z Y (e.trans sm.ext) (l.hnd.same sm) I
def J5(d:DTE):DTT:=fun v n R=>d v n fun t u=>match t with|.bool k=>R k u|_=>False
theorem Jp{op:rL}(I:OpR X (compareOp op) r)(N:Gp2 X r g)(ha:DL X a da)(hb:DL X b db)(L:behindInMarks op b=false):DT X (.Compare a [op] [b] pos) (J5 (dOp g da db)):=by
 obtain⟨ta,pa,ha⟩:=ha;obtain⟨tb,U,hb⟩:=hb;refine⟨_,zg8 I pa U L,fun C ρ σ H n Q R S h Y=>?_⟩;refine two ha hb S h fun x y n2 v w H2 r2 e G q1 q2=>?_;refine N C.hd (Own C ρ σ) H2 v w x y _ _ (fun p=>G.dom) q1 q2 r2 fun z u Z l sm J=>?_;cases z with
 | bool k =>cases J;exact⟨k,rfl,Y k n2 Z l (e.trans sm.ext) (G.hnd.same sm)⟩
 | _=>exact l.elim
def UZ(g g':G2)(da db dc:DTE):DTE:=fun u n R=>da u n fun x n1=>db u n1 fun y n2=>g x y fun z=>match z with
 | .bool true=>dc u n2 fun w v=>g' y w fun z=>R z v
 | .bool false=>R (.bool false) n2
 | _=>False
def gI(C:Int->Int->Prop)(f:Int->Int->Int):G2
 | .int i,.int j,R=>C i j/\R (.int (f i j))
 | _,_,_=>False
def gB(f:Int->Int->Bool):G2
 | .int i,.int j,R=>R (.bool (f i j))
 | _,_,_=>False
theorem gp_I:Gp2 X (rI C fun i j=>.int (f i j)) (gI C f):=by intro hd O H x y t u Q R dom o v h l;unfold gI at h;split at h;rename_i i j;exact⟨i,j,o.intI,v.intI,h.1,l _ _ H h.2 (Same.refl H) (.int _)⟩;exact h.elim
def gI0(f:Int->Int->Int):G2
 | .int i,.int j,R=>R (.int (f i j))
 | _,_,_=>False
theorem zpe:Gp2 X (rI0 fun i j=>.int (f i j)) (gI0 f):=by intro hd O H x y t u Q R dom o v h l;unfold gI0 at h;split at h;rename_i i j;exact⟨i,j,o.intI,v.intI,l _ _ H h (Same.refl H) (.int _)⟩;exact h.elim
theorem gp_B:Gp2 X (rI0 fun i j=>.bl (f i j)) (gB f):=by intro hd O H x y t u Q R dom v C h o;unfold gB at h;split at h;rename_i i j;exact⟨i,j,v.intI,C.intI,o _ _ H h (Same.refl H) (.bl _)⟩;exact h.elim
end
section
variable{X:Cx}{a b c:aO}{da db dc:DTE}{pos:Pos}
def oSub:=gI0 fun i j=>i - j
def oMod:=gI (fun _ j=>0<j) fun i j=>i % j
def Ux:=gI Yl fun i j=>i / j
def oShl:=gI CPow fun i j=>i*2 ^ j.toNat
def oShr:=gI (fun _ j=>0<=j) fun i j=>i / 2 ^ j.toNat
def oXor:=gI0 eR
def oAnd:=gI0 fJ
theorem QT(ha:DL X a da)(hb:DL X b db):DE X (.BinOp a .Sub b pos) (dOp oSub da db):=QO zqN zpe ha hb
theorem ZO(ha:DL X a da)(hb:DL X b db):DE X (.BinOp a .Mod b pos) (dOp oMod da db):=QO UI gp_I ha hb
theorem zpq(ha:DL X a da)(hb:DL X b db):DE X (.BinOp a .FloorDiv b pos) (dOp Ux da db):=QO Vx gp_I ha hb
theorem Qw(ha:DL X a da)(hb:DL X b db):DE X (.BinOp a .LShift b pos) (dOp oShl da db):=QO zqP gp_I ha hb
theorem zlb(ha:DL X a da)(hb:DL X b db):DE X (.BinOp a .RShift b pos) (dOp oShr da db):=QO zqO gp_I ha hb
theorem zsl(ha:DL X a da)(hb:DL X b db):DE X (.BinOp a .BitXor b pos) (dOp oXor da db):=QO zqM zpe ha hb
theorem zsp(ha:DL X a da)(hb:DL X b db):DE X (.BinOp a .BitAnd b pos) (dOp oAnd da db):=QO zqZ zpe ha hb
end
section
variable{X:Cx}{pins:qO}{σ:St}{H:Hp}{s:ak}{hd:Option ah}{O:ah->Prop}
theorem RepT.reads(I:Inv X pins σ H s)(h:RepT X.K hd O H v d)(r:RelV v u)(e:d.hasDict=false):∃G,Reads s.heap u d G:=by
 rcases h with h|⟨a,R,ds,rfl,rfl,C,J,_⟩|⟨a,zs,Z,Y,rfl,rfl,C,J,_⟩
 rotate_left 2
 simp[cm]at e;exact h.reads I r e;cases r;obtain⟨S,L,p,_⟩:=I.list (xs:=R) (.inl (.inl C));obtain⟨o,n,N,hc,_,x⟩:=p;obtain⟨G,U⟩:=Reps.reads I J L (by simpa[cm] using e);exact⟨_,.list N hc x (by simpa using U)⟩
end
def Okd(t:ae):Prop:=t.canLay0=true/\t.depth<=60
section
variable{X:Cx}{a b c:aO}{da db dc:DTE}{pos:Pos}{k:Nat}
def rEqD(K:qF)(neg:Bool):R2:=fun x y H Q=>∃hd O t u,RepT K hd O H x t/\RepT K hd O H y u/\Okd t/\Okd u/\Q (.bl (if neg then !t.eqv u else t.eqv u)) H
theorem zqX(J:Room k X.A):OpR X (compareOp .Eq) (rEqD X.K false):=by intro pins s σ H x y v u Q I N R h;obtain⟨hd,O,t,w,U,L,o,C,q⟩:=h;obtain⟨Y,S⟩:=U.reads I N (bZ _ o.1);obtain⟨bs,G⟩:=L.reads I R (bZ _ C.1);refine SeqAt.compareEq_reads S G o.1 C.1 ?_ ⟨.bl _,H,I,rfl,q⟩;have:=J.un;have:=o.2;omega
theorem zqR(L:Room k X.A):OpR X (compareOp .NotEq) (rEqD X.K true):=by intro pins s σ H x y v u Q I S U h;obtain⟨hd,O,t,w,Z,R,C,G,q⟩:=h;obtain⟨as,Y⟩:=Z.reads I S (bZ _ C.1);obtain⟨bs,J⟩:=R.reads I U (bZ _ G.1);refine SeqAt.compareNe_reads Y J C.1 G.1 ?_ ⟨.bl _,H,I,rfl,q⟩;have:=L.un;have:=C.2;omega
def oEq:G2
 | .int i,.int j,R=>R (.bool (decide (i=j)))
 | .str i,.str j,R=>R (.bool (decide (i=j)))
 | .bool i,.bool j,R=>R (.bool (decide (i=j)))
 | t,u,R=>Okd t/\Okd u/\R (.bool (t.eqv u))
def oNe:G2
 | .int i,.int j,R=>R (.bool (!decide (i=j)))
 | .str i,.str j,R=>R (.bool (!decide (i=j)))
 | .bool i,.bool j,R=>R (.bool (!decide (i=j)))
 | t,u,R=>Okd t/\Okd u/\R (.bool (!t.eqv u))
def rEqA(K:qF):R2:=fun x y H Q=>rEq x y H Q\/rEqD K false x y H Q
def rNeA(K:qF):R2:=fun x y H Q=>rNe x y H Q\/rEqD K true x y H Q
theorem Qx(l:Room k X.A):OpR X (compareOp .Eq) (rEqA X.K):=OpR.or zt7 (zqX l)
theorem QX(l:Room k X.A):OpR X (compareOp .NotEq) (rNeA X.K):=OpR.or zt5 (zqR l)
theorem Qt:Gp2 X (rEqA X.K) oEq:=by
 intro hd O H x y t u Q R dom C G h v;have D:Okd t/\Okd u/\R (.bool (t.eqv u))->rEqA X.K x y H Q:=fun h=>.inr ⟨hd,O,_,_,C,G,h.1,h.2.1,v _ _ H h.2.2 (Same.refl H) (.bl _)⟩;cases t with
 | int i=>cases u with
  | int j =>rw[C.intI,G.intI];refine .inl ⟨rfl,?_⟩;have e:decide (V.int i=V.int j)=decide (i=j):=decide_eq_decide.mpr ⟨fun z=>by cases z;rfl,fun z=>by rw[z]⟩;rw[e];exact v _ _ H h (Same.refl H) (.bl _)
  | _=>exact D h
 | str i=>cases u with
  | str j =>rw[C.strI,G.strI];refine .inl ⟨rfl,?_⟩;have e:decide (V.str i=V.str j)=decide (i=j):=decide_eq_decide.mpr ⟨fun z=>by cases z;rfl,fun z=>by rw[z]⟩;rw[e];exact v _ _ H h (Same.refl H) (.bl _)
  | _=>exact D h
 | bool i=>cases u with
  | bool j =>rw[C.blI,G.blI];refine .inl ⟨rfl,?_⟩;have e:decide (V.bl i=V.bl j)=decide (i=j):=decide_eq_decide.mpr ⟨fun z=>by cases z;rfl,fun z=>by rw[z]⟩;rw[e];exact v _ _ H h (Same.refl H) (.bl _)
  | _=>exact D h
 | _=>exact D h
theorem QP:Gp2 X (rNeA X.K) oNe:=by
 intro hd O H x y t u Q R dom C G h v;have D:Okd t/\Okd u/\R (.bool (!t.eqv u))->rNeA X.K x y H Q:=fun h=>.inr ⟨hd,O,_,_,C,G,h.1,h.2.1,v _ _ H h.2.2 (Same.refl H) (.bl _)⟩;cases t with
 | int i=>cases u with
  | int j =>rw[C.intI,G.intI];refine .inl ⟨rfl,?_⟩;have e:decide (V.int i=V.int j)=decide (i=j):=decide_eq_decide.mpr ⟨fun z=>by cases z;rfl,fun z=>by rw[z]⟩;rw[e];exact v _ _ H h (Same.refl H) (.bl _)
  | _=>exact D h
 | str i=>cases u with
  | str j =>rw[C.strI,G.strI];refine .inl ⟨rfl,?_⟩;have e:decide (V.str i=V.str j)=decide (i=j):=decide_eq_decide.mpr ⟨fun z=>by cases z;rfl,fun z=>by rw[z]⟩;rw[e];exact v _ _ H h (Same.refl H) (.bl _)
  | _=>exact D h
 | bool i=>cases u with
  | bool j =>rw[C.blI,G.blI];refine .inl ⟨rfl,?_⟩;have e:decide (V.bl i=V.bl j)=decide (i=j):=decide_eq_decide.mpr ⟨fun z=>by cases z;rfl,fun z=>by rw[z]⟩;rw[e];exact v _ _ H h (Same.refl H) (.bl _)
  | _=>exact D h
 | _=>exact D h
def isNone:ae->Bool
 | .none=>true
 | _=>false
def oIs:G2
 | .bool a,.bool b,R=>R (.bool (a == b))
 | t,.none,R=>R (.bool (isNone t))
 | _,_,_=>False
def rIs:R2:=fun x y H Q=>(y=.non/\Q (.bl (decide (x=.non))) H)\/∃a b,x=.bl a/\y=.bl b/\Q (.bl (a == b)) H
theorem Zw:OpR X (compareOp .Is) rIs:=OpR.or zqU zqV
theorem RepT.isN{K:qF}{hd:Option ah}{O:ah->Prop}{H:Hp}{v:V}{t:ae}(h:RepT K hd O H v t):decide (v=.non)=(isNone t):=by rcases h with h|⟨a,C,ds,rfl,rfl,u,l,_⟩|⟨a,zs,G,x,rfl,rfl,u,l,_⟩;cases h <;> simp[HAND,SCR,EXC,isNone];simp[isNone];simp[isNone]
theorem ZH:Gp2 X rIs oIs:=by intro hd O H x y t u Q R dom v C h o;unfold oIs at h;split at h;rename_i i j;exact .inr ⟨i,j,v.blI,C.blI,o _ _ H h (Same.refl H) (.bl _)⟩;refine .inl ⟨C.nonI,?_⟩;rw[v.isN];exact o _ _ H h (Same.refl H) (.bl _);exact h.elim
def rInD(K:qF)(neg:Bool):R2:=fun x y H Q=>∃hd O t ts,RepT K hd O H x t/\(RepT K hd O H y (.tuple ts)\/RepT K hd O H y (.list ts))/\Okd t/\(∀u∈ts,Okd u)/\Q (.bl (if neg then !ts.any (fun u=>u.eqv t) else ts.any (fun u=>u.eqv t))) H
theorem zj7:∀{ts:qD},(∀u∈ts,Okd u)->bW ts=true
 | [],_=>by simp[bW]
 | t::ts,h=>by simp only[bW,aZ];exact⟨(h t (by simp)).1,zj7 fun u l=>h u (by simp[l])⟩
theorem zf4(U:Room k X.A):OpR X (compareOp .NotIn) (rInD X.K true):=by
 intro pins s σ H x y v u Q I Z R h;obtain⟨hd,O,t,ts,h1,C,G,Y,q⟩:=h;obtain⟨as,S⟩:=h1.reads I Z (bZ _ G.1);have cl:=zj7 Y;have L:X.A.units+1+min (cU ts) t.depth<cLine:=by have:=U.un;have:=G.2;omega
 rcases C with C|C;obtain⟨bs,J⟩:=C.reads I R (bZ _ (by simpa[cn] using cl));exact SeqAt.notIn_tuple_reads J S cl G.1 L ⟨.bl _,H,I,rfl,q⟩;obtain⟨bs,J⟩:=C.reads I R (bZ _ (by simpa[cn] using cl));exact SeqAt.notIn_list_reads J S cl G.1 L ⟨.bl _,H,I,rfl,q⟩
def YS:G2
 | t,.tuple ts,R=>Okd t/\(∀u∈ts,Okd u)/\R (.bool (!ts.any fun u=>u.eqv t))
 | t,.list ts,R=>Okd t/\(∀u∈ts,Okd u)/\R (.bool (!ts.any fun u=>u.eqv t))
 | _,_,_=>False
theorem zir:Gp2 X (rInD X.K true) YS:=by intro hd O H x y t u Q R dom v C h o;unfold YS at h;split at h;exact⟨hd,O,_,_,v,.inl C,h.1,h.2.1,o _ _ H h.2.2 (Same.refl H) (.bl _)⟩;exact⟨hd,O,_,_,v,.inr C,h.1,h.2.1,o _ _ H h.2.2 (Same.refl H) (.bl _)⟩;exact h.elim
def oLtA:G2
 | .int i,.int j,R=>R (.bool (decide (i<j)))
 | .str i,.str j,R=>R (.bool (decide (i.cps.toList<j.cps.toList)))
 | .tuple xs,.tuple ys,R=>∃ns v,xs=ns.map cI/\ys=v.map cI/\R (.bool (HT.lexLt ns v))
 | _,_,_=>False
def rLtA(K:qF):R2:=fun x y H Q=>(rI0 fun i j=>.bl (decide (i<j))) x y H Q\/(∃i j,x=.str i/\y=.str j/\Q (.bl (decide (i.cps.toList<j.cps.toList))) H)\/rLtT K x y H Q
theorem Ua(l:Room k X.A):OpR X (compareOp .Lt) (rLtA X.K):=OpR.or zqT (OpR.or zj4 (zqS l.units0))
theorem zdS{K:qF}{hd:Option ah}{O:ah->Prop}{H:Hp}:∀{ns:List Int}{l:List V},Reps K hd O H l (ns.map cI)->l=ns.map V.int
 | [],_,h=>by cases h;rfl
 | n::ns,_,h=>by
  cases h with
  | cons h r=>rw[h.intI,zdS r];rfl
theorem Q7:Gp2 X (rLtA X.K) oLtA:=by
 intro hd O H x y t u Q R dom v C h o;cases t with
 | int i=>cases u with
  | int j=>exact .inl ⟨_,_,v.intI,C.intI,o _ _ H h (Same.refl H) (.bl _)⟩
  | _=>exact h.elim
 | str i=>cases u with
  | str j=>exact .inr (.inl ⟨_,_,v.strI,C.strI,o _ _ H h (Same.refl H) (.bl _)⟩)
  | _=>exact h.elim
 | tuple i=>cases u with
  | tuple j =>obtain⟨ns,I,rfl,rfl,h⟩:=h;obtain⟨p,L,e1,s1,G⟩:=v.tupI;obtain⟨q,N,e2,s2,J⟩:=C.tupI;rw[zdS G]at s1;rw[zdS J]at s2;exact .inr (.inr ⟨p,q,ns,I,e1,e2,s1,s2,o _ _ H h (Same.refl H) (.bl _)⟩)
  | _=>exact h.elim
 | _=>exact h.elim
def oLeA:G2
 | .int i,.int j,R=>R (.bool (decide (i<=j)))
 | .str i,.str j,R=>R (.bool (!decide (j.cps.toList<i.cps.toList)))
 | _,_,_=>False
def rLeA:R2:=fun x y H Q=>(rI0 fun i j=>.bl (decide (i<=j))) x y H Q\/(∃i j,x=.str i/\y=.str j/\Q (.bl (!decide (j.cps.toList<i.cps.toList))) H)
theorem zj5:OpR X (compareOp .LtE) (fun x y H Q=>∃i j,x=.str i/\y=.str j/\Q (.bl (!decide (j.cps.toList<i.cps.toList))) H):=by intro pins s σ H x y v u Q I o C h;obtain⟨i,j,rfl,rfl,q⟩:=h;obtain⟨t,rfl⟩:=o;obtain⟨t',rfl⟩:=C;exact PySem.P.le_str ⟨.bl _,H,I,rfl,q⟩
theorem JZ:OpR X (compareOp .LtE) rLeA:=OpR.or zt6 zj5
theorem JY:Gp2 X rLeA oLeA:=by
 intro hd O H x y t u Q R dom v C h o;cases t with
 | int i=>cases u with
  | int j=>exact .inl ⟨_,_,v.intI,C.intI,o _ _ H h (Same.refl H) (.bl _)⟩
  | _=>exact h.elim
 | str i=>cases u with
  | str j=>exact .inr ⟨_,_,v.strI,C.strI,o _ _ H h (Same.refl H) (.bl _)⟩
  | _=>exact h.elim
 | _=>exact h.elim
variable{r r':R2}{g g':G2}
theorem zfF(ho:OpR X (compareOp op) r)(hg:Gp2 X r g)(Y:OpR X (compareOp op') r')(hg':Gp2 X r' g')(ha:DL X a da)(hb:DL X b db)(hc:DL X c dc)
  (hm:lastMarks [op,op'] [b,c]=false:=by with_unfolding_all rfl):DE X (.Compare a [op,op'] [b,c] pos) (UZ g g' da db dc):=by
 obtain⟨ta,pa,ha⟩:=ha;obtain⟨tb,pb,hb⟩:=hb;obtain⟨tc,pc,hc⟩:=hc;refine⟨_,zmo ho Y pa pb pc hm,fun C ρ σ H n Q R S h hq=>?_⟩;refine two ha hb S h fun x y n2 v w H2 r2 e S2 q1 q2=>?_;refine hg C.hd (Own C ρ σ) H2 v w x y _ _ (fun p=>S2.dom) q1 q2 r2 fun z u J I sm N=>?_;have U:=S2.on sm.ext (S2.hnd.same sm);cases z with
 | bool k =>
  cases N;refine⟨k,rfl,?_⟩;cases k with
  | false=>exact iteF (hq _ n2 _ J I (e.trans sm.ext) U.hnd (.bl _))
  | true =>refine iteT (hc C ρ σ J n2 _ _ U I fun z2 n3 w2 H4 r4 L h4 q4=>?_);have S4:=U.on L h4;have Z:=L.repT S.hx ((Same.ext sm:ExtE C.hd H2 J).repT S.hx q2);exact hg' C.hd (Own C ρ σ) H4 w w2 y z2 Q _ (fun p=>S4.dom) Z q4 r4 fun z u J I G N=>hq z n3 u J I (((e.trans sm.ext).trans L).trans G.ext) (S4.hnd.same G) N
 | _=>exact I.elim
end
section
variable{X:Cx}{a b c e:aO}{es rest:List aO}{d da db dc:DTE}{t u:DTT}{pos p:Pos}{k:Nat}
def truD:ae->(Bool->Prop)->Prop
 | .none,R=>R false
 | .bool b,R=>R b
 | .int i,R=>R (decide (i≠0))
 | .str x,R=>x.length<=16777216/\R (decide (x.length≠0))
 | .list ts,R=>R (!ts.isEmpty)
 | .tuple ts,R=>R (!ts.isEmpty)
 | _,_=>False
def dTru(d:DTE):DTT:=fun o n R=>d o n fun t l=>truD t fun b=>R b l
theorem zpY{K:qF}{hd:Option ah}{O:ah->Prop}{H:Hp}{v:V}{t:ae}{Q:Bool->Hp->Prop}{R:Bool->Prop}(r:RepT K hd O H v t)(h:truD t R)(C:∀b,R b->Q b H):∃k,TruV K v H k/\Q k H:=by
 cases t with
 | none=>exact⟨false,by rw[r.nonI];rfl,C _ h⟩
 | bool b=>exact⟨b,by rw[r.blI];rfl,C _ h⟩
 | int i=>exact⟨decide (i≠0),by rw[r.intI];show _=(i != 0);by_cases z:i=0 <;> simp[z],C _ h⟩
 | str x =>refine⟨decide (x.length≠0),by rw[r.strI];exact⟨h.1,by by_cases z:x.length=0 <;> simp[z]⟩,C _ h.2⟩
 | list ts =>obtain⟨p,G,e,J,I⟩:=r.lstI;subst e;refine⟨!ts.isEmpty,.inl ⟨G,.of J,?_⟩,C _ h⟩;cases I <;> rfl
 | tuple ts =>obtain⟨p,G,e,J,I⟩:=r.tupI;subst e;refine⟨!ts.isEmpty,.inr (.inl ⟨G,J,?_⟩),C _ h⟩;cases I <;> rfl
 | dict _=>exact h.elim
theorem JI(ha:DL X a da)(G:∀whole,isTrue a X.env whole=(do let v <- whole;standAt a.pos;holding [v] (truthy v)):=by intro _;rfl):DT X a (dTru da):=by obtain⟨N,pa,ha⟩:=ha;refine⟨_,zh9 pa G,fun C J σ H n Q R S h x=>?_⟩;refine ha C J σ H n _ _ S h fun t L v I r e1 o q=>?_;exact zpY q r fun b l=>x b L I l e1 o
def dAnd(t u:DTT):DTT:=fun l n R=>t l n fun b n1=>if b=true then u l n1 R else R false n1
def dOr(t u:DTT):DTT:=fun l n R=>t l n fun b n1=>if b=true then R true n1 else u l n1 R
def dNot(t:DTT):DTT:=fun l n R=>t l n fun b n1=>R (!b) n1
theorem JT(h:DW X a t):DT X a t:=by obtain⟨l,pa,h⟩:=h;exact⟨_,pa.pt,h⟩
theorem Y5(h:DT X a t):DW X (.BoolOp .And [a] pos) t:=by obtain⟨v,pa,h⟩:=h;exact⟨_,zjN pa,h⟩
theorem Qm(h:DT X a t):DW X (.BoolOp .Or [a] pos) t:=by obtain⟨v,pa,h⟩:=h;exact⟨_,znD pa,h⟩
theorem YW(h:DT X a t)(h':DW X (.BoolOp .And (b::rest) pos) u):DW X (.BoolOp .And (a::b::rest) pos) (dAnd t u):=by
 obtain⟨U,pa,h⟩:=h;obtain⟨Y,J,h'⟩:=h';refine⟨_,znE pa J,fun C I σ H n Q R S hd G=>?_⟩;refine h C I σ H n _ _ S hd fun b n1 v r e1 x=>?_;cases b with
 | true=>exact iteT (h' C I σ v n1 Q R (S.on e1 x) (by simpa using r) fun b n2 N r e2 L=>G b n2 N r (e1.trans e2) L)
 | false=>exact iteF (G _ n1 v (by simpa using r) e1 x)
theorem Qf(h:DT X a t)(h':DW X (.BoolOp .Or (b::rest) pos) u):DW X (.BoolOp .Or (a::b::rest) pos) (dOr t u):=by
 obtain⟨U,pa,h⟩:=h;obtain⟨Y,J,h'⟩:=h';refine⟨_,zqu pa J,fun C I σ H n Q R S hd G=>?_⟩;refine h C I σ H n _ _ S hd fun b n1 v r e1 x=>?_;cases b with
 | false=>exact iteF (h' C I σ v n1 Q R (S.on e1 x) (by simpa using r) fun b n2 N r e2 L=>G b n2 N r (e1.trans e2) L)
 | true=>exact iteT (G _ n1 v (by simpa using r) e1 x)
theorem JN(h:DT X a t):DT X (.UnaryOp .Not a pos) (dNot t):=by obtain⟨I,pa,h⟩:=h;refine⟨_,zqv pa,fun C G σ H n Q R S hd x=>?_⟩;exact h C G σ H n _ _ S hd fun b n1 l r e1 v=>x _ n1 l r e1 v
def bolD:ae->(Bool->Prop)->Prop
 | .bool b,R=>R b
 | _,_=>False
def zpy(da db:DTE):DTE:=fun v n R=>da v n fun t n1=>bolD t fun b=>if b=true then db v n1 R else R (.bool false) n1
def dOrV(da db:DTE):DTE:=fun v n R=>da v n fun t n1=>bolD t fun b=>if b=true then R (.bool true) n1 else db v n1 R
def zpu(da:DTE):DTE:=fun v n R=>da v n fun t n1=>bolD t fun b=>R (.bool (!b)) n1
theorem QK{op}(h:DE X a d):DE X (.BoolOp op [a] pos) d:=by obtain⟨v,pa,h⟩:=h;exact⟨_,zqE pa,h⟩
theorem Qq(h:DE X a da)(h':DE X (.BoolOp .And (b::rest) pos) db):DE X (.BoolOp .And (a::b::rest) pos) (zpy da db):=by
 obtain⟨Y,pa,h⟩:=h;obtain⟨Z,L,h'⟩:=h';refine⟨_,zqJ pa L,fun C J σ H n Q R S hd I=>?_⟩;refine h C J σ H n _ _ S hd fun t n1 v x r e1 G q1=>?_;cases t with
 | bool b =>
  cases q1;refine⟨b,rfl,?_⟩;cases b with
  | true=>exact iteT (h' C J σ x n1 Q R (S.on e1 G) (by simpa[bolD] using r) fun t n2 v U r e2 N q2=>I t n2 v U r (e1.trans e2) N q2)
  | false=>exact iteF (I _ n1 _ x (by simpa[bolD] using r) e1 G (.bl _))
 | _=>exact r.elim
theorem zsm(h:DE X a da)(h':DE X (.BoolOp .Or (b::rest) pos) db):DE X (.BoolOp .Or (a::b::rest) pos) (dOrV da db):=by
 obtain⟨Y,pa,h⟩:=h;obtain⟨Z,L,h'⟩:=h';refine⟨_,zt2 pa L,fun C J σ H n Q R S hd I=>?_⟩;refine h C J σ H n _ _ S hd fun t n1 v x r e1 G q1=>?_;cases t with
 | bool b =>
  cases q1;refine⟨b,rfl,?_⟩;cases b with
  | false=>exact iteF (h' C J σ x n1 Q R (S.on e1 G) (by simpa[bolD] using r) fun t n2 v U r e2 N q2=>I t n2 v U r (e1.trans e2) N q2)
  | true=>exact iteT (I _ n1 _ x (by simpa[bolD] using r) e1 G (.bl _))
 | _=>exact r.elim
theorem zhJ(h:DE X a da):DE X (.UnaryOp .Not a pos) (zpu da):=by
 obtain⟨L,pa,h⟩:=h;refine⟨_,zqF pa,fun C J σ H n Q R S hd I=>?_⟩;refine h C J σ H n _ _ S hd fun t n1 v x r e1 G q1=>?_;cases t with
 | bool b =>cases q1;exact⟨b,rfl,I _ n1 _ x r e1 G (.bl _)⟩
 | _=>exact r.elim
def dIfE(t:DTT)(da db:DTE):DTE:=fun l n R=>t l n fun b n1=>if b=true then da l n1 R else db l n1 R
theorem zfE(hc:DT X c t)(h:DE X a da)(h':DE X b db):DE X (.IfExp c a b pos) (dIfE t da db):=by
 obtain⟨Z,pc,hc⟩:=hc;obtain⟨Y,pa,h⟩:=h;obtain⟨tb,U,h'⟩:=h';refine⟨_,zmn pc pa U,fun C o σ H n Q R S hd L=>?_⟩;refine hc C o σ H n _ _ S hd fun b n1 J r e1 N=>?_;cases b with
 | true=>exact iteT (h C o σ J n1 Q R (S.on e1 N) (by simpa using r) fun t n2 v G r e2 l q2=>L t n2 v G r (e1.trans e2) l q2)
 | false=>exact iteF (h' C o σ J n1 Q R (S.on e1 N) (by simpa using r) fun t n2 v G r e2 l q2=>L t n2 v G r (e1.trans e2) l q2)
def dNil:DTA:=fun _ n R=>R [] n
def JG(d:DTE)(ds:DTA):DTA:=fun l n R=>d l n fun t n1=>ds l n1 fun ts n2=>R (t::ts) n2
theorem Ja:DB X [] dNil:=⟨_,Qo,fun C v σ H n Q R S h o=>o [] n [] H h ExtE.refl S.hnd .nil rfl⟩
theorem zle(h:DE X e d)(l:DB X es ds)(L:starEach (e::es) X.env=(false,eval e X.env)::starEach es X.env):DB X (e::es) (JG d ds):=by obtain⟨ta,pa,h⟩:=h;obtain⟨tb,J,l⟩:=l;refine⟨_,JX pa J L,fun C x σ H n Q R S hd N=>?_⟩;refine h C x σ H n _ _ S hd fun t n1 v G r e1 I q1=>?_;refine l C x σ G n1 _ _ (S.on e1 I) r fun ts n2 vs Z Y e2 U q2 l2=>?_;exact N _ n2 _ Z Y (e1.trans e2) U (.cons (e2.rep S.hx q1) q2) (by simp[l2])
def Yh(K:qF)(hd:Option ah)(O:ah->Prop)(H:Hp):List V->List ae->Prop:=gm (RepT K hd O H)
def DBL(X:Cx)(es:List aO)(d:DTA):Prop:=∃x,PB X es x/\∀(C:Ctx) (o:En) (σ:St) (H:Hp) (n:Nat) (Q:List V->Hp->Prop) (R:List ae->Nat->Prop),Stt X.K C o σ H n->d o n R ->
 (∀ts v G l,R ts v->ExtE C.hd H l->Hn X.K C.hd l v->Yh X.K C.hd (Own C o σ) l G ts->ts.length=es.length->Q G l)->x σ H Q
theorem Jn:DBL X [] dNil:=⟨_,Qo,fun C v σ H n Q R S h o=>o [] n [] H h ExtE.refl S.hnd .nil rfl⟩
theorem Jl(h:DL X e d)(l:DBL X es ds)(L:starEach (e::es) X.env=(false,eval e X.env)::starEach es X.env):DBL X (e::es) (JG d ds):=by obtain⟨ta,pa,h⟩:=h;obtain⟨tb,J,l⟩:=l;refine⟨_,JX pa J L,fun C x σ H n Q R S hd N=>?_⟩;refine h C x σ H n _ _ S hd fun t n1 v G r e1 I q1=>?_;refine l C x σ G n1 _ _ (S.on e1 I) r fun ts n2 vs Z Y e2 U q2 l2=>?_;exact N _ n2 _ Z Y (e1.trans e2) U (.cons (e2.repT S.hx q1) q2) (by simp[l2])
def dTup(ds:DTA):DTE:=fun o n R=>ds o n fun ts n1=>R (.tuple ts) n1
theorem JF(h:DB X es ds)(G:es.length<=sizeLine:=by decide):DE X (.Tuple es x1 pos) (dTup ds):=by obtain⟨U,pa,h⟩:=h;refine⟨_,zjY pa,fun C J σ H n Q R S hd I=>?_⟩;refine h C J σ H n _ _ S hd fun ts n1 N L r e1 v q1 l1=>⟨by rw[q1.length,l1];exact G,fun p o=>?_⟩;have x:=S.on e1 v;exact I _ n1 _ _ r (e1.trans (ExtE.new o)) (v.same (JP o)) (.newT (x.free o) o q1)
theorem J6(h:DB X es ds)(I:es.length<=sizeLine:=by decide):DN X (.List es pos) ds:=by
 obtain⟨Z,pa,h⟩:=h;refine⟨_,Vf pa,fun C N σ H n Q R S hd J=>?_⟩;refine h C N σ H n _ _ S hd fun ts n1 G Y r e1 v q1 l1=>⟨by rw[q1.length,l1];exact I,fun p l=>?_⟩;have U:=S.on e1 v;have x:H p=none:=by
  cases z:H p with
  | none=>rfl
  | some o =>by_cases y:C.hd=some p;obtain⟨G,q⟩:=v.lst y;rw[l]at q;cases q;rw[e1 p o z y]at l;cases l
 refine J ts n1 p G _ r (e1.trans (ExtE.new l)) (v.same (JP l)) x JA ?_;refine q1.mono (fun b o hb z=>z.elim id fun z=>?_) fun b o _ hb=>JP l b o hb;subst z;rw[l]at hb;cases hb
end
section
variable{X:Cx}{a b c e:aO}{es rest:List aO}{d da db dc:DTE}{ds:DTA}{pos p:Pos}{k:Nat}{x:Str}
abbrev GC:=List ae->(ae->Prop)->Prop
def YT(g:GC)(ds:DTA):DTE:=fun l n R=>ds l n fun ts n1=>g ts fun z=>R z n1
def GpC(X:Cx)(r:List V->Hp->VK->Prop)(g:GC):Prop:=∀(hd:Option ah) (O:ah->Prop) (H:Hp) (xs:List V) (ts:qD) (Q:VK) (R:ae->Prop),(∀p,O p->H p≠none)->Yh X.K hd O H xs ts->g ts R ->
 (∀z v l,R z->Same H l->Rep X.K hd O l v z->Q v l)->r xs H Q
theorem Jw{id:String}{r:List V->Hp->VK->Prop}{g:GC}(hc:JU X (.builtin id) r)(o:GpC X r g)(L:X.mg x=none)(hv:bootBuiltins x=some (.builtin id))(h:DBL X (e::es) ds)(Z:Gl X x:=by rfl)(hn:x ≠ "__name__":=by decide) (v:Ndb x:=by rfl) :
  DE X (.Call (.Name x p) (e::es) [] pos) (YT g ds):=by
 obtain⟨ta,pa,h⟩:=h;refine⟨_,YH hc L hv pa Z hn v,fun C I σ H n Q R S hd hq=>?_⟩;refine h C I σ H n _ _ S hd fun ts n1 vs Y r1 e1 G q1 _=>?_;have U:=S.on e1 G;exact o C.hd (Own C I σ) Y vs ts Q _ (fun p=>U.dom) q1 r1 fun z u H' rz sm J=>hq z n1 u H' rz (e1.trans sm.ext) (G.same sm) J
theorem Q5(hc:JU X (.type T) r)(o:GpC X r g)(L:X.mg x=none)(hv:bootBuiltins x=some (.type T))(h:DBL X (e::es) ds)(Z:Gl X x:=by rfl)(hn:x ≠ "__name__":=by decide) (v:Ndb x:=by rfl) :
  DE X (.Call (.Name x p) (e::es) [] pos) (YT g ds):=by
 obtain⟨ta,pa,h⟩:=h;refine⟨_,Zx hc L hv pa Z hn v,fun C I σ H n Q R S hd hq=>?_⟩;refine h C I σ H n _ _ S hd fun ts n1 vs Y r1 e1 G q1 _=>?_;have U:=S.on e1 G;exact o C.hd (Own C I σ) Y vs ts Q _ (fun p=>U.dom) q1 r1 fun z u H' rz sm J=>hq z n1 u H' rz (e1.trans sm.ext) (G.same sm) J
theorem QY{K:qF}{hd:Option ah}{O:ah->Prop}{H:Hp}{xs:List V}{t:ae}(h:Yh K hd O H xs [t]):∃v,xs=[v]/\RepT K hd O H v t:=by
 cases h with
 | cons h r=>cases r;exact⟨_,rfl,h⟩
theorem znw{K:qF}{hd:Option ah}{O:ah->Prop}{H:Hp}{xs:List V}{t u:ae}(h:Yh K hd O H xs [t,u]):∃v w,xs=[v,w]/\RepT K hd O H v t/\RepT K hd O H w u:=by
 cases h with
 | cons h r=>cases r with|cons l r=>cases r;exact⟨_,_,rfl,h,l⟩
def bLen:GC:=fun l R=>(∃ts,l=[.list ts]/\R (.int ts.length))\/(∃ts,l=[.tuple ts]/\R (.int ts.length))\/(∃x:Str,l=[.str x]/\x.length<=16777216/\R (.int x.length))\/∃ts,l=[.dict [(.none,.list ts)]]/\R (.int ts.length)
def rLen(K:qF):List V->Hp->VK->Prop:=fun xs H Q=>∃x n,xs=[x]/\LenV K x H n/\Q (.int n) H
theorem J7:GpC X (rLen X.K) bLen:=by
 intro hd O H xs ts Q R dom rs h C;rcases h with⟨ts,rfl,h⟩|⟨ts,rfl,h⟩|⟨x,rfl,h⟩|⟨ts,rfl,h⟩;obtain⟨v,rfl,r⟩:=QY rs;obtain⟨p,I,rfl,u,J⟩:=r.lstI;exact⟨_,_,rfl,.inl ⟨I,.of u,rfl⟩,by rw[J.length];exact C _ _ H h (Same.refl H) (.int _)⟩;obtain⟨v,rfl,r⟩:=QY rs;obtain⟨p,I,rfl,u,J⟩:=r.tupI;exact⟨_,_,rfl,.inr ⟨I,u,rfl⟩,by rw[J.length];exact C _ _ H h (Same.refl H) (.int _)⟩;obtain⟨v,rfl,r⟩:=QY rs;rw[r.strI];exact⟨_,_,rfl,⟨h.1,rfl⟩,C _ _ H h.2 (Same.refl H) (.int _)⟩;obtain⟨v,rfl,r⟩:=QY rs;have r:=r.rep (by intro _ z;cases z);generalize e:(uF [(fL,lA ts)])=t at r;cases r with
 | scr u o =>simp only[SCR,mM,fv,l9,mN,true_and,and_true]at e;subst e;exact⟨_,_,rfl,.inl ⟨_,.inl u,rfl⟩,by simpa using C _ _ H h (Same.refl H) (.int _)⟩
 | scrS u =>simp only[SCR,mM,fv,l9,mN,true_and,and_true]at e;subst e;exact⟨_,_,rfl,.inl ⟨_,u H,rfl⟩,by simpa using C _ _ H h (Same.refl H) (.int _)⟩
 | hand _=>simp[HAND]at e
 | exc _ _=>simp[EXC]at e
 | dct _ _=>cases e
 | dcK _ _ _ G=>cases e;exact(Vr G).elim
 | dcT _ _ _ G=>cases e;exact(dict_noT G).elim
 | _=>cases e
def bMin:GC
 | [.int i,.int j],R=>R (.int (if j<i then j else i))
 | _,_=>False
def bMax:GC
 | [.int i,.int j],R=>R (.int (if j > i then j else i))
 | _,_=>False
theorem znT:GpC X (fun xs H Q=>∃i j,xs=[.int i,.int j]/\Q (.int (if j<i then j else i)) H) bMin:=by
 intro hd O H xs ts Q R dom rs h o;cases ts with
 | nil=>exact h.elim
 | cons t ts=>cases t with
  | int i=>cases ts with
   | nil=>exact h.elim
   | cons u ts=>cases u with
    | int j=>cases ts with
     | nil =>obtain⟨v,w,rfl,l,C⟩:=znw rs;rw[l.intI,C.intI];exact⟨_,_,rfl,o _ _ H h (Same.refl H) (.int _)⟩
     | cons _ _=>exact h.elim
    | _=>exact h.elim
  | _=>exact h.elim
theorem znU:GpC X (fun xs H Q=>∃i j,xs=[.int i,.int j]/\Q (.int (if j > i then j else i)) H) bMax:=by
 intro hd O H xs ts Q R dom rs h o;cases ts with
 | nil=>exact h.elim
 | cons t ts=>cases t with
  | int i=>cases ts with
   | nil=>exact h.elim
   | cons u ts=>cases u with
    | int j=>cases ts with
     | nil =>obtain⟨v,w,rfl,l,C⟩:=znw rs;rw[l.intI,C.intI];exact⟨_,_,rfl,o _ _ H h (Same.refl H) (.int _)⟩
     | cons _ _=>exact h.elim
    | _=>exact h.elim
  | _=>exact h.elim
def bInt:GC
 | [.int i],R=>R (.int i)
 | [.bool k],R=>R (.int (if k then 1 else 0))
 | _,_=>False
theorem zsa:GpC X (fun xs H Q=>(∃i,xs=[.int i]/\Q (.int i) H)\/∃k,xs=[.bl k]/\Q (.int (if k then 1 else 0)) H) bInt:=by
 intro hd O H xs ts Q R dom rs h u;cases ts with
 | nil=>exact h.elim
 | cons t ts=>cases t with
  | int i=>cases ts with
   | nil =>obtain⟨v,rfl,o⟩:=QY rs;rw[o.intI];exact .inl ⟨_,rfl,u _ _ H h (Same.refl H) (.int _)⟩
   | cons _ _=>exact h.elim
  | bool i=>cases ts with
   | nil =>obtain⟨v,rfl,o⟩:=QY rs;rw[o.blI];exact .inr ⟨_,rfl,u _ _ H h (Same.refl H) (.int _)⟩
   | cons _ _=>exact h.elim
  | _=>exact h.elim
def bStr:GC
 | [.int i],R=>i.natAbs<2 ^ 1920/\R (.str (toString i))
 | _,_=>False
theorem znS:GpC X (fun xs H Q=>∃i,xs=[.int i]/\i.natAbs.log2<1920/\Q (.str (toString i)) H) bStr:=by
 intro hd O H xs ts Q R dom rs h l;cases ts with
 | nil=>exact h.elim
 | cons t ts=>cases t with
  | int i=>cases ts with
   | nil =>obtain⟨v,rfl,o⟩:=QY rs;rw[o.intI];refine⟨_,rfl,?_,l _ _ H h.2 (Same.refl H) (.str _)⟩;by_cases z:i.natAbs=0;rw[z];decide;exact(uC z).mpr h.1
   | cons _ _=>exact h.elim
  | _=>exact h.elim
def bAll:GC
 | [.list ts],R=>∃bs:List Bool,ts=bs.map gZ/\R (.bool (bs.all id))
 | _,_=>False
theorem zeC{K:qF}{hd:Option ah}{O:ah->Prop}{H:Hp}:∀{ns:List Bool}{l:List V},Reps K hd O H l (ns.map gZ)->l=ns.map V.bl
 | [],_,h=>by cases h;rfl
 | n::ns,_,h=>by
  cases h with
  | cons h r=>rw[h.blI,zeC r];rfl
theorem Q6:GpC X (fun xs H Q=>∃(a:ah) (bs:List Bool),xs=[.ref a]/\SqL X.K H a (bs.map V.bl)/\Q (.bl (bs.all id)) H) bAll:=by intro hd O H xs ts Q R dom rs h G;unfold bAll at h;split at h;obtain⟨bs,rfl,h⟩:=h;obtain⟨v,rfl,C⟩:=QY rs;obtain⟨p,J,rfl,u,I⟩:=C.lstI;rw[zeC I]at u;exact⟨p,bs,rfl,.of u,G _ _ H h (Same.refl H) (.bl _)⟩;exact h.elim
def ZV:GC
 | [.list ts],R=>R (.tuple ts)
 | [.tuple ts],R=>R (.tuple ts)
 | _,_=>False
theorem Vv:GpC X (fun xs H Q=>∃p J,xs=[.ref p]/\((SqL X.K H p J/\∀l,H l=none->Q (.ref l) (upd H l (.tup J)))\/(SqT X.K H p J/\Q (.ref p) H))) ZV:=by
 intro hd O H xs ts Q R dom rs h S;cases ts with
 | nil=>exact h.elim
 | cons t ts=>cases t with
  | list L=>cases ts with
   | nil =>obtain⟨v,rfl,C⟩:=QY rs;obtain⟨p,G,rfl,N,U⟩:=C.lstI;refine⟨p,G,rfl,.inl ⟨.of N,fun l I=>?_⟩⟩;exact S _ _ _ h (JP I) (.newT (fun z=>dom l z I) I U)
   | cons _ _=>exact h.elim
  | tuple L=>cases ts with
   | nil =>obtain⟨v,rfl,C⟩:=QY rs;obtain⟨p,G,rfl,N,U⟩:=C.tupI;exact⟨p,G,rfl,.inr ⟨N,S _ _ H h (Same.refl H) (C.rep (by intro _ z;cases z))⟩⟩
   | cons _ _=>exact h.elim
  | _=>exact h.elim
def Qn:ae->(List ae->Prop)->Prop
 | .list ts,R=>R ts
 | .tuple ts,R=>R ts
 | _,_=>False
def tyN:ae->Option String
 | .none=>some "NoneType"
 | .bool _=>some "bool"
 | .int _=>some "int"
 | .str _=>some "str"
 | .list _=>some "list"
 | .tuple _=>some "tuple"
 | .dict []=>some "dict"
 | .dict _=>none
def rIsi(K:qF):List V->Hp->VK->Prop:=fun xs H Q=>∃x hd O t T y b,xs=[x,.ty T]/\RepT K hd O H x t/\tyN t=some y/\kitB y T=some b/\Q (.bl b) H
theorem zlq:JU X (.builtin "isinstance") (rIsi X.K):=by
 intro pins s σ H xs us Q I r h;obtain⟨x,hd,O,t,T,y,b,rfl,J,ty,e,q⟩:=h;cases r with
 | cons G r2 =>
  cases r2 with
  | cons U r4 =>
   cases r4;cases(show _=bY T from U);have fin:∀N,tyN t=some N->N=y:=fun N h=>aQ (h.symm.trans ty);have go:Ty H x y->wpAny (model X.prog X.w) X.A (call (.builtin "isinstance") [_,bY T]) (EP X pins σ Q) X.xe s:=fun ty=>zkI I G ty.of ((Uo X.K y T).trans e) fun v=>⟨.bl b,H,I.tok v,rfl,q⟩;rcases J with J|⟨a,Y,ds,rfl,rfl,L,h4,_⟩|⟨a,zs,S,R,rfl,rfl,L,h4,_⟩;cases J with
   | non=>cases ty;exact go .non
   | bl b=>cases ty;exact go (.bl b)
   | int i=>cases ty;exact go (.int i)
   | str i=>cases ty;exact go (.str i)
   | tup h o r=>cases ty;exact go (.tup h)
   | lst h o r=>cases ty;exact go (.lst h)
   | @dct a S h o =>cases ty;cases(show _=cu a from G);obtain⟨⟨_,_,_,C,es,g1,g2,_⟩,_⟩:=I.hok a _ h;exact bE eH I.kIn ⟨C,g1,g2.1⟩ ((Uo X.K "dict" T).trans e) (fun z=>nomatch z) fun v=>⟨.bl b,H,I.tok v,rfl,q⟩
   | @dcK a kvs S R ps h o r e' =>
    cases ps with
    | nil =>cases ty;cases(show _=cu a from G);obtain⟨⟨_,_,_,C,es,g1,g2,_⟩,_⟩:=I.hok a _ h;exact bE eH I.kIn ⟨C,g1,g2.1⟩ ((Uo X.K "dict" T).trans e) (fun z=>nomatch z) fun v=>⟨.bl b,H,I.tok v,rfl,q⟩
    | cons _ _=>simp[tyN]at ty
   | @dcT a zs S R ps h o r e' =>
    cases ps with
    | nil =>cases ty;cases(show _=cu a from G);obtain⟨⟨_,_,_,C,es,g1,g2,_⟩,_⟩:=I.hok a _ h;exact bE eH I.kIn ⟨C,g1,g2.1⟩ ((Uo X.K "dict" T).trans e) (fun z=>nomatch z) fun v=>⟨.bl b,H,I.tok v,rfl,q⟩
    | cons _ _=>simp[tyN]at ty
   | hand h=>simp[HAND,tyN]at ty
   | scr h o=>simp[SCR,tyN]at ty
   | scrS h=>simp[SCR,tyN]at ty
   | exc h o=>simp[EXC,tyN]at ty
   | @tupS a Y ds h r =>cases ty;cases(show _=cu a from G);obtain⟨o,Z,n,hk,hc,_⟩:=h;exact bE ml I.kIn ⟨o,I.kIn a o hk,hc⟩ ((Uo X.K "tuple" T).trans e) (fun z=>nomatch z) fun v=>⟨.bl b,H,I.tok v,rfl,q⟩
   cases ty;exact go (.lst L);cases R with
   | nil =>cases ty;cases(show _=cu a from G);obtain⟨⟨_,_,_,C,es,g1,g2,_⟩,_⟩:=I.hok a _ L;exact bE eH I.kIn ⟨C,g1,g2.1⟩ ((Uo X.K "dict" T).trans e) (fun z=>nomatch z) fun v=>⟨.bl b,H,I.tok v,rfl,q⟩
   | cons _ _=>simp[tyN,UW]at ty
end
section
variable{X:Cx}{a b c e:aO}{es rest:List aO}{d da db dc:DTE}{ds:DTA}{pos p:Pos}{k:Nat}{x:Str}
theorem Reps.atI{K:qF}{hd:Option ah}{O:ah->Prop}{H:Hp}{vs ts}{i:Int}{t}(r:Reps K hd O H vs ts)(h:L2.atI ts i=some t):∃v,L2.atI vs i=some v/\Rep K hd O H v t:=by
 unfold L2.atI at h ⊢;rw[r.length];cases e:ixN ts.length i with
 | none=>rw[e]at h;cases h
 | some j =>rw[e]at h;have h:ts[j]?=some t:=h;exact r.get h
def oIx:G2
 | .list ts,.int i,R=>match atI ts i with|some t=>R t|none=>False
 | .tuple ts,.int i,R=>match atI ts i with|some t=>R t|none=>False
 | .str x,.int i,R=>x.length<=16777216/\match atI x.cps.toList i with|some c=>R (.str ⟨#[c]⟩)|none=>False
 | _,_,_=>False
theorem zuQ:Gp2 X (rIx X.K) oIx:=by
 intro hd O H x y t u Q R dom L N h I;cases t with
 | list ts=>cases u with
  | int i =>obtain⟨p,G,rfl,U,J⟩:=L.lstI;replace h:(match atI ts i with|some t=>R t|none=>False):=h;split at h;rename_i t S;obtain⟨v,ev,C⟩:=J.atI S;exact .inl ⟨p,G,i,v,rfl,N.intI,.of U,ev,I _ _ H h (Same.refl H) C⟩;exact h.elim
  | _=>exact h.elim
 | tuple ts=>cases u with
  | int i =>obtain⟨p,G,rfl,U,J⟩:=L.tupI;replace h:(match atI ts i with|some t=>R t|none=>False):=h;split at h;rename_i t S;obtain⟨v,ev,C⟩:=J.atI S;exact .inr (.inl ⟨p,G,i,v,rfl,N.intI,U,ev,I _ _ H h (Same.refl H) C⟩);exact h.elim
  | _=>exact h.elim
 | str z=>cases u with
  | int i =>obtain⟨h0,h⟩:=h;split at h;rename_i c Y;exact .inr (.inr ⟨z,i,c,L.strI,N.intI,h0,Y,I _ _ H h (Same.refl H) (.str _)⟩);exact h.elim
  | _=>exact h.elim
 | _=>exact h.elim
theorem Jt(ha:DL X a da)(hb:DL X b db)(I:zlA b:=by intro _ _;rfl):DE X (.Subscript a b pos) (dOp oIx da db):=by obtain⟨ta,pa,ha⟩:=ha;obtain⟨tb,G,hb⟩:=hb;refine⟨_,Uk zrI pa G I,fun C U σ H n Q R S h J=>?_⟩;refine two ha hb S h fun x y n2 v w Z Y e l q1 q2=>?_;exact zuQ C.hd (Own C U σ) Z v w x y Q _ (fun p=>l.dom) q1 q2 Y fun z u N L sm o=>J z n2 u N L (e.trans sm.ext) (l.hnd.same sm) o
def dNeg(d:DTE):DTE:=fun l n R=>d l n fun t n1=>match t with|.int i=>R (.int (-i)) n1|_=>False
theorem zn0(h:DE X a da):DE X (.UnaryOp .USub a pos) (dNeg da):=by
 obtain⟨J,pa,h⟩:=h;refine⟨_,zt1 zpU pa,fun C I σ H n Q R S hd G=>?_⟩;refine h C I σ H n _ _ S hd fun t n1 v l r e1 o q1=>?_;cases t with
 | int i=>rw[q1.intI];exact⟨i,rfl,G _ n1 _ l r e1 o (.int _)⟩
 | _=>exact r.elim
def zqs(K:qF):R2:=fun x y H Q=>∃a b xs l,x=.ref a/\y=.ref b/\SqT K H a xs/\SqT K H b l/\xs.length+l.length<=sizeLine /\
 (xs=[]->Q (.ref b) H)/\(l=[]->Q (.ref a) H)/\∀p,H p=none->Q (.ref p) (upd H p (.tup (xs++l)))
theorem zoG:OpR X (binaryOp .Add) (zqs X.K):=by
 intro pins s σ H x y v u Q I S U h;obtain⟨a,b,xs,ys,rfl,rfl,ha,hb,hz,Z,q1,q2⟩:=h;by_cases hx:xs=[];cases S;cases U;obtain⟨C,r1,p1,_⟩:=I.tuple ha;obtain⟨l,r2,Y,_⟩:=I.tuple hb;have hv:C=[]:=r1.nil_iff.mpr hx;obtain⟨⟨cls,dd,data,sl⟩,N,hc,n,hd⟩:=id p1;obtain⟨⟨R,L,data2,J⟩,o,G,n2,hd2⟩:=id Y;simp only at hc hd G hd2;subst hc hd G hd2;exact mH ⟨_,N,rfl⟩ ⟨_,o,rfl⟩ kg l8 gA gu (gf _ _)
  (tuple_addW0 a b C.toArray l.toArray n n2 dd L sl J (by simp[hv])) ⟨N,o,⟨.ref b,H,I,rfl,Z hx⟩⟩
 exact zoF pins s σ H _ _ v u Q I S U ⟨a,b,xs,ys,rfl,rfl,ha,hb,hx,hz,q1,fun _=>q2⟩
def oAdd:G2
 | .int i,.int j,R=>R (.int (i+j))
 | .str i,.str j,R=>i.length+j.length<=16777216/\R (.str (i++j))
 | .tuple xs,.tuple ys,R=>xs.length+ys.length<=16777216/\R (.tuple (xs++ys))
 | _,_,_=>False
def zqt(K:qF):R2:=fun x y H Q=>(rI0 fun i j=>.int (i+j)) x y H Q\/(∃i j,x=.str i/\y=.str j/\i.length+j.length<=sizeLine/\Q (.str (i++j)) H)\/zqs K x y H Q
theorem zoH:OpR X (binaryOp .Add) (zqt X.K):=OpR.or Q9 (OpR.or ziP zoG)
theorem zsb:Gp2 X (zqt X.K) oAdd:=by intro hd O H x y t u Q R dom v C h o;unfold oAdd at h;split at h;exact .inl ⟨_,_,v.intI,C.intI,o _ _ H h (Same.refl H) (.int _)⟩;exact .inr (.inl ⟨_,_,v.strI,C.strI,h.1,o _ _ H h.2 (Same.refl H) (.str _)⟩);rename_i xs Y;obtain⟨p,N,rfl,U,I⟩:=v.tupI;obtain⟨q,S,rfl,L,J⟩:=C.tupI;refine .inr (.inr ⟨p,q,N,S,rfl,rfl,U,L,by rw[I.length,J.length];exact h.1,fun e=>?_,fun e=>?_,fun l G=>?_⟩);subst e;cases I;exact o _ _ H h.2 (Same.refl H) (C.rep (by intro _ z;cases z));subst e;cases J;exact o _ _ H h.2 (Same.refl H) (by rw[cq];exact v.rep (by intro _ z;cases z));exact o _ _ _ h.2 (JP G) (.newT (fun z=>dom l z G) G (I.append J));exact h.elim
theorem JR(ha:DL X a da)(hb:DL X b db):DE X (.BinOp a .Add b pos) (dOp oAdd da db):=QO zoH zsb ha hb
def dCat(da db:DTE):DTA:=fun o n R=>da o n fun x n1=>db o n1 fun y n2=>match x,y with|.list xs,.list ys=>xs.length+ys.length<=16777216/\R (xs++ys) n2|_,_=>False
theorem Vd{K:qF}{C:Ctx}{H u:Hp}{n1:Nat}{p:ah}(e1:ExtE C.hd H u)(v:Hn K C.hd u n1)(l:u p=none):H p=none:=by
 cases z:H p with
 | none=>rfl
 | some o =>by_cases y:C.hd=some p;obtain⟨G,q⟩:=v.lst y;rw[l]at q;cases q;rw[e1 p o z y]at l;cases l
theorem zma{K:qF}{hd:Option ah}{O:ah->Prop}{H:Hp}{p:ah}{o:HO}{vs ts}(l:H p=none)(r:Reps K hd O H vs ts):Reps K hd (fun a=>O a\/a=p) (upd H p o) vs ts:=by refine r.mono (fun b o hb z=>z.elim id fun z=>?_) fun b o _ hb=>JP l b o hb;subst z;rw[l]at hb;cases hb
theorem zsj(ha:DL X a da)(hb:DL X b db):DN X (.BinOp a .Add b pos) (dCat da db):=by obtain⟨ta,pa,ha⟩:=ha;obtain⟨tb,U,hb⟩:=hb;refine⟨_,Jx zqY pa U,fun C ρ σ H n Q R S h Z=>?_⟩;refine two ha hb S h fun x y n2 v w H2 u e J q1 q2=>?_;split at u;obtain⟨p,N,rfl,Y,G⟩:=q1.lstI;obtain⟨q,ws,rfl,L,I⟩:=q2.lstI;refine⟨p,q,N,ws,rfl,rfl,Y,L,by rw[G.length,I.length];exact u.1,fun l o=>?_⟩;exact Z _ n2 l _ _ u.2 (e.trans (ExtE.new o)) (J.hnd.same (JP o)) (Vd e J.hnd o) JA (zma o (G.append I));exact u.elim
def oMul:=gI CMul fun i j=>i*j
theorem YU(ha:DL X a da)(hb:DL X b db):DE X (.BinOp a .Mult b pos) (dOp oMul da db):=QO QW gp_I ha hb
abbrev GD:=List ae->Nat->(ae->Nat->Prop)->Prop
def spD(K:qF)(m:Nat)(g:GD):Sp:=fun u H Q _=>∃(hd:Option ah) (O:ah->Prop) (ts:qD) (n:Nat) (R:qN),Reps K hd O H u ts/\Hn K hd H n/\(∀a,O a->MutO (H a))/\(∀a,hd=some a->O a)/\ts.length=m/\g ts n R /\
 ∀t o v l,R t o->ExtE hd H l->Hn K hd l o->Rep K hd O l v t->Q v l
def dFn(g:GD)(ds:DTA):DTE:=fun l n R=>ds l n fun ts n1=>g ts n1 R
theorem zuU{st:cN}{ps:List Str}{f:ah}{fd:cJ}{g:GD}{m:Nat}(D:Bd.Def X.K X.mg x st ps f fd)(G:FnOk X.prog X.w X.K X.mg X.base CX0 k f fd ps (spD X.K m g))(Z:Room k X.A)(h:DB X (e::es) ds)(J:(e::es).length=m:=by rfl)(U:Gl X x:=by rfl)
  (o:Ndb x:=by rfl):DE X (.Call (.Name x p) (e::es) [] pos) (dFn g ds):=by
 obtain⟨ta,pa,h⟩:=h;refine⟨_,Bd.zoy D G Z pa U o,fun C I σ H n Q R S hd hq=>?_⟩;refine h C I σ H n _ _ S hd fun ts n1 vs H1 Y e1 u q1 l1=>?_;have L:=S.on e1 u;rw[cq];exact⟨C.hd,Own C I σ,ts,n1,R,q1,u,fun a=>L.lst,fun a z=>.inl (S.hx a z),l1.trans J,Y,fun t n' v H' rt e2 h2 q2=>hq t n' v H' rt (e1.trans e2) h2 q2⟩
def dFnL(g:GD)(ds:DTA):DTE:=fun l n R=>ds l n fun ts n1=>g ts n1 fun t n2=>QQ t=true/\R t n2
theorem zso{st:cN}{ps:List Str}{f:ah}{fd:cJ}{g:GD}{m:Nat}(D:Bd.Def X.K X.mg x st ps f fd)(G:FnOk X.prog X.w X.K X.mg X.base CX0 k f fd ps (spD X.K m g))(hr:Room k X.A)(h:DBL X (e::es) ds)(hm:(e::es).length=m:=by rfl)(hg:Gl X x:=by rfl)
  (Y:Ndb x:=by rfl):DE X (.Call (.Name x p) (e::es) [] pos) (dFnL g ds):=by
 obtain⟨ta,pa,h⟩:=h;refine⟨_,Bd.zoy D G hr pa hg Y,fun C ρ σ H n Q R S hd hq=>?_⟩;refine h C ρ σ H n _ _ S hd fun ts n1 u Z r1 e1 J q1 l1=>?_;have S1:=S.on e1 J;rw[cq];have lend:∀{u ts},Yh X.K C.hd (Own C ρ σ) Z u ts->Reps X.K C.hd (fun a=>C.hd=some a) Z u ts:=by
  intro u ts q;induction q with
  | nil=>exact .nil
  | cons r _ ih =>refine .cons ?_ ih;rcases r with r|⟨a,ws,us,rfl,rfl,I,U,L⟩|⟨a,zs,ep,ks,rfl,rfl,I,U,L⟩;exact r.mono (fun a o _ z=>.inl (S.hx a z)) fun _ _ _ z=>z;exact .lst I L (U.mono (fun a o _ z=>.inl (S.hx a z)) fun _ _ _ z=>z);exact .dcT I L (U.mono (fun a o _ z=>.inl (S.hx a z)) fun _ _ _ z=>z) rfl
 refine⟨C.hd,fun a=>C.hd=some a,ts,n1,_,lend q1,J,fun a z=>?_,fun a z=>z,l1.trans hm,r1,fun t n' v H' rt e2 h2 q2=>?_⟩;obtain⟨u,q⟩:=J.lst z;exact .inl ⟨_,q⟩;exact hq t n' v H' rt.2 (e1.trans e2) h2 (q2.up (fun a z=>(S1.on e2 h2).lst z) rt.1)
end
section
variable{X:Cx}{pins:qO}{σ:St}{H H':Hp}{s s':ak}{C e:ah}
def Fly1(P:aI)(w:aT)(l:List Env)(H H':Hp)(h:bt)(C e:ah)(h':bt):Prop :=
 ∃B u,Heap.FlyingW B l e (.ref C) u h'/\H' e=none/\h.get? e=none/\∀o,B.StaysIn o->h'.UpToSlots o->Un (frs l) [] H H' h o/\HOk P w H' o
inductive FlyX (X:Cx)(C:ah)(H':Hp)(e:ah)(s':ak):Prop
 | made {Hw:qO} {σ':St} {s h1} (I:Inv X Hw σ' H' s) (m:Heap.MadeExcOf s.heap h1 e (.ref C) []) (hs:s'={ s with heap:=h1 })
 | on {Hw:qO} {σ':St} {H1:Hp} {s} (I:Inv X Hw σ' H1 s) (os:s'.os=s.os) (bare:ik s'.gens) (f:Fly1 X.prog X.w X.stack H1 H' s.heap C e s'.heap)
def XW(X:Cx)(C:ah)(H':Hp):Prop:=∀e s',FlyX X C H' e s'->X.xe (.ref e) s'
end
def Keep(C:Ctx)(v:En)(σ:St)(H:Hp)(l:En)(σ':St)(u:Hp):Prop:=∀a o,H a=some o->C.hd≠some a->¬OwnS v σ a->u a=some o/\¬OwnS l σ' a
structure JO where
 nx:En->Nat->Prop
 rt:ae->Nat->Prop
 bk:En->Nat->Prop:=fun _ _=>False
 ct:En->Nat->Prop:=fun _ _=>False
 xr:Str->Nat->Prop:=fun _ _=>False
abbrev DTS:=JO->En->Nat->Prop
def XN(X:Cx)(c:Str)(l:Hp):Prop:=∀C,X.mg c=some (.ref C)->XW X C l
structure Good(X:Cx)(C:Ctx)(ρ:En)(σ:St)(H:Hp)(D:Ends)(D':JO):Prop where
 nx:∀ρ' σ' H' n',D'.nx ρ' n'->Stt X.K C ρ' σ' H' n'->Keep C ρ σ H ρ' σ' H'->D.nx σ' H'
 rt:∀t n' v H',D'.rt t n'->Hn X.K C.hd H' n'->(∀a o,H a=some o->C.hd≠some a->¬OwnS ρ σ a->H' a=some o)->Rep X.K C.hd C.ext H' v t->D.rt v H'
 bk:∀ρ' σ' H' n',D'.bk ρ' n'->Stt X.K C ρ' σ' H' n'->Keep C ρ σ H ρ' σ' H'->D.bk σ' H'
 ct:∀ρ' σ' H' n',D'.ct ρ' n'->Stt X.K C ρ' σ' H' n'->Keep C ρ σ H ρ' σ' H'->D.ct σ' H'
 xr:∀c n' H',D'.xr c n'->Hn X.K C.hd H' n'->(∀a o,H a=some o->C.hd≠some a->¬OwnS ρ σ a->H' a=some o)->XN X c H'
def DS(X:Cx)(st:cN)(d:DTS):Prop:=∃ts,PS X st ts/\∀(C:Ctx) (l:En) (σ:St) (H:Hp) (n:Nat) (D:Ends) (o:JO),Stt X.K C l σ H n->d o l n->Good X C l σ H D o->ts D σ H
def DSs(X:Cx)(st:List cN)(d:DTS):Prop:=∃ts,PSs X st ts/\∀(C:Ctx) (l:En) (σ:St) (H:Hp) (n:Nat) (D:Ends) (o:JO),Stt X.K C l σ H n->d o l n->Good X C l σ H D o->ts D σ H
section
variable{K:qF}{C:Ctx}{ρ ρ1 ρ2:En}{σ σ1 σ2:St}{H H1 H2:Hp}{n n1:Nat}{D:Ends}{D':JO}
theorem Keep.refl:Keep C ρ σ H ρ σ H:=fun _ _ h _ no=>⟨h,no⟩
theorem Keep.trans(v:Keep C ρ σ H ρ1 σ1 H1)(G:Keep C ρ1 σ1 H1 ρ2 σ2 H2):Keep C ρ σ H ρ2 σ2 H2:=fun a o h u no=>by obtain⟨x,l⟩:=v a o h u no;exact G a o x u l
theorem ExtE.keep(e:ExtE C.hd H H1):Keep C ρ σ H ρ σ H1:=fun a o h l no=>⟨e a o h l,no⟩
theorem Good.on{X:Cx}(g:Good X C ρ σ H D D')(k:Keep C ρ σ H ρ1 σ1 H1):Good X C ρ1 σ1 H1 D D' where
 nx:=fun l σ' u G h S x=>g.nx l σ' u G h S (k.trans x)
 rt:=fun t G v u h L x r=>g.rt t G v u h L (fun a o ha J no=>by obtain⟨N,I⟩:=k a o ha J no;exact x a o N J I) r
 bk:=fun l σ' u G h S x=>g.bk l σ' u G h S (k.trans x)
 ct:=fun l σ' u G h S x=>g.ct l σ' u G h S (k.trans x)
 xr:=fun c G u h L x=>g.xr c G u h L fun a o ha J no=>by obtain⟨N,I⟩:=k a o ha J no;exact x a o N J I
theorem Keep.rep(k:Keep C ρ σ H ρ1 σ1 H1)(hx:∀a,C.hd=some a->C.ext a){v t}(r:Rep K C.hd (Own C ρ σ) H v t):Rep K C.hd (Own C ρ1 σ1) H1 v t :=
 Rep.mono (O:=Own C ρ σ) (fun a o h z=>by by_cases q:Own C ρ σ a;exact q;rcases z with z|z;exact .inl z;exact absurd z (k a o h (fun y=>q (.inl (hx a y))) fun y=>q (.inr y)).2) (fun a o no h=>(k a o h (fun y=>no (.inl (hx a y))) fun y=>no (.inr y)).1) r
theorem Keep.reps(k:Keep C ρ σ H ρ1 σ1 H1)(hx:∀a,C.hd=some a->C.ext a){v t}(r:Reps K C.hd (Own C ρ σ) H v t):Reps K C.hd (Own C ρ1 σ1) H1 v t :=
 Reps.mono (O:=Own C ρ σ) (fun a o h z=>by by_cases q:Own C ρ σ a;exact q;rcases z with z|z;exact .inl z;exact absurd z (k a o h (fun y=>q (.inl (hx a y))) fun y=>q (.inr y)).2) (fun a o no h=>(k a o h (fun y=>no (.inl (hx a y))) fun y=>no (.inr y)).1) r
theorem Ju{α:Type}{l:List (Option α)}{i j:Nat}{v w:α}(h:(l.set i (some v))[j]?=some (some w)):(i=j/\v=w)\/(i≠j/\l[j]?=some (some w)):=by by_cases e:i=j;subst e;rw[fF]at h;simp only[↓reduceIte]at h;split at h;simp at h;exact .inl ⟨rfl,h⟩;cases h;rw[bQ e]at h;exact .inr ⟨e,h⟩
theorem U5{α:Type}{l:List (Option α)}{i j:Nat}{v w:α}(e:i≠j)(h:l[j]?=some (some w)):(l.set i (some v))[j]?=some (some w):=by rw[bQ e];exact h
theorem znt{α:Type}{l:List (Option α)}{i j:Nat}{v:α}{w:Option α}(h:(l.set i (some v))[j]?=some w)(e:i=j):i<l.length:=by subst e;rw[fF]at h;simp only[↓reduceIte]at h;split at h;assumption;cases h
theorem zjv{α:Type}{l:List (Option α)}{i:Nat}{v:α}(h:i<l.length):(l.set i (some v))[i]?=some (some v):=by rw[fF];simp[h]
theorem Zi{i:Nat}{t:ae}{v:V}{a:ah}(h:OwnS (ρ.set i (some (.val t))) (σ.set i (some v)) a):OwnS ρ σ a:=by obtain⟨j,c,m,u,o⟩:=h;rcases Ju u with⟨_,z⟩|⟨e,u⟩;subst z;cases m;rcases Ju o with⟨z,_⟩|⟨_,o⟩;exact absurd z e;exact⟨j,c,m,u,o⟩
def QI(K:qF)(hd:Option ah)(O:ah->Prop)(H:Hp)(a:ah):Cell->Prop
 | .val _=>False
 | .rdo _=>False
 | .own ts=>∃G,H a=some (.lst G)/\Reps K hd O H G ts
 | .dct x=>∃u,H a=some (.dK u)/\UA K hd O H u x
 | .dtt x=>∃zs I,H a=some (ZDO a zs I)/\Qe K hd O H zs x
theorem QI.mono(x:QI K hd O H a c)(G:∀a o,H a=some o->O' a->O a)(I:∀a o,¬O a->H a=some o->H' a=some o)(ha:∀o,H a=some o->H' a=some o):QI K hd O' H' a c:=by
 cases c with
 | val _=>exact x.elim
 | rdo _=>exact x.elim
 | own ts=>obtain⟨u,v,l⟩:=x;exact⟨u,ha _ v,l.mono G I⟩
 | dct J=>obtain⟨u,v,l⟩:=x;exact⟨u,ha _ v,l.mono G I⟩
 | dtt J=>obtain⟨u,L,v,l⟩:=x;exact⟨u,L,ha _ v,l.mono G I⟩
theorem QI.some(x:QI K hd O H a c):∃o,H a=some o:=by
 cases c with
 | val _=>exact x.elim
 | rdo _=>exact x.elim
 | own ts=>obtain⟨v,l,u⟩:=x;exact⟨_,l⟩
 | dct G=>obtain⟨v,l,u⟩:=x;exact⟨_,l⟩
 | dtt G=>obtain⟨v,I,l,u⟩:=x;exact⟨_,l⟩
theorem QI.mine(x:QI K hd O H a c):c.mine=true:=by
 cases c with
 | val _=>exact x.elim
 | rdo _=>exact x.elim
 | own ts=>rfl
 | dct l=>rfl
 | dtt l=>rfl
theorem Stt.cell(S:Stt K C ρ σ H n){i:Nat}{c:Cell}(m:c.mine=true)(h:ρ[i]?=some (some c)):∃a:ah,σ[i]?=some (some (V.ref a))/\QI K C.hd (Own C ρ σ) H a c/\¬C.ext a:=by
 cases c with
 | val _=>cases m
 | rdo _=>cases m
 | own ts=>obtain⟨a,v,x,o,u,l⟩:=S.own i ts h;exact⟨a,x,⟨v,o,u⟩,l⟩
 | dct G=>obtain⟨a,v,x,o,u,l⟩:=S.dct i G h;exact⟨a,x,⟨v,o,u⟩,l⟩
 | dtt G=>obtain⟨a,v,I,x,o,u,l⟩:=S.dtt i G h;exact⟨a,x,⟨v,I,o,u⟩,l⟩
def zpI(K:qF)(C:Ctx)(ρ:En)(σ:St)(H:Hp):Prop:=∀(i:Nat) (o:List (Key×ae)),ρ[i]?=some (some (Cell.rdo o))->∃a l,σ[i]?=some (some (V.ref a))/\H a=some (.dK l)/\UA K C.hd (Own C ρ σ) H l o/\C.ext a/\C.hd≠some a
theorem Stt.mk'(len:ρ.length=σ.length)(val:∀(i:Nat) (d:ae),ρ[i]?=some (some (Cell.val d))->∃v,σ[i]?=some (some v)/\Rep K C.hd (Own C ρ σ) H v d)
  (cell:∀(i:Nat) (c:Cell),c.mine=true->ρ[i]?=some (some c)->∃a:ah,σ[i]?=some (some (V.ref a))/\QI K C.hd (Own C ρ σ) H a c/\¬C.ext a)
  (rdo:zpI K C ρ σ H) (dif:∀(i j:Nat) (c e:Cell) (a:ah),c.mine=true->e.mine=true->ρ[i]?=some (some c)->ρ[j]?=some (some e)->σ[i]?=some (some (V.ref a))->σ[j]?=some (some (V.ref a))->i=j)
  (hnd:Hn K C.hd H n) (ext:∀a,C.ext a->MutO (H a)) (hx:∀a,C.hd=some a->C.ext a):Stt K C ρ σ H n where
 len:=len
 val:=val
 own:=fun i ts h=>by obtain⟨a,G,⟨o,u,l⟩,x⟩:=cell i _ rfl h;exact⟨a,o,G,u,l,x⟩
 dct:=fun i ts h=>by obtain⟨a,G,⟨o,u,l⟩,x⟩:=cell i _ rfl h;exact⟨a,o,G,u,l,x⟩
 rdo:=rdo
 dtt:=fun i ts h=>by obtain⟨a,G,⟨o,I,u,l⟩,x⟩:=cell i _ rfl h;exact⟨a,o,I,G,u,l,x⟩
 dif:=dif
 hnd:=hnd
 ext:=ext
 hx:=hx
theorem Stt.put(S:Stt K C ρ σ H n){i:Nat}{t:ae}{v:V}(r:Rep K C.hd (Own C ρ σ) H v t):Stt K C (ρ.set i (some (.val t))) (σ.set i (some v)) H n:=by
 have sub:∀a o,H a=some o->Own C (ρ.set i (some (.val t))) (σ.set i (some v)) a->Own C ρ σ a:=fun a o _ z=>z.elim .inl fun z=>.inr (Zi z);have mono:∀{w u},Rep K C.hd (Own C ρ σ) H w u->Rep K C.hd (Own C (ρ.set i (some (.val t))) (σ.set i (some v))) H w u:=fun q=>q.mono sub fun _ _ _ z=>z;refine .mk' (by simp[S.len]) (fun j d h=>?_) (fun j c m h=>?_) (fun j ks h=>?_) (fun j k c e a m1 m2 x G I h4=>?_) S.hnd S.ext S.hx
 rotate_left 2
 rcases Ju h with⟨_,z⟩|⟨e,h'⟩;cases z;obtain⟨a,R,q1,q2,Y,Z⟩:=S.rdo j ks h';exact⟨a,R,U5 e q1,q2,Y.mono sub fun _ _ _ z=>z,Z⟩
 rotate_left 1
 rcases Ju h with⟨e,z⟩|⟨e,h'⟩;cases z;have:=znt h e;subst e;exact⟨v,zjv (by rw[<- S.len];exact this),mono r⟩;obtain⟨w,x,G⟩:=S.val j d h';exact⟨w,U5 e x,mono G⟩;rcases Ju h with⟨e,z⟩|⟨e,h'⟩;subst z;cases m;obtain⟨a,x,G,I⟩:=S.cell m h';exact⟨a,U5 e x,G.mono sub (fun _ _ _ z=>z) fun _ z=>z,I⟩;rcases Ju x with⟨e,z⟩|⟨e,U⟩;subst z;cases m1;rcases Ju G with⟨e2,z⟩|⟨e2,L⟩;subst z;cases m2;rcases Ju I with⟨z,_⟩|⟨_,J⟩;exact absurd z e;rcases Ju h4 with⟨z,_⟩|⟨_,N⟩;exact absurd z e2;exact S.dif j k c _ a m1 m2 U L J N
theorem UP:Keep C ρ σ H (ρ.set i (some (.val t))) (σ.set i (some v)) H:=fun a o h _ no=>⟨h,fun z=>no (Zi z)⟩
theorem zif{i:Nat}{c:Cell}{p a:ah}(h:OwnS (ρ.set i (some c)) (σ.set i (some (.ref p))) a):OwnS ρ σ a\/a=p:=by obtain⟨j,ds,m,u,o⟩:=h;rcases Ju o with⟨e,z⟩|⟨e,o⟩;cases z;exact .inr rfl;rcases Ju u with⟨z,_⟩|⟨_,u⟩;exact absurd z e;exact .inl ⟨j,ds,m,u,o⟩
theorem Stt.putNew(S:Stt K C ρ σ H n){i:Nat}{c:Cell}{p:ah}{U:Hp}(e:ExtE C.hd H U)(h:Hn K C.hd U n1)(hp:H p=none)(r:QI K C.hd (fun a=>Own C ρ σ a\/a=p) U p c) :
  Stt K C (ρ.set i (some c)) (σ.set i (some (.ref p))) U n1:=by
 have S':=S.on e h;have mc:=r.mine;have sub:∀a,Own C (ρ.set i (some c)) (σ.set i (some (.ref p))) a->Own C ρ σ a\/a=p:=fun a z=>z.elim (fun z=>.inl (.inl z)) fun z=>(zif z).elim (fun z=>.inl (.inr z)) .inr;have npx:¬C.ext p:=fun z=>S.dom (.inl z) hp;have sb:∀a o,H a=some o->Own C (ρ.set i (some c)) (σ.set i (some (.ref p))) a->Own C ρ σ a:=fun a o J z=>(sub a z).elim id fun z=>by subst z;rw[hp]at J;cases J
 have kp:∀a o,¬Own C ρ σ a->H a=some o->U a=some o:=fun a o no J=>e a o J fun z=>no (.inl (S.hx a z));have Ie:∀(j:Nat) (d:Cell),d.mine=true->ρ[j]?=some (some d)->σ[j]?≠some (some (V.ref p)):=fun j d m G v=>by obtain⟨a,e1,e2,_⟩:=S.cell m G;rw[v]at e1;cases e1;obtain⟨o,e2⟩:=e2.some;rw[hp]at e2;cases e2
 refine .mk' (by simp[S.len]) (fun j d N=>?_) (fun j d m N=>?_) (fun j ks N=>?_) (fun j k c1 c2 a m1 m2 G v h3 Y=>?_) h S'.ext S.hx
 rotate_left 2
 rcases Ju N with⟨_,z⟩|⟨u,h'⟩;subst z;cases mc;obtain⟨a,kvs,q1,q2,q3,q4,q5⟩:=S.rdo j ks h';exact⟨a,kvs,U5 u q1,e a _ q2 q5,q3.mono sb kp,q4,q5⟩
 rotate_left 1
 rcases Ju N with⟨_,z⟩|⟨u,h'⟩;subst z;cases mc;obtain⟨w,G,v⟩:=S.val j d h';exact⟨w,U5 u G,v.mono sb kp⟩;rcases Ju N with⟨u,z⟩|⟨u,h'⟩;subst z;have:=znt N u;subst u;exact⟨p,zjv (by rw[<- S.len];exact this),r.mono (fun a o _ z=>sub a z) (fun _ _ _ z=>z) fun _ z=>z,npx⟩;obtain⟨a,G,v,Y⟩:=S.cell m h';exact⟨a,U5 u G,v.mono sb kp (fun o J=>e a o J fun z=>Y (S.hx a z)),Y⟩;rcases Ju h3 with⟨e3,z3⟩|⟨e3,R⟩;cases z3;rcases Ju Y with⟨L,_⟩|⟨L,I⟩;rw[<- e3,<- L];rcases Ju v with⟨z,_⟩|⟨_,x⟩;exact absurd z L;exact absurd I (Ie k _ m2 x);rcases Ju G with⟨z,_⟩|⟨_,Z⟩;exact absurd z e3;rcases Ju Y with⟨L,z4⟩|⟨L,I⟩;cases z4;exact absurd R (Ie j _ m1 Z);rcases Ju v with⟨z,_⟩|⟨_,x⟩;exact absurd z L;exact S.dif j k _ _ a m1 m2 Z x R I
theorem Stt.putOwn(S:Stt K C ρ σ H n)(e:ExtE C.hd H H')(h:Hn K C.hd H' n1)(v:H p=none)(u:H' p=some (.lst vs))(r:Reps K C.hd (fun a=>Own C ρ σ a\/a=p) H' vs ts) :
  Stt K C (ρ.set i (some (.own ts))) (σ.set i (some (.ref p))) H' n1:=S.putNew e h v ⟨vs,u,r⟩
theorem zhs(e:ExtE C.hd H H')(u:H p=none):Keep C ρ σ H (ρ.set i (some c)) (σ.set i (some (.ref p))) H':=fun a o h v no =>
 ⟨e a o h v,fun z=>(zif z).elim no fun z=>by subst z;rw[u]at h;cases h⟩
theorem zhr(e:ExtE C.hd H H')(l:H p=none):Keep C ρ σ H (ρ.set i (some (.own ts))) (σ.set i (some (.ref p))) H':=zhs e l
theorem Stt.chgC(S:Stt K C ρ σ H n){i:Nat}{c v:Cell}{p:ah}{N:HO}(m:c.mine=true)(m':v.mine=true)(R:ρ[i]?=some (some c))(L:σ[i]?=some (some (.ref p)))
  (r:∀(O':ah->Prop) (H':Hp),(∀a o,H a=some o->O' a->Own C ρ σ a)->(∀a o,¬Own C ρ σ a->H a=some o->H' a=some o)->H' p=some N->QI K C.hd O' H' p v) :
  Stt K C (ρ.set i (some v)) σ (upd H p N) n/\Keep C ρ σ H (ρ.set i (some v)) σ (upd H p N):=by
 have op:OwnS ρ σ p:=⟨i,c,m,R,L⟩;obtain⟨p',e1,hp,u⟩:=S.cell m R;rw[L]at e1;cases e1;have HJ:∀a,OwnS (ρ.set i (some v)) σ a->OwnS ρ σ a:=fun a ⟨j,d,x,q1,q2⟩=>by rcases Ju q1 with⟨e,_⟩|⟨e,q1⟩;subst e;rw[L]at q2;cases q2;exact op;exact⟨j,d,x,q1,q2⟩
 have sub:∀a o,H a=some o->Own C (ρ.set i (some v)) σ a->Own C ρ σ a:=fun a o _ z=>z.elim .inl fun z=>.inr (HJ a z);have kp:∀a o,¬Own C ρ σ a->H a=some o->upd H p N a=some o:=fun a o no U=>by rw[Je (show a≠p from fun z=>no (by rw[z];exact .inr op))];exact U
 have rd:zpI K C (ρ.set i (some v)) σ (upd H p N):=fun j ks J=>by rcases Ju J with⟨_,z⟩|⟨I,h'⟩;subst z;cases m';obtain⟨a,kvs,q1,q2,Y,G,q5⟩:=S.rdo j ks h';exact⟨a,kvs,q1,by rw[Je (show a≠p from fun z=>u (by rw[<- z];exact G))];exact q2,Y.mono sub kp,G,q5⟩
 refine⟨.mk' (by simp[S.len]) (fun j d J=>?_) (fun j d x J=>?_) rd (fun j k c1 c2 a m1 m2 q1 q2 Y G=>?_) (fun a ha=>?_) (fun a ha=>?_) S.hx,fun a o h nh no=>⟨by rw[Je (show a≠p from fun z=>no (by rw[z];exact op))];exact h,fun z=>no (HJ a z)⟩⟩;rcases Ju J with⟨_,z⟩|⟨I,h'⟩;subst z;cases m';obtain⟨w,q1,q2⟩:=S.val j d h';exact⟨w,q1,q2.mono sub kp⟩;rcases Ju J with⟨I,z⟩|⟨I,h'⟩;subst z;subst I;exact⟨p,L,r _ _ sub kp JA,u⟩;obtain⟨a,q1,q2,G⟩:=S.cell x h';have:a≠p:=fun z=>by subst z;exact I (S.dif i j c d a m x R h' L q1)
 exact⟨a,q1,q2.mono sub kp (fun o U=>by rw[Je this];exact U),G⟩;have get:∀(j:Nat) (d:Cell),d.mine=true->(ρ.set i (some v))[j]?=some (some d)->∃d':Cell,d'.mine=true/\ρ[j]?=some (some d'):=fun j d x q=>by rcases Ju q with⟨e,_⟩|⟨_,q⟩;subst e;exact⟨_,m,R⟩;exact⟨_,x,q⟩
 obtain⟨d1,Z,g1⟩:=get j c1 m1 q1;obtain⟨d2,md2,g2⟩:=get k c2 m2 q2;exact S.dif j k d1 d2 a Z md2 g1 g2 Y G;have ne:a≠p:=fun z=>u (by rw[<- z];exact S.hx a ha);rcases S.hnd a ha with⟨⟨d,m,t,q,rest⟩,l⟩|⟨l,q⟩;exact .inl ⟨⟨d,m,t,by rw[Je ne];exact q,rest⟩,l⟩;exact .inr ⟨l,q.upd ne (S.lst (.inr op))⟩;by_cases z:a=p;subst z;exact absurd ha u;rw[Je z];exact S.ext a ha
theorem Stt.chg(S:Stt K C ρ σ H n)(x:ρ[i]?=some (some (.own ts)))(v:σ[i]?=some (some (.ref p)))(r:Reps K C.hd (Own C ρ σ) H ws us) :
  Stt K C (ρ.set i (some (.own us))) σ (upd H p (.lst ws)) n/\Keep C ρ σ H (ρ.set i (some (.own us))) σ (upd H p (.lst ws)):=S.chgC rfl rfl x v fun _ _ a b u=>⟨ws,u,r.mono a b⟩
theorem Stt.freeze(S:Stt K C ρ σ H n){i:Nat}{ts:qD}(U:ρ[i]?=some (some (.own ts))):Stt K C (ρ.set i (some (.val (.list ts)))) σ H n/\Keep C ρ σ H (ρ.set i (some (.val (.list ts)))) σ H:=by
 obtain⟨p,vs,R,Z,Y,J⟩:=S.own i ts U;have N:∀a,OwnS (ρ.set i (some (.val (.list ts)))) σ a->OwnS ρ σ a/\a≠p:=fun a ⟨j,ds,m,q1,q2⟩=>by rcases Ju q1 with⟨_,z⟩|⟨e,q1⟩;subst z;cases m;exact⟨⟨j,ds,m,q1,q2⟩,fun z=>by subst z;exact e (S.dif i j (.own ts) ds a rfl m U q1 R q2)⟩
 have sub:∀a o,H a=some o->Own C (ρ.set i (some (.val (.list ts)))) σ a->Own C ρ σ a:=fun a o _ z=>z.elim .inl fun z=>.inr (N a z).1;have rd:zpI K C (ρ.set i (some (.val (.list ts)))) σ H:=fun j ks G=>by rcases Ju G with⟨_,z⟩|⟨I,h'⟩;cases z;obtain⟨a,L,q1,q2,u,x⟩:=S.rdo j ks h';exact⟨a,L,q1,q2,u.mono sub fun _ _ _ z=>z,x⟩
 refine⟨.mk' (by simp[S.len]) (fun j d G=>?_) (fun j d m G=>?_) rd (fun j k c1 c2 a m1 m2 q1 q2 u x=>?_) S.hnd S.ext S.hx,fun a o h _ no=>⟨h,fun z=>no (N a z).1⟩⟩;rcases Ju G with⟨I,z⟩|⟨I,h'⟩;cases z;subst I;exact⟨.ref p,R,.lst Z (fun z=>z.elim J fun z=>(N p z).2 rfl) (Y.mono sub fun _ _ _ z=>z)⟩;obtain⟨w,q1,q2⟩:=S.val j d h';exact⟨w,q1,q2.mono sub fun _ _ _ z=>z⟩;rcases Ju G with⟨_,z⟩|⟨I,h'⟩;subst z;cases m;obtain⟨a,q1,u,x⟩:=S.cell m h';exact⟨a,q1,u.mono sub (fun _ _ _ z=>z) fun _ z=>z,x⟩;rcases Ju q1 with⟨_,z⟩|⟨_,g1⟩;subst z;cases m1;rcases Ju q2 with⟨_,z⟩|⟨_,g2⟩;subst z;cases m2;exact S.dif j k _ _ a m1 m2 g1 g2 u x
end
section
variable{X:Cx}{a b c e:aO}{es rest:List aO}{d da db dc:DTE}{ds:DTA}{dt:DTT}{t u:DTS}{st:cN}{sts sa sb:List cN}{pos p:Pos}{k:Nat}{x:Str}
def ZM:DTS:=fun D l n=>D.nx l n
def sSeq(t u:DTS):DTS:=fun D l n=>t { D with nx:=u D } l n
theorem Js:DSs X [] ZM:=⟨_,Vg,fun C l σ H n D o S h g=>g.nx l σ H n h S Keep.refl⟩
theorem Jb(v:DS X st t)(l:DSs X sts u):DSs X (st::sts) (sSeq t u):=by obtain⟨Y,pa,v⟩:=v;obtain⟨Z,I,l⟩:=l;refine⟨_,J4 pa I,fun C R σ H n D J S h g=>?_⟩;exact v C R σ H n _ _ S h ⟨fun o σ' N U G L k=>l C o σ' N U D J L G (g.on k),g.rt,g.bk,g.ct,g.xr⟩
theorem Jc(l:DS X st t):DSs X [st] t:=by obtain⟨o,pa,l⟩:=l;exact⟨_,U6 pa,l⟩
def Y6(i:Nat)(t:DTS):DTS:=fun D C n=>match C[i]? with|some (some (.own ts))=>t D (C.set i (some (.val (.list ts)))) n|_=>False
theorem Yb(i:Nat)(l:DSs X sts t):DSs X sts (Y6 i t):=by obtain⟨J,pa,l⟩:=l;refine⟨_,pa,fun C I σ H n D v S h g=>?_⟩;unfold Y6 at h;split at h;rename_i ts G;obtain⟨o,kp⟩:=S.freeze G;exact l C _ σ H n D v o h (g.on kp);exact h.elim
def sRet(d:DTE):DTS:=fun D o n=>d o n fun t l=>D.rt t l
theorem Jg(h:DE X e d):DS X (.Return (some e) pos) (sRet d):=by obtain⟨Y,pa,h⟩:=h;refine⟨_,ZX pa,fun C L σ H n D U S hd g=>?_⟩;refine h C L σ H n _ _ S hd fun t N v J r e1 G q=>?_;exact g.rt t N v J r G (fun a o ha I _=>e1 a o ha I) (q.mono (fun _ _ _ z=>.inl z) fun _ _ _ z=>z)
def sIf(c:DTT)(t u:DTS):DTS:=fun D l n=>c l n fun b n1=>if b=true then t D l n1 else u D l n1
theorem Jq(hc:DT X c dt)(v:DSs X sa t)(l:DSs X sb u):DS X (.If c sa sb pos) (sIf dt t u):=by
 obtain⟨U,pc,hc⟩:=hc;obtain⟨R,pa,v⟩:=v;obtain⟨Y,N,l⟩:=l;refine⟨_,Zy pc pa N,fun C o σ H n D L S hd g=>?_⟩;refine hc C o σ H n _ _ S hd fun b n1 G r e1 J=>?_;cases b with
 | true=>exact iteT (v C o σ G n1 D L (S.on e1 J) (by simpa using r) (g.on e1.keep))
 | false=>exact iteF (l C o σ G n1 D L (S.on e1 J) (by simpa using r) (g.on e1.keep))
def sSet(i:Nat)(d:DTE):DTS:=fun D o n=>d o n fun t C=>D.nx (o.set i (some (.val t))) C
theorem zsi(o:X.N.Nodup)(hi:X.N[i]?=some x)(hx:Loc X.env.scope x)(h:DE X e d)(G:swapsWith e (some (.Name x pos')) pos.line X.env=pure false:=by rfl)(hf:Fnl X x:=by walk_at "F") :
  DS X (.Assign [.Name x pos'] e pos) (sSet i d):=by
 obtain⟨U,pa,h⟩:=h;refine⟨_,QD o hi hx pa G hf,fun C J σ H n D R S hd g=>?_⟩;refine h C J σ H n _ _ S hd fun t L v I r e1 l q=>?_;exact g.nx _ _ I L r ((S.on e1 l).put q) (e1.keep.trans UP)
def sOwn(i:Nat)(d:DTA):DTS:=fun D l n=>d l n fun ts v=>D.nx (l.set i (some (.own ts))) v
theorem U0(G:X.N.Nodup)(hi:X.N[i]?=some x)(hx:Loc X.env.scope x)(h:DN X e ds)(I:swapsWith e (some (.Name x pos')) pos.line X.env=pure false:=by rfl)(hf:Fnl X x:=by walk_at "F") :
  DS X (.Assign [.Name x pos'] e pos) (sOwn i ds):=by
 obtain⟨Z,pa,h⟩:=h;refine⟨_,QD G hi hx pa I hf,fun C L σ H n D Y S hd g=>?_⟩;refine h C L σ H n _ _ S hd fun ts R p U J r e1 v o l q=>?_;exact g.nx _ _ J R r (S.putOwn e1 v o l q) (zhr e1 o)
def sAug(i:Nat)(f:Int->Int->Int)(d:DTE):DTS:=fun D o n=>match o[i]? with
 | some (some (.val (.int j)))=>d o n fun t C=>match t with|.int k=>D.nx (o.set i (some (.val (.int (f j k))))) C|_=>False
 | _=>False
theorem znX(J:X.N.Nodup)(hi:X.N[i]?=some x)(hx:Loc X.env.scope x)(h:DE X e d)(l:PIp X op (ipI f))(hf:Fnl X x:=by walk_at "F") :
  DS X (.AugAssign (.Name x pos') op e pos) (sAug i f d):=by
 obtain⟨ta,pa,h⟩:=h;refine⟨_,zqw J hi hx pa l hf,fun C U σ H n D Z S hd g=>?_⟩;unfold sAug at hd;split at hd;rename_i j o;obtain⟨v,I,L⟩:=S.val i _ o;refine⟨v,I,h C U σ H n _ _ S hd fun t Y w R r e1 G q=>?_⟩;cases t with
 | int k=>exact⟨j,k,L.intI,q.intI,g.nx _ _ R Y r ((S.on e1 G).put (.int _)) (e1.keep.trans UP)⟩
 | _=>exact r.elim
 exact hd.elim
abbrev DTG:=ae->En->(En->Prop)->Prop
abbrev DTGs:=List ae->En->(En->Prop)->Prop
def DG(X:Cx)(tg:aO)(is:List Nat)(d:DTG):Prop:=(∀t o R,d t o R->∃l,R l)/\∃g,PG X tg g/\∀(C:Ctx) (o:En) (σ:St) (H:Hp) (n:Nat) (v:V) (t:ae) (Q:St->Hp->Prop) (R:En->Prop),Stt X.K C o σ H n->Rep X.K C.hd (Own C o σ) H v t->d t o R ->
 (∀l σ',R l->Stt X.K C l σ' H n->Keep C o σ H l σ' H->(∀j,j∉is->σ'[j]?=σ[j]?)->σ'.length=σ.length->Q σ' H)->g v σ H Q
def DGs(X:Cx)(v:List aO)(is:List Nat)(d:DTGs):Prop:=(∀ts o R,d ts o R->ts.length=v.length)/\(∀t o R,d t o R->∃l,R l)/\∃g,PGs X v g/\∀(C:Ctx) (o:En) (σ:St) (H:Hp) (n:Nat) (G:List V) (ts:qD) (Q:St->Hp->Prop) (R:En->Prop),Stt X.K C o σ H n->Reps X.K C.hd (Own C o σ) H G ts->d ts o R ->
 (∀l σ',R l->Stt X.K C l σ' H n->Keep C o σ H l σ' H->(∀j,j∉is->σ'[j]?=σ[j]?)->σ'.length=σ.length->Q σ' H)->g G σ H Q
def Jv(i:Nat):DTG:=fun t o R=>R (o.set i (some (.val t)))
def Qc:DTGs:=fun ts l R=>match ts with|[]=>R l|_=>False
def JB(d:DTG)(ds:DTGs):DTGs:=fun ts o R=>match ts with|t::ts=>d t o fun l=>ds ts l R|[]=>False
def Qd(ds:DTGs):DTG:=fun t o R=>match t with|.tuple ts=>ds ts o R|_=>False
theorem zpn(o:X.N.Nodup)(hi:X.N[i]?=some x)(hx:Loc X.env.scope x)(hf:Fnl X x:=by walk_at "F"):DG X (.Name x pos) [i] (Jv i):=by refine⟨fun t I R h=>⟨_,h⟩,_,zha o hi hx hf,fun C I σ H n v t Q R S r hd G=>?_⟩;exact G _ _ hd (S.put r) UP (fun j l=>by rw[bQ (fun z=>l (by simp[z]))]) (by simp)
theorem JJ:DGs X [] [] Qc:=by
 refine⟨fun ts l R h=>?_,fun ts l R h=>?_,_,zjX,fun C l σ H n v ts Q R S r hd o=>?_⟩;cases ts with
 | nil=>rfl
 | cons _ _=>exact h.elim
 cases ts with
 | nil=>exact⟨_,h⟩
 | cons _ _=>exact h.elim
 cases r with
 | nil=>exact⟨rfl,o _ _ hd S Keep.refl (fun _ _=>rfl) rfl⟩
 | cons _ _=>exact hd.elim
theorem Jh(I:DG X e is g)(N:DGs X es js gs)(hs:(assignEach (e::es) X.env).map (·.2)=assign e X.env::(assignEach es X.env).map (·.2):=by rfl):DGs X (e::es) (is++js) (JB g gs):=by
 obtain⟨w1,ga,pa,I⟩:=I;obtain⟨l2,w2,gb,pb,N⟩:=N;refine⟨fun ts v R h=>?_,fun ts v R h=>?_,_,zfd pa pb hs,fun C v σ H n vs ts Q R S r hd hq=>?_⟩;cases ts with
 | nil=>exact h.elim
 | cons t ts =>obtain⟨l,h'⟩:=w1 t v _ h;simp[l2 ts l R h']
 cases ts with
 | nil=>exact h.elim
 | cons t ts =>obtain⟨l,h'⟩:=w1 t v _ h;exact w2 ts l R h'
 cases r with
 | nil=>exact hd.elim
 | cons r rs =>refine⟨_,_,rfl,I C v σ H n _ _ _ _ S r hd fun l σ' hr S' kp hj hl=>?_⟩;refine N C l σ' H n _ _ _ _ S' (kp.reps S.hx rs) hr fun G Z Y S2 U J L=>?_;exact hq G Z Y S2 (kp.trans U) (fun j o=>by rw[J j (fun z=>o (by simp[z])),hj j (fun z=>o (by simp[z]))]) (L.trans hl)
theorem JK(hc:X.calm=true)(h:DGs X es is gs)(N:(assignEach es X.env).length=es.length:=by rfl)(G:(assignEach es X.env).findIdx? (·.1)=none:=by rfl):DG X (.Tuple es k pos) is (Qd gs):=by
 obtain⟨l,w,g,pg,h⟩:=h;refine⟨fun t o R h=>?_,_,zqC hc pg N G,fun C o σ H n v t Q R S r hd Y=>?_⟩;cases t with
 | tuple ts=>exact w ts o R h
 | _=>exact h.elim
 cases t with
 | tuple ts =>obtain⟨p,J,rfl,U,L⟩:=r.tupI;exact⟨p,J,rfl,U,by rw[L.length];exact l ts o R hd,h C o σ H n J ts Q R S L hd Y⟩
 | _=>exact hd.elim
def sAsg(d:DTE)(g:DTG):DTS:=fun D o n=>d o n fun t v=>g t o fun l=>D.nx l v
theorem QV(h:DE X e d)(l:DG X tg is g)(Y:swapsWithSole [tg] e pos.line X.env=pure false:=by rfl)(hw:swappedStores [tg] e X.env=pure none:=by rfl)
  (Z:(assignEach [tg] X.env).map (·.2)=[assign tg X.env]:=by rfl):DS X (.Assign [tg] e pos) (sAsg d g):=by
 obtain⟨ta,pa,h⟩:=h;obtain⟨w,gb,N,l⟩:=l;refine⟨_,U3 pa N Y hw Z,fun C I σ H n D D' S hd gd=>?_⟩;refine h C I σ H n _ _ S hd fun t J v G r e1 L q=>?_;exact l C I σ G J v t _ _ (S.on e1 L) q r fun o σ' R U kp _ _=>gd.nx o σ' G J R U (e1.keep.trans kp)
def U7(i:Nat)(d:DTE):DTS:=fun D l n=>match l[i]? with
 | some (some (.own ts))=>d l n fun t v=>ts.length<16777216/\D.nx (l.set i (some (.own (ts++[t])))) v
 | _=>False
theorem UM(i:Nat){L U G:Pos}(h:DE X e d)(hN:X.N[i]?=some x:=by rfl)(hv:Vis X.env.scope x:=by walk_at "V")(hd:Ndb x:=by rfl)
  (hcd:Ncd x:=by rfl) (hs:swapsWith (.Call (.Attribute (.Name x L) "append" U) [e] [] G) none pos.line X.env=pure false:=by rfl)
  (E2:attributeBase (.Name x L) "append" X.env (eval (.Name x L) X.env)=eval (.Name x L) X.env:=by rfl)
  (Hk:((backTo G (starEach [e] X.env)).all (fun x=>!x.1)&&(backToKw G (keywordEach [] X.env)).all (fun x=>x.1.isSome)
   && decide ([e].length+([]:List e8).length+(if ([]:List e8).isEmpty then 0 else 1)<30))=true:=by rfl)
  (E3:(U.endLine == G.line)=true:=by rfl) (J:starEach [e] X.env=[(false,eval e X.env)]:=by rfl):DS X (.Expr (.Call (.Attribute (.Name x L) "append" U) [e] [] G) pos) (U7 i d):=by
 obtain⟨ta,pa,h⟩:=h;refine⟨_,zg9 (Uz gv i7 i8 zd6 (Qg hN hv hd hcd) (J3 pa Qy J) E2 Hk E3 J rfl) hs,fun C ρ σ H n D D' S hd g=>?_⟩;unfold U7 at hd;split at hd;rename_i ts et;obtain⟨p,vs,Z,h2,h3,h4⟩:=S.own i ts et;refine⟨.ref p,Z,.inl ⟨rfl,_,SqL.of h2⟩,?_⟩;refine h C ρ σ H n _ _ S hd fun t n' v H' r e1 hn q=>?_;have S1:=S.on e1 hn;obtain⟨p',vs',R,Y,I,h4'⟩:=S1.own i ts et;rw[Z]at R;cases R;refine⟨p,vs',v,rfl,rfl,Y,by rw[I.length];exact r.1,?_⟩;obtain⟨S2,k2⟩:=S1.chg et Z (I.append (.cons q .nil));exact g.nx _ _ _ n' r.2 S2 (e1.keep.trans k2);exact hd.elim
def zjD(c:DTT)(G:DTS):DTS:=fun D o n=>∃W:Nat->En->Nat->Prop,(∃m,W m o n)/\∀m o n,W m o n ->
 c o n fun b n1=>if b=true then G { D with nx:=fun l C=>∃v,v<m/\W v l C,ct:=fun l C=>∃v,v<m/\W v l C,bk:=D.nx } o n1 else D.nx o n1
theorem zna(hp:kf (model X.prog X.w) X.A X.env X.xe)(hc:DT X c dt)(hb:DSs X sa t):DS X (.While c sa [] pos) (zjD dt t):=by
 obtain⟨tc,pc,hc⟩:=hc;obtain⟨tb,pb,hb⟩:=hb;refine⟨_,zmf hp pc pb,fun C ρ σ H n D D' S hd g=>?_⟩;obtain⟨W,⟨m0,w0⟩,turn⟩:=hd;refine⟨fun m N H1=>∃I n1,W m I n1/\Stt X.K C I N H1 n1/\Keep C ρ σ H I N H1,⟨m0,ρ,n,w0,S,Keep.refl⟩,?_⟩;rintro m N H1 ⟨I,n1,w1,S1,k1⟩;refine hc C I N H1 n1 _ _ S1 (turn m I n1 w1) fun b n2 H2 r e2 hn2=>?_;have S2:=S1.on e2 hn2;have Y:=k1.trans e2.keep;cases b with
 | true =>refine iteT ⟨fun σ' R=>∃L,L<m/\∃G J,W L G J/\Stt X.K C G σ' R J/\Keep C ρ σ H G σ' R,fun σ' R ⟨L,hm,z⟩=>⟨L,hm,z⟩,?_⟩;refine hb C I N H2 n2 _ { D' with nx:=fun G J=>∃L,L<m/\W L G J,ct:=fun G J=>∃L,L<m/\W L G J,bk:=D'.nx } S2 (by simpa using r) ⟨?_,fun t J v R h hn U r=>g.rt t J v R h hn (fun a o ha Z no=>?_) r,?_,?_,fun c J R h hn U=>g.xr c J R h hn fun a o ha Z no=>U a o (Y a o ha Z no).1 Z (Y a o ha Z no).2⟩;rintro G σ' R J ⟨L,hm,w'⟩ S' U;exact⟨L,hm,G,J,w',S',Y.trans U⟩;obtain⟨q1,q2⟩:=Y a o ha Z no;exact U a o q1 Z q2;intro G σ' R J h' S' U;exact g.nx G σ' R J h' S' (Y.trans U);rintro G σ' R J ⟨L,hm,w'⟩ S' U;exact⟨L,hm,G,J,w',S',Y.trans U⟩
 | false=>exact iteF (g.nx I N H2 n2 (by simpa using r) S2 Y)
end
def ItOk(K:qF)(hd:Option ah)(P O:ah->Prop)(H:Hp)(J:It)(ts:qD):Prop:=∀(v:ah->Prop) (l:Hp),(∀a o,H a=some o->P a->l a=some o)->(∀a o,H a=some o->¬O a->¬v a)->(∀a,v a->l a≠none) ->
 (∀i t,ts[i]?=some t->J.go i l/\∀x u,J.yld i l x u->Same l u/\Rep K hd v u x t)/\J.stop ts.length l
def DI(X:Cx)(tg iter:aO)(d:DTA):Prop:=∃u,PI X tg iter u/\∀(C:Ctx) (o:En) (σ:St) (H:Hp) (n:Nat) (Q:It->Hp->Prop) (R:List ae->Nat->Prop),Stt X.K C o σ H n->d o n R ->
 (∀ts v J l,R ts v->ExtE C.hd H l->Hn X.K C.hd l v->ItOk X.K C.hd (fun a=>¬Own C o σ a) (Own C o σ) l J ts->Q J l)->u σ H Q
def DIL(X:Cx)(tg iter:aO)(d:DTA):Prop:=∃u,PI X tg iter u/\∀(C:Ctx) (o:En) (σ:St) (H:Hp) (n:Nat) (Q:It->Hp->Prop) (R:List ae->Nat->Prop),Stt X.K C o σ H n->d o n R ->
 (∀ts v J l,R ts v->ExtE C.hd H l->Hn X.K C.hd l v->ItOk X.K C.hd (fun a=>C.hd≠some a) (Own C o σ) l J ts->Q J l)->u σ H Q
section
variable{X:Cx}{a b c e tg iter:aO}{es rest:List aO}{d da db dc:DTE}{ds di:DTA}{dt:DTT}{t u:DTS}{st:cN}{sts sa sb:List cN}{pos p:Pos}{k:Nat}{x:Str}
theorem dil(h:DI X tg iter di):DIL X tg iter di:=by obtain⟨wi,pi,h⟩:=h;refine⟨wi,pi,fun C Z σ H n Q R S hd L=>h C Z σ H n Q R S hd fun ts n' J Y r e1 G it=>L ts n' J Y r e1 G ?_⟩;exact fun N H2 I U v=>it N H2 (fun a o ha no=>I a o ha fun z=>no (.inl (S.hx a z))) U v
theorem Reps.getP{K:qF}{hd:Option ah}{O:ah->Prop}{H:Hp}{vs ts}{i:Nat}{t}{x:V}(r:Reps K hd O H vs ts)(h:ts[i]?=some t)(hx:vs[i]?=some x):Rep K hd O H x t:=by obtain⟨v,l,o⟩:=r.get h;rw[hx]at l;cases l;exact o
theorem zhA{K:qF}{hd:Option ah}{P O:ah->Prop}{H:Hp}{q:ah}{vs ts}(R:H q=some (.lst vs))(N:P q)(Z:∀a,¬O a->P a)(r:Reps K hd O H vs ts):ItOk K hd P O H (Itl K q) ts:=by intro S Y L U _;have C:=L q _ R N;have I:Reps K hd S Y vs ts:=r.mono (fun a o ha z=>cX fun no=>U a o ha no z) fun a o no ha=>L a o ha (Z a no);refine⟨fun i t J=>?_,⟨vs,.of C,by rw[r.length];exact aw _⟩⟩;obtain⟨v,ev,rv⟩:=I.get J;refine⟨⟨vs,v,.of C,ev⟩,fun x H3 G=>?_⟩;obtain⟨rfl,G⟩:=G;exact⟨Same.refl _,I.getP J (G vs (.of C))⟩
theorem zrL{K:qF}{hd:Option ah}{P O:ah->Prop}{H:Hp}{v:V}{ts}(Y:∀a,¬O a->P a)(r:Rep K hd O H v (.tuple ts)):∃q C,v=.ref q/\SqT K H q C/\ItOk K hd P O H (Itt K q) ts:=by
 have key:∀q C,Reps K hd O H C ts->(∀(J:ah->Prop) (G:Hp),(∀a o,H a=some o->P a->G a=some o)->(∀a o,H a=some o->¬O a->¬J a)->SqT K G q C)->ItOk K hd P O H (Itt K q) ts:=by intro q C r Z J G L R _;have I:=Z J G L R;have S:Reps K hd J G C ts:=r.mono (fun a o ha z=>cX fun no=>R a o ha no z) fun a o no ha=>L a o ha (Y a no);refine⟨fun i t U=>?_,⟨C,I,by rw[r.length];exact aw _⟩⟩;obtain⟨v,ev,rv⟩:=S.get U;refine⟨⟨C,v,I,ev⟩,fun x H3 N=>?_⟩;obtain⟨rfl,N⟩:=N;exact⟨Same.refl _,S.getP U (N C I)⟩
 cases r with
 | @tup q C ds h o r=>exact⟨q,C,rfl,.inl (.inl h),key q C r fun J G L _=>.inl (.inl (L q _ h (Y q o)))⟩
 | @tupS q C ds h r=>exact⟨q,C,rfl,h.sq,key q C r fun J G _ _=>h.sq⟩
def dItL(d:DTE):DTA:=fun v n R=>d v n fun t o=>match t with|.list ts=>R ts o|_=>False
def dItT(d:DTE):DTA:=fun v n R=>d v n fun t o=>match t with|.tuple ts=>R ts o|_=>False
theorem Vh(h:DE X iter d):DI X tg iter (dItL d):=by
 obtain⟨Z,pa,h⟩:=h;refine⟨_,zjW pa,fun C U σ H n Q R S hd J=>?_⟩;refine h C U σ H n _ _ S hd fun t Y v N r e1 I q=>?_;cases t with
 | list ts =>obtain⟨p,G,rfl,l,no,L⟩:=q.lstI;exact⟨p,rfl,⟨G,.of l⟩,J ts Y _ N r e1 I (zhA l no (fun _ z=>z) L)⟩
 | _=>exact r.elim
theorem znd(h:DL X iter d):DIL X tg iter (dItL d):=by
 obtain⟨ta,pa,h⟩:=h;refine⟨_,zjW pa,fun C ρ σ H n Q R S hd Y=>?_⟩;refine h C ρ σ H n _ _ S hd fun t n' v Z r e1 N q=>?_;cases t with
 | list ts =>
  rcases q with q|⟨p,J,ds,rfl,L,G,I,U⟩|⟨p,zs,ep,ks,rfl,L,G,I,U⟩
  rotate_left 2
  cases L;obtain⟨p,J,rfl,G,no,I⟩:=q.lstI;exact⟨p,rfl,⟨J,.of G⟩,Y ts n' _ Z r e1 N (zhA G (fun z=>no (.inl (S.hx p z))) (fun a no z=>no (.inl (S.hx a z))) I)⟩;cases L;exact⟨p,rfl,⟨J,.of G⟩,Y ts n' _ Z r e1 N (zhA G U (fun a no z=>no (.inl (S.hx a z))) I)⟩
 | _=>exact r.elim
theorem QU(h:DE X iter d):DI X tg iter (dItT d):=by
 obtain⟨U,pa,h⟩:=h;refine⟨_,zqA pa,fun C l σ H n Q R S hd J=>?_⟩;refine h C l σ H n _ _ S hd fun t N v L r e1 G q=>?_;cases t with
 | tuple ts =>obtain⟨p,o,rfl,I,it⟩:=zrL (P:=fun a=>¬Own C l σ a) (fun _ z=>z) q;exact⟨p,rfl,⟨o,I⟩,J ts N _ L r e1 G it⟩
 | _=>exact r.elim
def QM(lo:Int)(n:Nat):List ae:=(cg n).map fun(i:Nat)=>cI (lo+(i:Int))
theorem zmW{K:qF}{hd:Option ah}{P O:ah->Prop}{H:Hp}{lo:Int}{m:Nat}:ItOk K hd P O H (Itr lo m) (QM lo m):=by intro I G _ _ _;refine⟨fun i t o=>?_,by show m<=(QM lo m).length;simp[QM]⟩;unfold QM at o;rw[aU]at o;by_cases hi:i<m;rw[ig hi]at o;cases o;refine⟨hi,fun x C v=>?_⟩;obtain⟨rfl,rfl⟩:=v;exact⟨Same.refl _,.int _⟩;rw[cc (by simp;omega)]at o;cases o
def Yk(d:DTE):DTA:=fun o n R=>d o n fun t l=>match t with|.int j=>(-(2 ^ 62)<=j/\j<2 ^ 62)/\R (QM 0 j.toNat) l|_=>False
theorem VG(G:X.mg "range" = none) (h:DE X a d) (I:Gl X "range":=by rfl) (o:starEach [a] X.env=[(false,eval a X.env)]:=by rfl):DI X tg (.Call (.Name "range" p) [a] [] pos) (Yk d):=by
 obtain⟨ta,pa,h⟩:=h;refine⟨_,zjV I G (J3 pa Qy o) o,fun C Y σ H n Q R S hd L=>?_⟩;refine h C Y σ H n _ _ S hd fun t Z v U r e1 J q=>?_;cases t with
 | int j =>rw[q.intI];exact⟨j,rfl,r.1.1,r.1.2,L _ Z _ U r.2 e1 J zmW⟩
 | _=>exact r.elim
def forP(g:DTG)(l:DTS)(D:JO):List ae->En->Nat->Prop
 | [],ρ,n=>D.nx ρ n
 | t::ts,ρ,n=>g t ρ fun o=>l { D with nx:=forP g l D ts,ct:=forP g l D ts,bk:=D.nx } o n
def sFor(di:DTA)(g:DTG)(o:DTS):DTS:=fun D l n=>di l n fun ts n1=>forP g o D ts l n1
theorem UF(hp:kf (model X.prog X.w) X.A X.env X.xe)(hc:X.calm=true)(hi:DI X tg iter di)(hg:DG X tg is g)(hb:DSs X sa t)
  (hs:Fsi X iter:=by intro _;rfl):DS X (.For tg iter sa [] pos) (sFor di g t):=by
 obtain⟨wi,pi,hi⟩:=hi;obtain⟨_,gg,pg,hg⟩:=hg;obtain⟨tb,pb,hb⟩:=hb;refine⟨_,znF hp hc pi pg pb hs,fun C ρ σ H n D D' S hd gd=>?_⟩;refine hi C ρ σ H n _ _ S hd fun ts n1 J H1 r e1 hn it=>?_;have S1:=S.on e1 hn;refine⟨fun i m L H2=>m=ts.length - i/\i<=ts.length/\∃I n2,forP g t D' (ts.drop i) I n2/\Stt X.K C I L H2 n2/\Keep C ρ σ H1 I L H2,⟨ts.length,by simp,b5 _,ρ,n1,by simpa using r,S1,Keep.refl⟩,?_⟩;rintro i m L H2 ⟨rfl,hi',I,n2,f2,S2,k2⟩;have itq:=it (Own C I L) H2 (fun a o ha no=>(k2 a o ha (fun z=>no (.inl (S.hx a z))) fun z=>no (.inr z)).1) (fun a o ha no z=>z.elim (fun z=>no (.inl z)) fun z=>(k2 a o ha (fun y=>no (.inl (S.hx a y))) fun y=>no (.inr y)).2 z) (fun a=>S2.dom);by_cases hlt:i<ts.length;have et:ts[i]?=some ts[i]:=aC hlt;obtain⟨go,yl⟩:=itq.1 i _ et;rw[cB hlt]at f2;refine .inr ⟨go,fun σ' R=>∃G N,forP g t D' (ts.drop (i+1)) G N/\Stt X.K C G σ' R N/\Keep C ρ σ H1 G σ' R,fun σ' R z=>⟨ts.length - (i+1),by omega,rfl,hlt,z⟩,fun x H3 hy=>?_⟩;obtain⟨sm,rx⟩:=yl x H3 hy;have S3:=S2.on sm.ext (S2.hnd.same sm);have k3:Keep C ρ σ H1 I L H3:=k2.trans (Same.ext sm:ExtE C.hd H2 H3).keep;refine hg C I L H3 n2 x _ _ _ S3 rx f2 fun ρ4 σ4 r4 S4 k4 _ _=>?_;have k5:=k3.trans k4;refine hb C ρ4 σ4 H3 n2 _ { D' with nx:=forP g t D' (ts.drop (i+1)),ct:=forP g t D' (ts.drop (i+1)),bk:=D'.nx } S4 r4 ⟨fun G σ' R N h' S' U=>⟨G,N,h',S',k5.trans U⟩,fun t N v R h Y U rp=>gd.rt t N v R h Y (fun a o ha Z no=>?_) rp,fun G σ' R N h' S' U=>gd.nx G σ' R N h' S' (e1.keep.trans (k5.trans U)),fun G σ' R N h' S' U=>⟨G,N,h',S',k5.trans U⟩,fun c N R h Y U=>gd.xr c N R h Y fun a o ha Z no=>U a o ((e1.keep.trans k5) a o ha Z no).1 Z ((e1.keep.trans k5) a o ha Z no).2⟩;obtain⟨q1,q2⟩:=(e1.keep.trans k5) a o ha Z no;exact U a o q1 Z q2;have e:i=ts.length:=by omega
 subst e;rw[km]at f2;exact .inl ⟨itq.2,gd.nx I L H2 n2 f2 S2 (e1.keep.trans k2)⟩
def J0(N:List Str)(ts:qD):En:=ts.map (fun t=>some (.val t))++bM (N.length - ts.length) none
theorem zjo{K:qF}{hd:Option ah}{O:ah->Prop}{H:Hp}{n:Nat}{N:List Str}{C:List V}{ts:qD}(r:Reps K hd O H C ts)(I:Hn K hd H n)(dom:∀a,O a->MutO (H a))(hx:∀a,hd=some a->O a) :
  Stt K ⟨hd,O⟩ (J0 N ts) (start N C) H n/\∀a,¬OwnS (J0 N ts) (start N C) a:=by
 have get:∀(i:Nat) c,(J0 N ts)[i]?=some (some c)->∃t,c=.val t/\ts[i]?=some t:=fun i c h=>by
  unfold J0 at h;by_cases hi:i<ts.length;rw[bh (by simpa using hi),aU]at h;cases e:ts[i]? with
  | none=>rw[e]at h;cases h
  | some t=>rw[e]at h;cases h;exact⟨t,rfl,rfl⟩
  rw[aR (by simpa using hi),dG]at h;split at h <;> cases h
 have no:∀a,¬OwnS (J0 N ts) (start N C) a:=fun a ⟨i,ds,m,L,_⟩=>by obtain⟨t,e,_⟩:=get i _ L;subst e;cases m
 refine⟨.mk' (by unfold J0 start;simp[r.length]) (fun i d h=>?_) (fun i ds m h=>?_) (fun i R h=>by obtain⟨t,e,_⟩:=get i _ h;cases e) (fun i j ds es a m _ h=>?_) I dom hx,no⟩;obtain⟨t,e,J⟩:=get i _ h;cases e;obtain⟨v,ev,G⟩:=r.get J;refine⟨v,?_,G.mono (fun a o _ z=>z.elim id fun z=>absurd z (no a)) fun _ _ _ z=>z⟩;unfold start;have hi:i<C.length:=by rcases mO i C.length with z|z;exact z;rw[cc z]at ev;cases ev
 rw[bh (by simpa using hi),aU,ev];rfl;obtain⟨t,e,_⟩:=get i _ h;subst e;cases m;obtain⟨t,e,_⟩:=get i _ h;subst e;cases m
end
end L2
namespace Bd
open PySem L2 PyProof.Rows
theorem Def.okD{P:aI}{w:aT}{K:qF}{mg:qM}{base:bt}{x:Str}{st:cN}{ps N:List Str}{f:ah}{fd:cJ}{k m:Nat}{g:GD}(D:Def K mg x st ps f fd)(S:Uq N ps (JC st))(hm:m=ps.length)
  (hb:∀(l:af) (A:bu) (outer:List Env) (s:ak) (H:Hp) (E:XK),Room k (A.deeper (envOfC x (JC st) s.heap.objs.size f l))->∃d,DSs (cxOf CX0 P w K mg base N x (JC st) f l A outer s H E).nox (J9 st) d /\
   ∀ts n R,ts.length=m->g ts n R->d { nx:=fun _ u=>R .none u,rt:=R } (J0 N ts) n):FnOk P w K mg base CX0 (k+1) f fd ps (spD K m g):=by
 refine D.F.ok S (fun vs H Q E h=>?_) (fun l A outer s H vs Q E hr h=>?_);obtain⟨hd,O,ts,n,R,r,_,_,_,G,_⟩:=h;rw[r.length,G,hm];obtain⟨hd,O,ts,n,R,r,hn,dom,hx,G,hg,Y⟩:=h;obtain⟨d,⟨t,pt,ht⟩,J⟩:=hb l A outer s H E hr;obtain⟨S0,no⟩:=zjo (N:=N) r hn dom hx;refine⟨t,pt,ht ⟨hd,O⟩ _ _ H n _ _ S0 (J ts n R G hg) ⟨fun ρ' σ' L u h S' U=>?_,fun t u v L h C U Z=>?_,fun _ _ _ _ h=>h.elim,fun _ _ _ _ h=>h.elim,fun _ _ _ h=>h.elim⟩⟩;exact Y .none u .non L h (fun a o ha I=>(U a o ha I (no a)).1) S'.hnd .non;exact Y t u v L h (fun a o ha I=>U a o ha I (no a)) C Z
end Bd
namespace L2
open PySem PySem.Spec PyProof.Rows
def DTs(Y:Cx)(ifs:List aO)(d:DTT):Prop:=∃u,PTs Y ifs u/\∀(C:Ctx) (v:En) (σ:St) (H:Hp) (n:Nat) (Q:Bool->Hp->Prop) (R:Bool->Nat->Prop),Stt Y.K C v σ H n->d v n R ->
 (∀b o l,R b o->ExtE C.hd H l->Hn Y.K C.hd l o->Q b l)->u σ H Q
def dYes:DTT:=fun _ n R=>R true n
section
variable{Y:Cx}{c:aO}{d:DTT}
theorem Va:DTs Y [] dYes:=⟨_,zon,fun C o σ H n Q R S h l=>l true n H h ExtE.refl S.hnd⟩
theorem zkZ(h:DT Y c d):DTs Y [c] d:=by obtain⟨l,p,h⟩:=h;exact⟨_,zom p,h⟩
end
def SpE(K:qF)(x:TE)(d:DTE):Prop:=∀(C:Ctx) (o:En) (σ:St) (H:Hp) (n:Nat) (Q:VK) (R:qN),Stt K C o σ H n->d o n R ->
 (∀t u v l,R t u->ExtE C.hd H l->Hn K C.hd l u->Rep K C.hd (Own C o σ) l v t->Q v l)->x σ H Q
def SpT(K:qF)(v:TT)(d:DTT):Prop:=∀(C:Ctx) (u:En) (σ:St) (H:Hp) (n:Nat) (Q:Bool->Hp->Prop) (R:Bool->Nat->Prop),Stt K C u σ H n->d u n R ->
 (∀b o l,R b o->ExtE C.hd H l->Hn K C.hd l o->Q b l)->v σ H Q
def SpG(K:qF)(is:List Nat)(u:TG)(d:DTG):Prop:=∀(C:Ctx) (o:En) (σ:St) (H:Hp) (n:Nat) (v:V) (t:ae) (Q:St->Hp->Prop) (R:En->Prop),Stt K C o σ H n->Rep K C.hd (Own C o σ) H v t->d t o R ->
 (∀l σ',R l->Stt K C l σ' H n->Keep C o σ H l σ' H->(∀j,j∉is->σ'[j]?=σ[j]?)->σ'.length=σ.length->Q σ' H)->u v σ H Q
section
variable{X:Cx}{scope:eP}{own:List Str}{capt:List Nat}{e tg:aO}{es:List aO}{is:List Nat}{d:DTE}{dt:DTT}{dg:DTG}{di:DTA}
theorem DE.fam(h:Fam X scope own capt fun Y=>DE Y e d):∃o:TE,(Fam X scope own capt fun Y=>PE Y e o)/\SpE X.K o d :=
 ⟨fun σ H Q=>∀C s₀ H₀ l,ko (h C s₀ H₀ l) σ H Q,fun C s₀ H₀ l pins s σ H Q I hw=>(cZ (h C s₀ H₀ l)).1 pins s σ H Q I (hw C s₀ H₀ l),fun C v σ H n Q R S hd u x s₀ H₀ l=>(cZ (h x s₀ H₀ l)).2 C v σ H n Q R S hd u⟩
theorem DTs.fam(h:Fam X scope own capt fun Y=>DTs Y es dt):∃o:TT,(Fam X scope own capt fun Y=>PTs Y es o)/\SpT X.K o dt :=
 ⟨fun σ H Q=>∀C s₀ H₀ l,ko (h C s₀ H₀ l) σ H Q,fun C s₀ H₀ l pins s σ H Q I hw=>(cZ (h C s₀ H₀ l)).1 pins s σ H Q I (hw C s₀ H₀ l),fun C v σ H n Q R S hd u x s₀ H₀ l=>(cZ (h x s₀ H₀ l)).2 C v σ H n Q R S hd u⟩
theorem DG.fam(h:Fam X scope own capt fun Y=>DG Y tg is dg):∃o:TG,(Fam X scope own capt fun Y=>PG Y tg o)/\SpG X.K is o dg :=
 ⟨fun v σ H Q=>∀C s₀ H₀ l,ko (h C s₀ H₀ l).2 v σ H Q,fun C s₀ H₀ l pins s σ H v u Q I r hw=>(cZ (h C s₀ H₀ l).2).1 pins s σ H v u Q I r (hw C s₀ H₀ l),fun C G σ H n v t Q R S r hd x J s₀ H₀ l=>(cZ (h J s₀ H₀ l).2).2 C G σ H n v t Q R S r hd x⟩
end
theorem Wk.of:∀{σ σ':St},σ.length=σ'.length->(∀(i:Nat) v,σ[i]?=some (some v)->σ'[i]?=some (some v))->Wk σ σ'
 | [],[],_,_=>trivial
 | [],_::_,h,_=>by simp at h
 | _::_,[],h,_=>by simp at h
 | none::r,o::r',h,k=>Wk.of (σ:=r) (σ':=r') (by simpa using h) fun i v e=>by simpa using k (i+1) v (by simpa using e)
 | some w::r,o::r',h,k=>⟨by simpa using k 0 w rfl,Wk.of (by simpa using h) fun i v e=>by simpa using k (i+1) v (by simpa using e)⟩
def capV:Option Cell->Option Cell
 | some (.val d)=>some (.val d)
 | some (.dct ks)=>some (.rdo ks)
 | some (.rdo ks)=>some (.rdo ks)
 | _=>none
def JQ(m:Nat)(capt:List Nat)(l:En):En:=bM m none++capt.map fun i=>capV (l.getD i none)
def cGo{α:Type}(g:DTG)(tt:DTT)(u:En->Nat->α->(α->Nat->Prop)->Prop)(ρ0:En):List ae->α->Nat->(α->Nat->Prop)->Prop
 | [],acc,n,R=>R acc n
 | x::xs,acc,n,R=>g x ρ0 fun o=>tt o n fun b n2=>if b=true then u o n2 acc fun l v=>cGo g tt u ρ0 xs l v R else cGo g tt u ρ0 xs acc n2 R
abbrev tdL(te:DTE)(ρ:En)(n:Nat)(acc:qD)(R:List ae->Nat->Prop):Prop:=te ρ n fun t n3=>acc.length<16777216/\R (acc++[t]) n3
def QJ(g:DTG)(tt:DTT)(o:DTE)(ρ0:En)(xs l:qD)(n:Nat)(R:List ae->Nat->Prop):Prop:=cGo g tt (tdL o) ρ0 xs l n R
def dComp(m:Nat)(capt:List Nat)(o:DTA)(g:DTG)(tt:DTT)(u:DTE):DTA:=fun l n R=>o l n fun ts n1=>QJ g tt u (JQ m capt l) ts [] n1 R
theorem Hn.updR{K:qF}{hd:Option ah}{v:Hp}{D:ah}{o:HO}{n:Nat}(u:hd≠some D)(x:MutO (v D))(h:Hn K hd v n):Hn K hd (upd v D o) n:=fun a ha=>by have ne:a≠D:=fun z=>u (by rw[<- z];exact ha);rcases h a ha with⟨⟨d,m,t,q,rest⟩,l⟩|⟨l,p⟩;exact .inl ⟨⟨d,m,t,by rw[Je ne];exact q,rest⟩,l⟩;exact .inr ⟨l,p.upd ne x⟩
section
variable{X:Cx}{scope:eP}{own:List Str}{capt:List Nat}{elt tg iter:aO}{ifs:List aO}{pos:Pos}{di:DTA}{is:List Nat}{g:DTG}{tt:DTT}{te:DTE}
theorem zfv{x:En}{i:Nat}{c:Cell}(h:capV (x.getD i none)=some c):(∃d,c=.val d/\x[i]?=some (some (.val d)))\/∃u,c=.rdo u/\(x[i]?=some (some (.dct u))\/x[i]?=some (some (.rdo u))):=by
 rw[bg]at h;cases e:x[i]? with
 | none=>rw[e]at h;cases h
 | some o =>
  rw[e]at h;cases o with
  | none=>cases h
  | some C =>
   cases C with
   | val d'=>simp[capV]at h;exact .inl ⟨d',h.symm,rfl⟩
   | own _=>simp[capV]at h
   | dct u=>simp[capV]at h;exact .inr ⟨u,h.symm,.inl rfl⟩
   | dtt u=>simp[capV]at h
   | rdo u=>simp[capV]at h;exact .inr ⟨u,h.symm,.inr rfl⟩
theorem zli{K:qF}{C:Ctx}{u:En}{σ:St}{H R:Hp}{n n2:Nat}{D:ah}(S:Stt K C u σ H n)(e:ExtE C.hd H R)(Z:Hn K C.hd R n2)(hD:H D=none)(hy:MutO (R D)) :
  Stt K ⟨C.hd,fun a=>Own C u σ a\/a=D⟩ (JQ own.length capt u) (Qu own++capS capt σ) R n2/\∀a,¬OwnS (JQ own.length capt u) (Qu own++capS capt σ) a:=by
 have get:∀(i:Nat) c,(JQ own.length capt u)[i]?=some (some c)->∃j,capV (u.getD j none)=some c/\own.length<=i/\capt[i - own.length]?=some j:=fun i c h=>by
  unfold JQ at h;by_cases hi:i<own.length;rw[bh (by simpa using hi),dG]at h;split at h <;> cases h;rw[aR (by simpa using hi),gL,aU]at h;cases ej:capt[i - own.length]? with
  | none=>rw[ej]at h;cases h
  | some j =>rw[ej]at h;exact⟨j,by simpa using h,by omega,rfl⟩
 have slot:∀(i j:Nat) (v:V),own.length<=i->capt[i - own.length]?=some j->σ[j]?=some (some v)->(Qu own++capS capt σ)[i]?=some (some v):=fun i j v hi I x=>by rw[aR (by simpa using hi)];simp only[aJ,aU,I,hY];rw[bg,x];rfl
 have nm:∀(i:Nat) (c:Cell),c.mine=true->(JQ own.length capt u)[i]?=some (some c)->False:=fun i c m h=>by obtain⟨j,e1,_⟩:=get i c h;rcases zfv e1 with⟨d,rfl,_⟩|⟨N,rfl,_⟩ <;> cases m
 have no:∀a,¬OwnS (JQ own.length capt u) (Qu own++capS capt σ) a:=fun a ⟨i,c,m,x,_⟩=>nm i c m x;have S2:=S.on e Z;have sub:∀a o,H a=some o->Own ⟨C.hd,fun a=>Own C u σ a\/a=D⟩ (JQ own.length capt u) (Qu own++capS capt σ) a->Own C u σ a:=fun a o ha z=>by rcases z with z|z;rcases z with z|z;exact z;subst z;rw[hD]at ha;cases ha;exact absurd z (no a)
 have kp:∀a o,¬Own C u σ a->H a=some o->R a=some o:=fun a o nO ha=>e a o ha fun z=>nO (.inl (S.hx a z));refine⟨.mk' (by unfold JQ;simp) (fun i d h=>?_) (fun i ds m h=>(nm i _ m h).elim) (fun i N h=>?_) (fun i j ds es a m _ h=>(nm i _ m h).elim) Z (fun a ha=>?_) (fun a ha=>.inl (.inl (S.hx a ha))),no⟩;obtain⟨j,e1,hi,I⟩:=get i _ h;rcases zfv e1 with⟨d',z,e2⟩|⟨N,z,_⟩;cases z;obtain⟨v,x,L⟩:=S.val j d e2;exact⟨v,slot i j v hi I x,L.mono sub kp⟩;cases z;obtain⟨j,e1,hi,I⟩:=get i _ h;rcases zfv e1 with⟨d',z,e2⟩|⟨ks',z,e2⟩;cases z;cases z;rcases e2 with e2|e2;obtain⟨a,G,x,L,U,Y⟩:=S.dct j N e2;have J:C.hd≠some a:=fun z=>Y (S.hx a z);exact⟨a,G,slot i j _ hi I x,e a _ L J,U.mono sub kp,.inl (.inr ⟨j,.dct N,rfl,e2,x⟩),J⟩;obtain⟨a,G,x,L,U,Y,J⟩:=S.rdo j N e2;exact⟨a,G,slot i j _ hi I x,e a _ L J,U.mono sub kp,.inl (.inl Y),J⟩;rcases ha with ha|rfl;exact S2.lst ha;exact hy
def ExtD(hd:Option ah)(D:ah)(H l:Hp):Prop:=∀a o,H a=some o->hd≠some a->a≠D->l a=some o
def SpM{α:Type}(K:qF)(C:Ctx)(D:ah)(A:Hp->α->Prop)(js:List Nat)(te:TM)(I:En->Nat->α->(α->Nat->Prop)->Prop):Prop:=∀(x:En) (σ:St) (H:Hp) (n:Nat) (o:α) (N:Hp->Prop) (R:α->Nat->Prop),Stt K C x σ H n->(∀j∈js,∀v,σ[j]?≠some (some v))->A H o->I x n o R ->
 (∀l G u,R l G->ExtD C.hd D H u->Hn K C.hd u G->A u l->N u)->te σ H N
def AOk{α:Type}(A:Ctx->ah->Hp->α->Prop):Prop:=∀(C:Ctx) (D:ah) (H:Hp) (l:α),(∀a,C.hd=some a->C.ext a)->C.hd≠some D->A C D H l->MutO (H D)/\(∀u,H D≠some (.dK u))/\∀o,ExtE C.hd H o->A C D o l
section
variable{α:Type}{K:qF}{C:Ctx}{D:ah}{A:Ctx->ah->Hp->α->Prop}{is js:List Nat}{gg:TG}{gt:TT}{tm:TM}{td:En->Nat->α->(α->Nat->Prop)->Prop}{ρ:En}{σ:St}{H1:Hp}{n1:Nat}{acc:α}{R:α->Nat->Prop}
theorem zmK(hD:C.ext D)(Z:C.hd≠some D)(am:AOk A)(sg:SpG K is gg g)(st:SpT K gt tt)(sm:SpM K C D (A C D) js tm td)(S:Stt K C ρ σ H1 n1)(his:∀j∈is,∀v,σ[j]?≠some (some v))(N:∀j∈js,j∉is/\∀v,σ[j]?≠some (some v))(a1:A C D H1 acc){J:It}{ts:qD}{Q:Hp->Prop}
  (it:∀u,ExtD C.hd D H1 u->(∀a,Own C ρ σ a->u a≠none)->(∀(i:Nat) t,ts[i]?=some t->J.go i u/\∀x L,J.yld i u x L->Same u L/\Rep K C.hd (Own C ρ σ) L x t)/\J.stop ts.length u)
  (r:cGo g tt td ρ ts acc n1 R) (hq:∀l n' H',R l n'->ExtD C.hd D H1 H'->Hn K C.hd H' n'->A C D H' l->Q H'):Zt gg gt tm σ J H1 Q:=by
 refine⟨ts.length,fun i u=>∃acc n2,cGo g tt td ρ (ts.drop i) acc n2 R/\A C D u acc/\ExtD C.hd D H1 u/\Hn K C.hd u n2,⟨acc,n1,r,a1,fun _ _ h _ _=>h,S.hnd⟩,?_⟩;rintro i u ⟨G,n2,c2,a2,e2,h2⟩;have S2:=S.onX (fun a o ha no=>e2 a o ha (fun z=>no (S.hx a z)) fun z=>no (z▸hD)) (fun a ha=>by by_cases z:a=D;rw[z];exact(am _ _ _ _ S.hx Z a2).1;exact S.mut ha h2 fun o ho Z=>e2 a o ho Z z) (fun a ks ha _ nh2=>e2 a _ ha nh2 fun z=>(am _ _ _ _ S.hx Z a1).2.1 ks (z▸ha)) h2;have itq:=it u e2 fun a=>S2.dom;refine⟨fun hi=>?_,fun hi=>?_⟩;subst hi;rw[km]at c2;exact⟨itq.2,hq _ _ _ c2 e2 h2 a2⟩;rw[cB hi]at c2;obtain⟨go,yl⟩:=itq.1 i _ (aC hi);refine⟨go,fun x L hyd=>?_⟩;obtain⟨I,rx⟩:=yl x L hyd;refine sg C ρ σ L n2 x ts[i] _ _ (S2.on (Same.ext I) (h2.same I)) rx c2 fun ρ4 σ4 r4 S4 k4 hj hl=>⟨Wk.of hl.symm fun j v ej=>?_,?_⟩;by_cases z:j∈is;exact absurd ej (his j z v);rw[hj j z];exact ej;refine st C ρ4 σ4 L n2 _ _ S4 r4 fun b n5 H5 r5 e5 U=>?_;have e25:ExtE C.hd u H5:=(Same.ext I).trans e5;have a5:=(am _ _ _ _ S.hx Z a2).2.2 _ e25;have e15:ExtD C.hd D H1 H5:=fun a o h n m=>e25 a o (e2 a o h n m) n;cases b with
 | false=>exact iteF ⟨G,n5,by simpa using r5,a5,e15,U⟩
 | true=>exact iteT (sm ρ4 σ4 H5 n5 G _ _ (S4.on e5 U) (fun j Y v=>by rw[hj j (N j Y).1];exact(N j Y).2 v) a5 (by simpa using r5) fun l n' H' r' e' h' a'=>⟨l,n',r',a',fun a o h n m=>e' a o (e15 a o h n m) n m,h'⟩)
end
def HM{α:Type}(X:Cx)(scope:eP)(own:List Str)(capt:List Nat)(nx:af->Env->Sem Fin->Sem Fin)(A:Ctx->ah->Hp->α->Prop)(js:List Nat)(l:En->Nat->α->(α->Nat->Prop)->Prop):Prop :=
 ∃te:ah->TM,(∀D,Fam X scope own capt fun Y=>PM Y (nx (.ref D) Y.env) (te D))/\∀(C:Ctx) D,C.ext D->C.hd≠some D->SpM X.K C D (A C D) js (te D) l
section
variable{α:Type}{A:Ctx->ah->Hp->α->Prop}{a0:α}{js is2:List Nat}{e tg2 it2:aO}{ifs2:List aO}{EV:Sem af}{nx:af->Env->Sem Fin->Sem Fin}{z:ah->HO->Prop}{td:En->Nat->α->(α->Nat->Prop)->Prop}{di2:DTA}{g2:DTG}{tt2:DTT}
theorem znj(am:AOk A)(az:∀C D H ho,z D ho->A C D (upd H D ho) a0)(hc:X.calm=true)(S:JD scope own capt X)(k:Zs e tg iter ifs scope EV nx)(na:NA X.prog X.w EV z)(hi:DIL X tg iter di)(hg:Fam X scope own capt fun Y=>DG Y tg is g)(hin:∀i∈is,i<own.length)(ht:Fam X scope own capt fun Y=>DTs Y ifs tt)
  (hm:HM X scope own capt nx A js td) (Z:∀j∈js,j<own.length/\j∉is) (hs:Fsi X iter) :
  ∃te,PE X e te/\(∀{i:Nat} {x:Str} {pos' Hr:Pos},X.N.Nodup->X.N[i]?=some x->Loc X.env.scope x->swapsWith e (some (.Name x pos')) Hr.line X.env=pure true->(Fnl X x)->PS X (.Assign [.Name x pos'] e Hr) (tAsg te (QH i))) /\
   ∀(C:Ctx) (u:En) (σ:St) (H:Hp) (n:Nat) (Q:VK) (R:α->Nat->Prop),Stt X.K C u σ H n->(di u n fun ts n1=>cGo g tt td (JQ own.length capt u) ts a0 n1 R) ->
    (∀acc n' U D,R acc n'->ExtE C.hd H U->Hn X.K C.hd U n'->H D=none->¬Own C u σ D->A ⟨C.hd,fun a=>Own C u σ a\/a=D⟩ D U acc->Q (.ref D) U)->te σ H Q:=by
 obtain⟨wi,pi,hi⟩:=hi;obtain⟨gg,pg,hgg⟩:=DG.fam hg;obtain⟨gt,pt,hgt⟩:=DTs.fam ht;obtain⟨te,pm,hte⟩:=hm;refine⟨_,zoz hc S k na pi pg pt pm hs,fun hN hxi hx hsw hf=>zoo hc S k na pi pg pt pm hs hN hxi hx hsw hf,fun C u σ H n Q R St hd hq=>?_⟩;refine hi C u σ H n _ _ St hd fun ts n1 J H1 r e1 hn it=>fun D ho G hz=>?_;have hD:H D=none:=Vd e1 hn G;have nO:¬Own C u σ D:=fun z=>St.dom z hD;have I:C.hd≠some D:=fun z=>nO (.inl (St.hx D z));have a1:=az ⟨C.hd,fun a=>Own C u σ a\/a=D⟩ D H1 ho hz;have hx':∀a,C.hd=some a->Own C u σ a\/a=D:=fun a z=>.inl (.inl (St.hx a z));have up:∀{a o},H1 a=some o->a≠D/\upd H1 D ho a=some o:=fun ha=>⟨QE ha G,by rw[Je (QE ha G)];exact ha⟩;obtain⟨I3,no3⟩:=zli (own:=own) (capt:=capt) (D:=D) St (e1.trans (ExtE.new G)) (hn.same (JP G)) hD (am ⟨C.hd,fun a=>Own C u σ a\/a=D⟩ D _ _ hx' I a1).1;have sn:∀j,j<own.length->∀v,(Qu own++capS capt σ)[j]?≠some (some v):=fun j L v ej=>by
  rw[bh (by simpa using L),aU]at ej;cases z:own[j]? with
  | none=>rw[z]at ej;cases ej
  | some q=>rw[z]at ej;cases ej
 refine zmK (C:=⟨C.hd,fun a=>Own C u σ a\/a=D⟩) (.inr rfl) I am hgg hgt (hte _ D (.inr rfl) I) I3 (fun j L=>sn j (hin j L)) (fun j L=>⟨(Z j L).2,sn j (Z j L).1⟩) a1 (fun H2 e dm=>?_) r fun acc' n' U r' e' h' a'=>hq acc' n' U D r' (fun a o ha nh=>e' a o (up (e1 a o ha nh)).2 nh (up (e1 a o ha nh)).1) h' hD nO a';have itq:=it (fun a=>Own C u σ a\/a=D) H2 (fun a o ha nh=>e a o (up ha).2 nh (up ha).1) (fun a o ha no z=>z.elim no (up ha).1) fun a z=>dm a (.inl z);refine⟨fun i t ht=>?_,itq.2⟩;obtain⟨go,yl⟩:=itq.1 i t ht;refine⟨go,fun x H3 y=>?_⟩;obtain⟨sm,rx⟩:=yl x H3 y;exact⟨sm,rx.mono (fun a o _ z=>z.elim id fun z=>absurd z (no3 a)) fun _ _ _ z=>z⟩
end
def AL(K:qF)(C:Ctx)(D:ah)(H:Hp)(o:qD):Prop:=∃u,H D=some (.lst u)/\Reps K C.hd C.ext H u o
theorem zsy{K:qF}:AOk (AL K):=fun _ _ _ _ hx x ⟨v,u,r⟩ =>
 ⟨.inl ⟨_,u⟩,fun C z=>(by rw[u]at z;cases z),fun G e=>⟨v,e _ _ u x,r.mono (fun _ _ _ z=>z) fun a o no ha=>e a o ha fun z=>no (hx a z)⟩⟩
def nxL(elt:aO)(o:af)(env:Env)(k:Sem Fin):Sem Fin:=do
 (do let _ <- call (.builtin "list.append") [o,<- eval elt env])
 k
theorem zoY{l:List Comprehension}:IsC (.ListComp elt l scope pos):=fun _ _ _ _ _ _ _=>⟨⟨rfl,rfl⟩,⟨rfl,rfl⟩,rfl⟩
theorem zq7{P:aI}{w:aT}:NA P w (newList []) fun _ o=>o=.lst []:=fun A E s Q _ h=>dI (h _ rfl fun h' e=>⟨_,rfl,fun u=>⟨b5 _,[],0,.nil,e⟩⟩)
theorem zsu{K:qF}(C:Ctx)(D:ah)(H:Hp)(o:HO)(h:o=.lst []):AL K C D (upd H D o) []:=⟨[],by rw[h];exact JA,.nil⟩
theorem zr9(he:Fam X scope own capt fun Y=>DE Y elt te):HM X scope own capt (nxL elt) (AL X.K) [] (tdL te):=by obtain⟨ge,pe,Z⟩:=DE.fam he;refine⟨fun D σ H N=>ge σ H fun v U=>∃u,U D=some (.lst u)/\u.length<sizeLine/\N (upd U D (.lst (u++[v]))),fun D C s₀ H₀ fp pins s σ H N k Q E I h hk=>?_,fun C D hD nh ρ σ H n acc N R S _ a r hq=>?_⟩;refine ab (ab (cH (pe C s₀ H₀ fp pins s σ H _ I h) (fun y s9 h9=>ab ?_) fun _ _ z=>z.elim));obtain⟨v,H9,I9,r9,u,x,hl,q9⟩:=h9;refine cH (zd6 (X:=Ub X scope own capt C s₀ H₀ fp) _ s9 σ H9 (.ref D) [v] _ [y] (fun _ H'=>H'=upd H9 D (.lst (u++[v]))) I9 rfl (.cons r9 .nil) ⟨_,u,v,rfl,rfl,x,hl,rfl⟩) (fun _ s10 G=>?_) fun _ _ z=>z.elim;obtain⟨_,H10,L,_,rfl⟩:=G;exact aj (hk _ _ L q9);refine Z C ρ σ H n _ _ S r fun t n6 v U r6 e6 J q6=>?_;obtain⟨u,x,rs⟩:=(zsy _ _ _ _ S.hx nh a).2.2 _ e6;refine⟨u,x,by rw[rs.length];exact r6.1,hq _ n6 _ r6.2 (fun b o hb nb ne=>by rw[Je ne];exact e6 b o hb nb) (Hn.updR nh (.inl ⟨_,x⟩) J) ⟨_,JA,?_⟩⟩;exact(rs.append (.cons (q6.mono (fun _ _ _ z=>.inl z) fun _ _ _ z=>z) .nil)).mono (fun _ _ _ z=>z) fun a o no ha=>by rw[Je (show a≠D from fun z=>no (z▸hD))];exact ha
def zsA(K:qF)(te:TE)(d:DTA):Prop:=∀(C:Ctx) (u:En) (σ:St) (H:Hp) (n:Nat) (Q:VK) (R:List ae->Nat->Prop),Stt K C u σ H n->d u n R ->
 (∀ts v p x o,R ts v->ExtE C.hd H o->Hn K C.hd o v->H p=none->o p=some (.lst x)->Reps K C.hd (fun a=>Own C u σ a\/a=p) o x ts->Q (.ref p) o)->te σ H Q
theorem ziz(hc:X.calm=true)(S:JD scope own capt X)(hi:DIL X tg iter di)
  (I:Fam X scope own capt fun Y=>DG Y tg is g) (l:∀i∈is,i<own.length) (G:Fam X scope own capt fun Y=>DTs Y ifs tt) (he:Fam X scope own capt fun Y=>DE Y elt te) (hs:Fsi X iter) :
  ∃ge,PE X (.ListComp elt [⟨tg,iter,ifs,0⟩] scope pos) ge/\(∀{i:Nat} {x:Str} {pos' v:Pos},X.N.Nodup->X.N[i]?=some x->Loc X.env.scope x->swapsWith (.ListComp elt [⟨tg,iter,ifs,0⟩] scope pos) (some (.Name x pos')) v.line X.env=pure true->(Fnl X x)->PS X (.Assign [.Name x pos'] (.ListComp elt [⟨tg,iter,ifs,0⟩] scope pos) v) (tAsg ge (QH i)))/\zsA X.K ge (dComp own.length capt di g tt te):=by
 obtain⟨ge,p,q,Z⟩:=znj (e:=.ListComp elt [⟨tg,iter,ifs,0⟩] scope pos) zsy zsu hc S ⟨zoY,⟨_,rfl⟩,fun _ _ _=>rfl,fun _=>⟨_,rfl⟩,fun _ _=>⟨_,rfl⟩⟩ zq7 hi I l G (zr9 he) (fun j J=>absurd J (by simp)) hs;exact⟨ge,p,q,fun C ρ σ H n Q R St hd hq=>Z C ρ σ H n Q R St hd fun u n' H' D r e h hD _ ⟨ys,U,rs⟩=>hq u n' D ys H' r e h hD U rs⟩
theorem zk3(hc:X.calm=true)(S:JD scope own capt X)(hi:DIL X tg iter di)
  (G:Fam X scope own capt fun Y=>DG Y tg is g) (l:∀i∈is,i<own.length) (v:Fam X scope own capt fun Y=>DTs Y ifs tt) (x:Fam X scope own capt fun Y=>DE Y elt te)
  (u:Fsi X iter:=by intro _;rfl):DN X (.ListComp elt [⟨tg,iter,ifs,0⟩] scope pos) (dComp own.length capt di g tt te):=by
 obtain⟨_,p,_,I⟩:=ziz hc S hi G l v x u;exact⟨_,p,I⟩
def DNA(X:Cx)(x:Str)(pos':Pos)(e:aO)(pos:Pos)(i:Nat)(d:DTA):Prop:=∃te,PS X (.Assign [.Name x pos'] e pos) (tAsg te (QH i))/\zsA X.K te d
theorem Vs{x:Str}{pos' G:Pos}{i:Nat}(R:X.N.Nodup)(u:X.N[i]?=some x)(hx:Loc X.env.scope x)(hc:X.calm=true)(S:JD scope own capt X)(hi:DIL X tg iter di)
  (J:Fam X scope own capt fun Y=>DG Y tg is g) (l:∀i∈is,i<own.length) (I:Fam X scope own capt fun Y=>DTs Y ifs tt) (he:Fam X scope own capt fun Y=>DE Y elt te)
  (Z:Fsi X iter:=by intro _;rfl) (v:swapsWith (.ListComp elt [⟨tg,iter,ifs,0⟩] scope pos) (some (.Name x pos')) G.line X.env=pure true:=by rfl)
  (hf:Fnl X x:=by walk_at "F") :
  DNA X x pos' (.ListComp elt [⟨tg,iter,ifs,0⟩] scope pos) G i (dComp own.length capt di g tt te):=by
 obtain⟨_,_,q,U⟩:=ziz hc S hi J l I he Z;exact⟨_,q R u hx v hf,U⟩
theorem Z9{x:Str}{pos' o:Pos}{e:aO}{i:Nat}{d:DTA}(h:DNA X x pos' e o i d):DS X (.Assign [.Name x pos'] e o) (sSet i (dNew d)):=by obtain⟨ta,pa,h⟩:=h;refine⟨_,pa,fun C L σ H n D Z S hd g=>?_⟩;refine h C L σ H n _ _ S hd fun ts R p Y J r e1 G I v U=>?_;exact g.nx _ _ J R r ((S.on e1 G).put (.lst v (S.free I|> fun z=>z) (U.mono (fun _ _ _ z=>.inl z) fun _ _ _ z=>z))) (e1.keep.trans UP)
end
def Z5(K:qF):Sp:=fun o H Q _=>∃(a:ah) (ns:List Int) (k:Int),o=[.ref a,.int k]/\SqL K H a (ns.map V.int)/\ns.length<=63/\0<=k/\k<=100 /\
 ∀hd l,H hd=none->YX l hd 0->Same H l->Q (.ref hd) l
def zsz(hd:ah)(H l:Hp):Prop:=∀b o,H b=some o->b≠hd->l b=some o
def znr:Sp:=fun l H Q _=>∃(hd:ah) (many n:Int),l=[.ref hd,.int many]/\YX H hd n/\n<=1000000000000/\0<many/\many<2 ^ 128 /\
 ∀(r:Int) H',0<=r->r<many->YX H' hd (n+1)->zsz hd H H'->Q (.int r) H'
def U1:GD:=fun ts n R=>match ts with
 | [h,.int many]=>h=HAND/\0<many/\many<2 ^ 128/\n<=1000000000000/\∀r:Int,0<=r->r<many->R (.int r) (n+1)
 | _=>False
theorem zlW{K:qF}(v:List V)(H:Hp)(Q:VK)(E:XK)(h:spD K 2 U1 v H Q E):znr v H Q E:=by
 obtain⟨hd,O,ts,n,R,r,I,dom,hx,hl,g,S⟩:=h;cases ts with
 | nil=>exact g.elim
 | cons C ts=>cases ts with
  | nil=>exact g.elim
  | cons t ts=>cases t with
   | int many=>cases ts with
    | nil =>
     obtain⟨rfl,m0,m1,G,g⟩:=g;cases r with
     | cons N r =>
      cases r with
      | cons Z r =>
       cases r;obtain⟨a,rfl,u⟩:=N.handI;rw[Z.intI];have U:YX H a n:=(I a u).elim (·.1) fun z=>by have:=z.1;omega
       refine⟨a,many,n,rfl,U,by omega,m0,m1,fun q Y J q1 C L=>?_⟩;refine S _ (n+1) _ Y (g q J q1) (fun b o hb nb=>L b o hb fun z=>nb (by rw[u,z])) (fun b x=>?_) (.int _);rw[u]at x;cases x;exact .inl ⟨C,by omega⟩
    | cons _ _=>exact g.elim
   | _=>exact g.elim
def scrD:Option (Option Cell)->Option (List ae)
 | some (some (.val (.dict [(.none,.list ts)])))=>some ts
 | _=>none
theorem zg6{z:Option (Option Cell)}{ts:qD}(h:scrD z=some ts):z=some (some (.val (.dict [(.none,.list ts)]))):=by unfold scrD at h;split at h;cases h;rfl;cases h
def zqb(z:Option (Option Cell))(R:List ae->Prop):Prop:=match scrD z with
 | some ts=>R ts
 | none=>False
def JH(u:En):En:=match scrD (u[(0:Nat)]?:Option (Option Cell)) with
 | some ts=>some (.val (.dict [(.none,.list ts)]))::bM (u.length - 1) none
 | none=>bM u.length none
def intOf:Option (Option Cell)->(Int->Prop)->Prop
 | some (some (.val (.int k))),R=>R k
 | _,_=>False
def UV(i j:Nat)(u:DTS):DTS:=fun D C n=>zqb C[0]? fun ts=>intOf C[j]? fun k=>(∃ns:List Int,ts=ns.map cI/\ns.length<=63)/\0<=k/\k<=100 /\
 u { nx:=fun x _=>D.nx (JH x) n,rt:=fun t _=>∃b,t=.bool b/\D.rt t n,bk:=fun x _=>D.bk (JH x) n,ct:=fun x _=>D.ct (JH x) n } (((JH C).set j (some (.val (.int k)))).set i (some (.val HAND))) 0
theorem UR(h:(JH ρ)[i]?=some (some c)):i=0/\ρ[0]?=some (some c)/\∃ts,c=.val (.dict [(.none,.list ts)]):=by
 unfold JH at h;split at h;rename_i ts e;replace e:=zg6 e;cases i with
 | zero=>simp at h;subst h;exact⟨rfl,e,ts,rfl⟩
 | succ i =>rw[dJ,dG]at h;split at h <;> cases h
 rw[dG]at h;split at h <;> cases h
theorem znc:(JH ρ).length=ρ.length:=by
 unfold JH;split;rename_i ts e;replace e:=zg6 e;cases ρ with
 | nil=>simp at e
 | cons a r=>simp
 simp
theorem zfA:¬OwnS (JH ρ) σ a:=fun⟨i,ds,m,h,_⟩=>by obtain⟨_,_,ts,e⟩:=UR h;subst e;cases m
theorem Rep.scrHd{K:qF}{hd I:Option ah}{O L:ah->Prop}{H J:Hp}{v:V}{ts:qD}(h:Rep K hd O H v (.dict [(.none,.list ts)]))(G:∀a o,H a=some o->¬O a->J a=some o/\¬L a):Rep K I L J v (.dict [(.none,.list ts)])/\∃ns:List Int,ts=ns.map cI:=by
 generalize e:(uF [(fL,lA ts)])=t at h;cases h with
 | @scr a ns x o =>
  have C:ts=ns.map cI:=by simpa[SCR] using e
  subst C;refine⟨?_,ns,rfl⟩;rcases x with x|⟨u,x⟩;exact .scr (.inl (G a _ x o).1) (G a _ x o).2;exact .scr (.inr ⟨u,(G a _ x o).1⟩) (G a _ x o).2
 | @scrS a ns x =>
  have C:ts=ns.map cI:=by simpa[SCR] using e
  subst C;exact⟨.scrS x,ns,rfl⟩
 | hand _=>simp[HAND]at e
 | dct _ _=>cases e
 | dcK _ _ _ C=>cases e;exact(Vr C).elim
 | dcT _ _ _ C=>cases e;exact(dict_noT C).elim
 | _=>cases e
theorem Stt.drop{K:qF}{C I:Ctx}{u:En}{σ:St}{H l:Hp}{n G:Nat}(S:Stt K I u σ H n)(J:Hn K C.hd l G)(N:∀a,C.ext a->MutO (l a))(hx:∀a,C.hd=some a->C.ext a)
  (x:∀a o,H a=some o->¬Own I u σ a->l a=some o/\¬C.ext a):Stt K C (JH u) σ l G where
 len:=by rw[znc];exact S.len
 val:=fun i d h=>by obtain⟨rfl,U,ts,Y⟩:=UR h;cases Y;obtain⟨v,L,R⟩:=S.val 0 _ U;exact⟨v,L,(R.scrHd fun a o ha no=>⟨(x a o ha no).1,fun z=>z.elim (x a o ha no).2 zfA⟩).1⟩
 own:=fun i ds h=>by obtain⟨_,_,ts,e⟩:=UR h;cases e
 dct:=fun i ds h=>by obtain⟨_,_,ts,e⟩:=UR h;cases e
 rdo:=fun i ds h=>by obtain⟨_,_,ts,e⟩:=UR h;cases e
 dtt:=fun i ds h=>by obtain⟨_,_,ts,e⟩:=UR h;cases e
 dif:=fun i j ds Z a m _ h=>by obtain⟨_,_,ts,e⟩:=UR h;subst e;cases m
 hnd:=J
 ext:=N
 hx:=hx
section
variable{X:Cx}{st:cN}{sts:List cN}{ps:List Str}{f:ah}{fd:cJ}{u:DTS}{x s kx hx:Str}{pos pos' p p1 p2 p3:Pos}{k:Nat}
theorem zm_{i j:Nat}(D:Bd.Def X.K X.mg hx st ps f fd)(G:FnOk X.prog X.w X.K X.mg X.base CX0 k f fd ps (Z5 X.K))(hr:Room k X.A)(hN:X.N.Nodup)(hi:X.N[i]?=some x)(hlx:Loc X.env.scope x)(hu:DSs X sts u)(hij:i≠0:=by decide)(hj0:j≠0:=by decide)(hji:j≠i:=by decide)
  (h0:X.N[0]?=some s:=by rfl) (hj:X.N[j]?=some kx:=by rfl) (hv0:Vis X.env.scope s:=by walk_at "V") (hvj:Vis X.env.scope kx:=by walk_at "V")
  (hd0:Ndb s:=by rfl) (HS:Ncd s:=by rfl) (hdj:Ndb kx:=by rfl) (HU:Ncd kx:=by rfl) (hg:Gl X hx:=by rfl) (hdb:Ndb hx:=by rfl)
  (hs:swapsWith (.Call (.Name hx p) [.Name s p1,.Name kx p2] [] p3) (some (.Name x pos')) pos.line X.env=pure false:=by rfl) (hf:Fnl X x:=by walk_at "F") :
  DSs X (.Assign [.Name x pos'] (.Call (.Name hx p) [.Name s p1,.Name kx p2] [] p3) pos::sts) (UV i j u):=by
 obtain⟨tu,pu,hu⟩:=hu;refine⟨_,J4 (QD hN hi hlx (Bd.zoy D G hr (JX (Qg h0 hv0 hd0 HS) (JX (Qg hj hvj hdj HU) Qo rfl) rfl) hg hdb) hs hf) pu,fun C ρ σ H n Dn D' S hd g=>?_⟩;unfold UV zqb at hd;split at hd;rename_i ts e0;replace e0:=zg6 e0;unfold intOf at hd;split at hd;rename_i U ej;obtain⟨⟨ns,rfl,hl⟩,k0,k1,hd⟩:=hd;obtain⟨v0,s0,r0⟩:=S.val 0 _ e0;obtain⟨vj,sj,rj⟩:=S.val j _ ej;obtain⟨a0,rfl,sq0⟩:=r0.scrI;rw[rj.intI]at sj;refine⟨_,s0,_,sj,?_⟩;refine⟨a0,ns,U,rfl,sq0,hl,k0,k1,fun h Z Y hok sm=>?_⟩;have S1:=S.on (Same.ext sm:ExtE C.hd H Z) (S.hnd.same sm);have nx:¬Own C ρ σ h:=fun z=>S.dom z Y;have Sd:Stt X.K ⟨some h,fun a=>C.ext a\/a=h⟩ (JH ρ) σ Z 0:=S.drop (fun a ea=>by cases ea;exact .inl ⟨hok,by decide⟩) (fun a z=>z.elim (fun z=>S1.ext a z) fun z=>by subst z;obtain⟨_,_,_,q,_⟩:=hok;exact .inl ⟨_,q⟩) (fun a ea=>.inr (by cases ea;rfl))
  (fun a o ha no=>⟨sm a o ha,fun z=>z.elim (fun z=>no (.inl z)) fun z=>by subst z;rw[Y]at ha;cases ha⟩)
 have Sd2:=(Sd.put (i:=j) (t:=.int U) (v:=.int U) (.int U)).put (i:=i) (t:=HAND) (v:=.ref h) (.hand rfl);have HV:∀a,¬OwnS (((JH ρ).set j (some (.val (.int U)))).set i (some (.val HAND))) ((σ.set j (some (.int U))).set i (some (.ref h))) a:=fun a z=>zfA (Zi (Zi z));have es:(σ.set j (some (V.int U)))=σ:=by
  apply mP;intro q;by_cases z:j=q;subst z;have:j<σ.length:=by rcases mO j σ.length with w|w;exact w;rw[cc w]at sj;cases sj
  rw[zjv this,sj];rw[bQ z]
 rw[es]at Sd2 HV;refine hu _ _ _ Z 0 _ _ Sd2 hd ?_;have back:∀{I σ' J n'},Stt X.K ⟨some h,fun a=>C.ext a\/a=h⟩ I σ' J n'->(∀a o,Z a=some o->some h≠some a->J a=some o)->Stt X.K C (JH I) σ' J n:=fun {I σ' J n'} S' kp =>
  S'.drop (fun a ea=>by
    rcases S.hnd a ea with⟨⟨d,m,t,q,rest⟩,l⟩|⟨l,q⟩;exact .inl ⟨⟨d,m,t,kp a _ (sm _ _ q) (fun z=>by cases z;rw[Y]at q;cases q),rest⟩,l⟩;exact .inr ⟨l,q.same fun b o e=>kp b _ (sm _ _ e) (fun z=>by cases z;rw[Y]at e;cases e)⟩)
   (fun a z=>by rcases S.ext a z with⟨xs,q⟩|⟨xs,q⟩|⟨b,q⟩;exact .inl ⟨xs,kp a _ (sm _ _ q) (fun z=>by cases z;rw[Y]at q;cases q)⟩;exact .inr (.inl ⟨xs,kp a _ (sm _ _ q) (fun z=>by cases z;rw[Y]at q;cases q)⟩);exact .inr (.inr ⟨b,kp a _ (sm _ _ q) (fun z=>by cases z;rw[Y]at q;cases q)⟩)) S.hx (fun a o ha no=>⟨ha,fun z=>no (.inl (.inl z))⟩)
 have R:∀{I σ' J},Keep ⟨some h,fun a=>C.ext a\/a=h⟩ (((JH ρ).set j (some (.val (.int U)))).set i (some (.val HAND))) (σ.set i (some (.ref h))) Z I σ' J->∀a o,Z a=some o->some h≠some a->J a=some o:=fun k a o ha na=>(k a o ha na (HV a)).1;have kp2:∀{I σ' J},Keep ⟨some h,fun a=>C.ext a\/a=h⟩ (((JH ρ).set j (some (.val (.int U)))).set i (some (.val HAND))) (σ.set i (some (.ref h))) Z I σ' J->Keep C ρ σ H (JH I) σ' J:=fun k a o ha _ _=>⟨R k a o (sm a o ha) (fun z=>by cases z;rw[Y]at ha;cases ha),zfA⟩;refine⟨fun I σ' J n' h' S' L=>g.nx _ _ J n h' (back S' (R L)) (kp2 L),fun t n' v J h' hn' L rp=>?_,fun I σ' J n' h' S' L=>g.bk _ _ J n h' (back S' (R L)) (kp2 L),fun I σ' J n' h' S' L=>g.ct _ _ J n h' (back S' (R L)) (kp2 L),fun _ _ _ h=>h.elim⟩;obtain⟨b,rfl,h'⟩:=h';rw[rp.blI];have kq:∀a o,H a=some o->J a=some o:=fun a o ha=>L a o (sm a o ha) (fun z=>by cases z;rw[Y]at ha;cases ha) (HV a);refine g.rt _ n _ J h' (fun a ea=>?_) (fun a o ha _ _=>kq a o ha) (.bl b);rcases S.hnd a ea with⟨⟨d,m,t,q,rest⟩,l⟩|⟨l,q⟩;exact .inl ⟨⟨d,m,t,kq a _ q,rest⟩,l⟩;exact .inr ⟨l,q.same kq⟩;exact hd.elim;exact hd.elim
end
def zoa(K:qF):Sp:=fun u H Q _=>∃(a:ah) (ns:List Int),u=[.ref a]/\SqL K H a (ns.map V.int)/\ns.length<=63/\∀o,Q (.bl true) o
def zsc:GD:=fun ts n R=>∃ns:List Int,ts=[SCR ns]/\ns.length<=63/\∀u,R (.bool true) u
theorem zoU{K:qF}(u:List V)(H:Hp)(Q:VK)(E:XK)(h:zoa K u H Q E):spD K 1 zsc u H Q E:=by obtain⟨a,ns,rfl,sq,G,q⟩:=h;refine⟨none,fun _=>False,[SCR ns],0,fun t _=>t=.bool true,.cons ?_ .nil,(fun a e=>by cases e),(fun a z=>z.elim),(fun a e=>by cases e),rfl,⟨ns,rfl,G,fun _=>rfl⟩,fun t J v I C _ _ x=>?_⟩;rcases sq with sq|sq;exact .scr sq (fun z=>z);exact .scrS fun _=>.inr sq;subst C;rw[x.blI];exact q I
section
variable{env:Env}{es:List aO}{a b:aO}{l1 l2:List aO}{p:Pos}{x:Str}
theorem Jm:starEach (.Name x p::es) env=(false,eval (.Name x p) env)::starEach es env:=rfl
theorem zjq{j}:starEach (.Constant (.int i) j p::es) env=(false,eval (.Constant (.int i) j p) env)::starEach es env:=rfl
theorem Vo{c d}:starEach (.Call a l1 c d::es) env=(false,eval (.Call a l1 c d) env)::starEach es env:=rfl
theorem znq{o}:starEach (.BinOp a o b p::es) env=(false,eval (.BinOp a o b p) env)::starEach es env:=rfl
theorem zp5{o}:starEach (.Compare a o l1 p::es) env=(false,eval (.Compare a o l1 p) env)::starEach es env:=rfl
theorem Q3{g s}:starEach (.ListComp a g s p::es) env=(false,eval (.ListComp a g s p) env)::starEach es env:=rfl
end
section
variable{X:Cx}{a b c e:aO}{da db dc:DTE}{pos p:Pos}{r r':R2}{g g':G2}
theorem Vt(ho:OpR X (compareOp op) r)(hg:Gp2 X r g)(U:OpR X (compareOp op') r')(hg':Gp2 X r' g')(ha:DL X a da)(hb:DL X b db)(hc:DL X c dc)
  (hm:lastMarks [op,op'] [b,c]=false:=by with_unfolding_all rfl):DT X (.Compare a [op,op'] [b,c] pos) (J5 (UZ g g' da db dc)):=by
 obtain⟨ta,pa,ha⟩:=ha;obtain⟨tb,pb,hb⟩:=hb;obtain⟨tc,pc,hc⟩:=hc;refine⟨_,zme ho U pa pb pc hm,fun C Z σ H n Q R S h hq=>?_⟩;refine two ha hb S h fun x y n2 v w H2 r2 e S2 q1 q2=>?_;refine hg C.hd (Own C Z σ) H2 v w x y _ _ (fun p=>S2.dom) q1 q2 r2 fun z u I l sm L=>?_;have N:=S2.on sm.ext (S2.hnd.same sm);cases z with
 | bool k =>
  cases L;refine⟨k,rfl,?_⟩;cases k with
  | false=>exact iteF ⟨false,rfl,hq _ n2 I l (e.trans sm.ext) N.hnd⟩
  | true =>
   refine iteT (hc C Z σ I n2 _ _ N l fun z2 n3 w2 H4 r4 J h4 q4=>?_);have S4:=N.on J h4;have Y:=J.repT S.hx ((Same.ext sm:ExtE C.hd H2 I).repT S.hx q2);refine hg' C.hd (Own C Z σ) H4 w w2 y z2 _ _ (fun p=>S4.dom) Y q4 r4 fun z u I l G L=>?_;cases z with
   | bool k=>cases L;exact⟨k,rfl,hq _ n3 I l (((e.trans sm.ext).trans J).trans G.ext) (S4.hnd.same G)⟩
   | _=>exact l.elim
 | _=>exact l.elim
end
section
variable{C:Int->Int->Prop}{f:Int->Int->Int}{fb:Int->Int->Bool}{i j k:Int}{R:ae->Prop}{Rb:Bool->Prop}{xs ys:qD}{s t:Str}{a b:Bool}{u v:ae}
theorem l_gI:gI C f (.int i) (.int j) R=(C i j/\R (.int (f i j))):=propext aV
theorem ZC:gI0 f (.int i) (.int j) R=R (.int (f i j)):=propext aV
theorem YI:oAdd (.int i) (.int j) R=R (.int (i+j)):=propext aV
theorem YJ:oAdd (.str s) (.str t) R=(s.length+t.length<=16777216/\R (.str (s++t))):=propext aV
theorem Yn:oEq (.int i) (.int j) R=R (.bool (decide (i=j))):=propext aV
theorem Ym:oEq (.bool a) (.bool b) R=R (.bool (decide (a=b))):=propext aV
theorem Yp:oEq (.str s) (.str t) R=R (.bool (decide (s=t))):=propext aV
theorem Yq:oEq (.tuple xs) (.tuple ys) R=(Okd (.tuple xs)/\Okd (.tuple ys)/\R (.bool (dh (.tuple xs) (.tuple ys)))):=propext aV
theorem Yo:oEq (.list xs) (.list ys) R=(Okd (.list xs)/\Okd (.list ys)/\R (.bool (dh (.list xs) (.list ys)))):=propext aV
theorem Yy:oNe (.int i) (.int j) R=R (.bool (!decide (i=j))):=propext aV
theorem Yx:oNe (.bool a) (.bool b) R=R (.bool (!decide (a=b))):=propext aV
theorem YA:oNe (.str s) (.str t) R=R (.bool (!decide (s=t))):=propext aV
theorem Yz:oNe (.list xs) (.list ys) R=(Okd (.list xs)/\Okd (.list ys)/\R (.bool (!PyData.eqv (.list xs) (.list ys)))):=propext aV
theorem Yr:oIs u .none R=R (.bool (isNone u)):=by cases u <;> exact propext aV
theorem Zg:YS u (.tuple xs) R=(Okd u/\(∀t∈xs,Okd t)/\R (.bool (!xs.any fun t=>t.eqv u))):=by cases u <;> exact propext aV
theorem Yu:oLtA (.int i) (.int j) R=R (.bool (decide (i<j))):=propext aV
theorem Ys:oLeA (.int i) (.int j) R=R (.bool (decide (i<=j))):=propext aV
theorem Yt:oLeA (.str s) (.str t) R=R (.bool (!decide (t.cps.toList<s.cps.toList))):=propext aV
theorem zrm(h:atI xs i=some x):oIx (.list xs) (.int i) R=R x:=by show(match atI xs i with|some t=>R t|none=>False)=_;rw[h]
theorem ZD(h:atI xs i=some x):oIx (.tuple xs) (.int i) R=R x:=by show(match atI xs i with|some t=>R t|none=>False)=_;rw[h]
theorem YM:oIx (.tuple (u::xs)) (.int 0) R=R u:=ZD (by unfold atI ixN;simp)
theorem YN:oIx (.tuple (u::v::xs)) (.int 1) R=R v:=ZD (by unfold atI ixN;simp;rw[if_pos (by omega)];rfl)
theorem YL:oIx (.list (u::xs)) (.int 0) R=R u:=zrm (by unfold atI ixN;simp)
theorem YO:truD (.bool a) Rb=Rb a:=propext aV
theorem YQ:truD (.int i) Rb=Rb (decide (i≠0)):=propext aV
theorem YE:bolD (.bool a) Rb=Rb a:=propext aV
theorem Yw:bMin [.int i,.int j] R=R (.int (if j<i then j else i)):=propext aV
theorem Yv:bMax [.int i,.int j] R=R (.int (if j > i then j else i)):=propext aV
theorem YK:bInt [.bool a] R=R (.int (if a then 1 else 0)):=propext aV
theorem YB:bStr [.int i] R=(i.natAbs<2 ^ 1920/\R (.str (toString i))):=propext aV
theorem Zh:ZV [.list xs] R=R (.tuple xs):=propext aV
theorem Zf:Qn (.tuple xs) Rl=Rl xs:=propext aV
theorem zrs(y:String)(h:y∈["NoneType","bool","int","str","list","tuple","dict"]):kitB y "int" = some (decide (y = "int")||decide (y = "bool")):=by simp only[aq,av,or_false]at h;rcases h with rfl|rfl|rfl|rfl|rfl|rfl|rfl <;> decide +kernel
theorem zoW(y:String)(h:y∈["NoneType","bool","int","str","list","tuple","dict"]):kitB y "bool" = some (decide (y = "bool")):=by simp only[aq,av,or_false]at h;rcases h with rfl|rfl|rfl|rfl|rfl|rfl|rfl <;> decide +kernel
theorem zmR(y:String)(h:y∈["NoneType","bool","int","str","list","tuple","dict"]):kitB y "tuple" = some (decide (y = "tuple")):=by simp only[aq,av,or_false]at h;rcases h with rfl|rfl|rfl|rfl|rfl|rfl|rfl <;> decide +kernel
theorem zrr(y:String)(h:y∈["NoneType","bool","int","str","list","tuple","dict"]):kitB y "str" = some (decide (y = "str")):=by simp only[aq,av,or_false]at h;rcases h with rfl|rfl|rfl|rfl|rfl|rfl|rfl <;> decide +kernel
def Pln(t:ae):Prop:=tyN t≠none
def isInt:ae->Bool|.int _=>true|.bool _=>true|_=>false
def isBool:ae->Bool|.bool _=>true|_=>false
def isTup:ae->Bool|.tuple _=>true|_=>false
def isStr:ae->Bool|.str _=>true|_=>false
variable{d:DTE}{ρ:En}{n:Nat}{Rn:qN}
theorem Za(h:tyN u=some y):y∈["NoneType","bool","int","str","list","tuple","dict"]:=by unfold tyN at h;split at h <;> cases h <;> simp
def isiD(f:ae->Bool)(d:DTE):DTE:=fun ρ n R=>d ρ n fun t n1=>Pln t/\R (.bool (f t)) n1
end
section
variable{X:Cx}{e:aO}{d:DTE}{p p2 pos:Pos}
theorem J8(hk:∀t y,tyN t=some y->kitB y T=some (f t))(I:X.mg "isinstance" = none) (o:X.mg y=none) (hT:bootBuiltins y=some (.type T)) (h:DL X e d) (Z:starEach (e::[.Name y p2]) X.env=(false,eval e X.env)::starEach [.Name y p2] X.env) (L:Gl X "isinstance":=by rfl) (u:Gl X y:=by rfl) (U:y ≠ "__name__":=by decide) (hd:Ndb y:=by rfl) :
  DE X (.Call (.Name "isinstance" p) [e,.Name y p2] [] pos) (isiD f d):=by
 obtain⟨ta,pa,h⟩:=h;refine⟨_,YH zlq I ziD (JX pa (zoC (Bd.zox o hT u U hd) Qo) Z) L,fun C G σ H n Q R S hd hq=>?_⟩;refine h C G σ H n _ _ S hd fun t n1 v J x e1 Y q1=>?_;cases et:tyN t with
 | none=>exact absurd et x.1
 | some z=>exact⟨v,C.hd,Own C G σ,t,T,z,f t,rfl,q1,et,hk t z et,hq _ n1 _ J x.2 e1 Y (.bl _)⟩
theorem zkO:∀t y,tyN t=some y->kitB y "int" = some (isInt t):=fun t y e=>by rw[zrs y (Za e)];unfold tyN at e;split at e <;> cases e <;> rfl
theorem Vc:∀t y,tyN t=some y->kitB y "bool" = some (isBool t):=fun t y e=>by rw[zoW y (Za e)];unfold tyN at e;split at e <;> cases e <;> rfl
theorem UO:∀t y,tyN t=some y->kitB y "tuple" = some (isTup t):=fun t y e=>by rw[zmR y (Za e)];unfold tyN at e;split at e <;> cases e <;> rfl
theorem znR:∀t y,tyN t=some y->kitB y "str" = some (isStr t):=fun t y e=>by rw[zrr y (Za e)];unfold tyN at e;split at e <;> cases e <;> rfl
theorem Q1:Pln (.int i):=by simp[Pln,tyN]
theorem Ud:Pln (.bool i):=by simp[Pln,tyN]
theorem Ug:Pln (.str i):=by simp[Pln,tyN]
theorem Uu:Pln (.tuple i):=by simp[Pln,tyN]
theorem Us:Pln (.list i):=by simp[Pln,tyN]
theorem Ut:Pln .none:=by simp[Pln,tyN]
theorem Uv:Pln (.dict []):=by simp[Pln,tyN]
end
abbrev blk(i h:Int):ae:=.tuple [.int i,.int h]
theorem U9:Okd (.tuple [.int i,.int h]):=⟨by simp[cn,bW],by simp[fc,cU]⟩
theorem zm6:dh (.tuple [.int i,.int h]) (.tuple [.int j,.int g])=(decide (i=j)&&decide (h=g)):=by simp only[dh,me,rh];rw[kX,kX]
def IsBk(bits i h:Int):Prop:=0<=h/\h<=bits/\∃k:Int,0<=k/\i=k*2 ^ h.toNat/\k<2 ^ (bits - h).toNat
theorem Vy(k:Nat):(0:Int)<2 ^ k:=Bd.Qp k
theorem zia:(2:Int) ^ (a+b)=2 ^ a*2 ^ b:=g6 2 a b
theorem IsBk.bounds(v:0<=bits)(H:IsBk bits i h):0<=i/\i+2 ^ h.toNat<=2 ^ bits.toNat:=by
 obtain⟨h0,x,k,l,rfl,u⟩:=H;have p:=Vy h.toNat;refine⟨Int.mul_nonneg l (cy p),?_⟩;have e:bits.toNat=(bits - h).toNat+h.toNat:=by lia
 rw[e,zia];have:(k+1)*2 ^ h.toNat<=2 ^ (bits - h).toNat*2 ^ h.toNat:=cz (by lia) (cy p);rw[eK,dB]at this;exact this
theorem zjQ(h:k<=64):(2:Int) ^ k<=18446744073709551616:=by have:=Bd.zdB h;simpa using this
theorem IsBk.lt(l:0<=bits)(o:bits<=64)(H:IsBk bits i h):0<=i/\i<18446744073709551616:=by obtain⟨a,b⟩:=H.bounds l;have:=zjQ (show bits.toNat<=64 by lia);have:=Vy h.toNat;lia
theorem cpow(h0:0<=j)(l:j<=1000000):CPow 1 j:=⟨h0,l,by decide⟩
section
variable{t u tb:DTS}{D:JO}{ρ ρ0:En}{n i j m:Nat}{d da db dc d1 d2:DTE}{ds di:DTA}{c c' tt:DTT}{g:G2}{g':G2}{gc:GC}{gd:GD}{tg:DTG}{tgs:DTGs}{R:qN}{Rb:Bool->Nat->Prop}{Rl:List ae->Nat->Prop}{Re:En->Prop}{x y:ae}{xs ys acc:qD}{f:Int->Int->Int}{fb:ae->Bool}{k:Bool}{capt:List Nat}{h:Option Cell}
theorem Z2:(sSeq t u D ρ n)=(t { D with nx:=u D } ρ n):=propext aV
theorem Z1:(sRet d D ρ n)=(d ρ n fun t l=>D.rt t l):=propext aV
theorem Z3:(sSet i d D ρ n)=(d ρ n fun t o=>D.nx (ρ.set i (some (.val t))) o):=propext aV
theorem u_dC:(dC x ρ n R)=(R x n):=propext aV
theorem ZK:(dOp g da db ρ n R)=(da ρ n fun x n1=>db ρ n1 fun y n2=>g x y fun z=>R z n2):=propext aV
theorem Z7:(dNew ds ρ n R)=(ds ρ n fun ts o=>R (.list ts) o):=propext aV
theorem ZY:(dTup ds ρ n R)=(ds ρ n fun ts n1=>R (.tuple ts) n1):=propext aV
theorem Z8:(dNil ρ n Rl)=(Rl [] n):=propext aV
theorem Vk:(JG d ds ρ n Rl)=(d ρ n fun t n1=>ds ρ n1 fun ts n2=>Rl (t::ts) n2):=propext aV
theorem ZJ:(dFn gd ds ρ n R)=(ds ρ n fun ts n1=>gd ts n1 R):=propext aV
theorem Vp:(YT gc ds ρ n R)=(ds ρ n fun ts n1=>gc ts fun z=>R z n1):=propext aV
def cVal:Option Cell->(ae->Prop)->Prop
 | some (.val d),R=>R d
 | _,_=>False
theorem ZS:cVal (some (.val x)) Q=Q x:=propext aV
theorem Z0:dVar i ρ n R=cVal (ρ.getD i none) fun d=>R d n:=by
 unfold dVar;rw[bg];cases e:ρ[i]? with
 | none=>exact propext aV
 | some o=>cases o with
  | none=>exact propext aV
  | some c=>cases c <;> exact propext aV
theorem Zc:J5 d ρ n Rb=(d ρ n fun t l=>bolD t fun b=>Rb b l):=by unfold J5;congr 1;funext t l;cases t <;> exact propext aV
def lCat:ae->ae->(List ae->Prop)->Prop
 | .list xs,.list ys,R=>xs.length+ys.length<=16777216/\R (xs++ys)
 | _,_,_=>False
theorem YZ:dCat da db ρ n Rl=(da ρ n fun x n1=>db ρ n1 fun y n2=>lCat x y fun zs=>Rl zs n2):=by unfold dCat;congr 1;funext x n1;congr 1;funext y n2;cases x <;> cases y <;> exact propext aV
def lLst:ae->(List ae->Prop)->Prop
 | .list xs,R=>R xs
 | _,_=>False
def lTup:ae->(List ae->Prop)->Prop
 | .tuple xs,R=>R xs
 | _,_=>False
theorem Y0:dItL d ρ n Rl=(d ρ n fun t l=>lLst t fun ts=>Rl ts l):=by unfold dItL;congr 1;funext t l;cases t <;> exact propext aV
theorem Y1:dItT d ρ n Rl=(d ρ n fun t l=>lTup t fun ts=>Rl ts l):=by unfold dItT;congr 1;funext t l;cases t <;> exact propext aV
def lInt:ae->(Int->Prop)->Prop
 | .int i,R=>R i
 | _,_=>False
theorem Zb:Yk d ρ n Rl=(d ρ n fun t l=>lInt t fun j=>(-(2 ^ 62)<=j/\j<2 ^ 62)/\Rl (QM 0 j.toNat) l):=by unfold Yk;congr 1;funext t l;cases t <;> exact propext aV
theorem Y2:dNeg d ρ n R=(d ρ n fun t l=>lInt t fun i=>R (.int (-i)) l):=by unfold dNeg;congr 1;funext t l;cases t <;> exact propext aV
theorem YG:sAug i f d D ρ n=cVal (ρ.getD i none) fun v=>lInt v fun q=>d ρ n fun t C=>lInt t fun k=>D.nx (ρ.set i (some (.val (.int (f q k))))) C:=by
 unfold sAug;rw[bg];cases e:ρ[i]? with
 | none=>exact propext aV
 | some o=>cases o with
  | none=>exact propext aV
  | some c=>cases c with
   | own _=>exact propext aV
   | dct _=>exact propext aV
   | dtt _=>exact propext aV
   | rdo _=>exact propext aV
   | val v=>cases v with
    | int q =>show(d ρ n fun t C=>_)=(d ρ n fun t C=>_);congr 1;funext t C;cases t <;> exact propext aV
    | _=>exact propext aV
theorem Zl:UZ g g' da db dc ρ n R=(da ρ n fun x n1=>db ρ n1 fun y n2=>g x y fun z=>bolD z fun b=>if b=true then dc ρ n2 fun w v=>g' y w fun z=>R z v else R (.bool false) n2):=by
 unfold UZ;congr 1;funext x n1;congr 1;funext y n2;congr 1;funext z;cases z with
 | bool b=>cases b <;> simp[bolD]
 | _=>exact propext aV
end
section
variable{t u tb:DTS}{D:JO}{ρ ρ0:En}{n i j m:Nat}{d da db dc d1 d2:DTE}{ds di:DTA}{c c' tt:DTT}{g:G2}{g':G2}{gc:GC}{gd:GD}{tg:DTG}{tgs:DTGs}{R:qN}{Rb:Bool->Nat->Prop}{Rl:List ae->Nat->Prop}{Re:En->Prop}{x y:ae}{xs ys acc:qD}{f:Int->Int->Int}{fb:ae->Bool}{k:Bool}{capt:List Nat}
theorem zrN(h:t { D with nx:=u D } ρ n):sSeq t u D ρ n:=h
theorem zo3(h:D.nx ρ n):ZM D ρ n:=h
theorem zrO(h:d ρ n fun t l=>D.rt t l):sRet d D ρ n:=h
theorem zuF(h:c ρ n fun b n1=>if b=true then t D ρ n1 else u D ρ n1):sIf c t u D ρ n:=h
theorem zrQ(h:d ρ n fun t o=>tg t ρ fun l=>D.nx l o):sAsg d tg D ρ n:=h
theorem zrP(h:di ρ n fun ts n1=>forP tg tb D ts ρ n1):sFor di tg tb D ρ n:=h
theorem zio(h:D.nx ρ n):forP tg tb D [] ρ n:=h
theorem zgF(h:tg x ρ fun l=>tb { D with nx:=forP tg tb D xs,ct:=forP tg tb D xs,bk:=D.nx } l n):forP tg tb D (x::xs) ρ n:=h
theorem i_dC(h:R x n):dC x ρ n R:=h
theorem zuI(h:da ρ n fun x n1=>db ρ n1 fun y n2=>g x y fun z=>R z n2):dOp g da db ρ n R:=h
theorem zr1(h:ds ρ n fun ts o=>R (.list ts) o):dNew ds ρ n R:=h
theorem zrW(h:ds ρ n fun ts n1=>R (.tuple ts) n1):dTup ds ρ n R:=h
theorem zr0(h:Rl [] n):dNil ρ n Rl:=h
theorem zo_(h:d ρ n fun t n1=>ds ρ n1 fun ts n2=>Rl (t::ts) n2):JG d ds ρ n Rl:=h
theorem zuJ(h:ds ρ n fun ts n1=>gd ts n1 R):dFn gd ds ρ n R:=h
theorem zr6(h:ds ρ n fun ts n1=>gd ts n1 fun t n2=>QQ t=true/\R t n2):dFnL gd ds ρ n R:=h
theorem zm2(h:ds ρ n fun ts n1=>gc ts fun z=>R z n1):YT gc ds ρ n R:=h
theorem zr8(h:c ρ n fun b n1=>if b=true then c' ρ n1 Rb else Rb false n1):dAnd c c' ρ n Rb:=h
theorem zuH(h:c ρ n fun b n1=>if b=true then Rb true n1 else c' ρ n1 Rb):dOr c c' ρ n Rb:=h
theorem zrZ(h:c ρ n fun b n1=>Rb (!b) n1):dNot c ρ n Rb:=h
theorem zpb(h:da ρ n fun t n1=>bolD t fun b=>if b=true then db ρ n1 R else R (.bool false) n1):zpy da db ρ n R:=h
theorem zrY(h:da ρ n fun t n1=>bolD t fun b=>if b=true then R (.bool true) n1 else db ρ n1 R):dOrV da db ρ n R:=h
theorem zo9(h:da ρ n fun t n1=>bolD t fun b=>R (.bool (!b)) n1):zpu da ρ n R:=h
theorem zr5(h:c ρ n fun b n1=>if b=true then da ρ n1 R else db ρ n1 R):dIfE c da db ρ n R:=h
theorem zrX(h:d ρ n fun t l=>truD t fun b=>Rb b l):dTru d ρ n Rb:=h
theorem zpa(h:di ρ n fun ts n1=>QJ tg tt d (JQ m capt ρ) ts [] n1 Rl):dComp m capt di tg tt d ρ n Rl:=h
theorem zrV(h:Rb true n):dYes ρ n Rb:=h
theorem zo1(h:tgs xs ρ Re):Qd tgs (.tuple xs) ρ Re:=h
theorem zo2(h:Re ρ):Qc [] ρ Re:=h
theorem zmZ(h:tg x ρ fun l=>tgs xs l Re):JB tg tgs (x::xs) ρ Re:=h
theorem zo5(h:d ρ n fun t l=>bolD t fun b=>Rb b l):J5 d ρ n Rb:=Zc.symm▸h
theorem zr7(h:da ρ n fun x n1=>db ρ n1 fun y n2=>lCat x y fun zs=>Rl zs n2):dCat da db ρ n Rl:=YZ.symm▸h
theorem zr4(h:d ρ n fun t l=>lLst t fun ts=>Rl ts l):dItL d ρ n Rl:=Y0.symm▸h
theorem zr3(h:d ρ n fun t l=>lTup t fun ts=>Rl ts l):dItT d ρ n Rl:=Y1.symm▸h
theorem zo7(h:d ρ n fun t l=>lInt t fun j=>(-(2 ^ 62)<=j/\j<2 ^ 62)/\Rl (QM 0 j.toNat) l):Yk d ρ n Rl:=Zb.symm▸h
theorem zr2(h:d ρ n fun t l=>lInt t fun i=>R (.int (-i)) l):dNeg d ρ n R:=Y2.symm▸h
theorem zm1(h:da ρ n fun x n1=>db ρ n1 fun y n2=>g x y fun z=>bolD z fun b=>if b=true then dc ρ n2 fun w v=>g' y w fun z=>R z v else R (.bool false) n2):UZ g g' da db dc ρ n R:=Zl.symm▸h
def lIsi(fb:ae->Bool)(t:ae)(R:ae->Prop):Prop:=Pln t/\R (.bool (fb t))
theorem zrT(h:d ρ n fun t n1=>lIsi fb t fun z=>R z n1):isiD fb d ρ n R:=h
theorem znP(e:ρ[i]?=some (some (.val x)))(h:R x n):dVar i ρ n R:=by unfold dVar;rw[e];exact h
theorem znQ(e:ρ[i]?=some (some (.own xs)))(h:R (.list xs) n):dOwn i ρ n R:=by unfold dOwn;rw[e];exact h
theorem ziq(e:ρ[i]?=some (some (.own xs)))(h:d ρ n fun t l=>xs.length<16777216/\D.nx (ρ.set i (some (.own (xs++[t])))) l):U7 i d D ρ n:=by unfold U7;rw[e];exact h
theorem zin(e:ρ[i]?=some (some (.own xs)))(h:t D (ρ.set i (some (.val (.list xs)))) n):Y6 i t D ρ n:=by unfold Y6;rw[e];exact h
theorem zuK(e:ρ[i]?=some (some (.val (.int q))))(h:d ρ n fun t o=>lInt t fun k=>D.nx (ρ.set i (some (.val (.int (f q k))))) o):sAug i f d D ρ n:=by rw[YG,bg,e];exact h
theorem zuG{A B:Prop}(o:b=true->A)(l:b=false->B):if b=true then A else B:=by cases b with|true=>exact iteT (o rfl)|false=>exact iteF (l rfl)
theorem zrS{p:Prop}[Decidable p]{A B:Prop}(o:p->A)(l:¬p->B):if decide p=true then A else B:=by by_cases h:p;rw[decide_eq_true h];exact iteT (o h);rw[decide_eq_false h];exact iteF (l h)
theorem zrR{A B:Prop}(h:if b=true then B else A):if (!b)=true then A else B:=by cases b with|true=>exact iteF h|false=>exact iteT h
end
section
variable{C:Int->Int->Prop}{f:Int->Int->Int}{fb:Int->Int->Bool}{i j k:Int}{R:ae->Prop}{Rb:Bool->Prop}{xs ys:qD}{s t:Str}{a b:Bool}{u v x y:ae}{Rn:qN}{n:Nat}
theorem zrF(h:R (.int (i+j))):oAdd (.int i) (.int j) R:=YI.symm▸h
theorem zrE(h:(s.length+t.length<=16777216/\R (.str (s++t)))):oAdd (.str s) (.str t) R:=YJ.symm▸h
theorem zuA(h:R (.bool (decide (i=j)))):oEq (.int i) (.int j) R:=Yn.symm▸h
theorem zuB(h:R (.bool (decide (a=b)))):oEq (.bool a) (.bool b) R:=Ym.symm▸h
theorem zuy(h:R (.bool (decide (s=t)))):oEq (.str s) (.str t) R:=Yp.symm▸h
theorem zux(h:(Okd (.tuple xs)/\Okd (.tuple ys)/\R (.bool (dh (.tuple xs) (.tuple ys))))):oEq (.tuple xs) (.tuple ys) R:=Yq.symm▸h
theorem zuz(h:(Okd (.list xs)/\Okd (.list ys)/\R (.bool (dh (.list xs) (.list ys))))):oEq (.list xs) (.list ys) R:=Yo.symm▸h
theorem zuk(h:R (.bool (!decide (i=j)))):oNe (.int i) (.int j) R:=Yy.symm▸h
theorem zul(h:R (.bool (!decide (a=b)))):oNe (.bool a) (.bool b) R:=Yx.symm▸h
theorem zui(h:R (.bool (!decide (s=t)))):oNe (.str s) (.str t) R:=YA.symm▸h
theorem zuj(h:(Okd (.list xs)/\Okd (.list ys)/\R (.bool (!PyData.eqv (.list xs) (.list ys))))):oNe (.list xs) (.list ys) R:=Yz.symm▸h
theorem zuv(h:R (.bool (isNone u))):oIs u .none R:=Yr.symm▸h
theorem zmT(h:(Okd u/\(∀t∈xs,Okd t)/\R (.bool (!xs.any fun t=>t.eqv u)))):YS u (.tuple xs) R:=Zg.symm▸h
theorem zuq(h:R (.bool (decide (i<j)))):oLtA (.int i) (.int j) R:=Yu.symm▸h
theorem zut(h:R (.bool (decide (i<=j)))):oLeA (.int i) (.int j) R:=Ys.symm▸h
theorem zus(h:R (.bool (!decide (t.cps.toList<s.cps.toList)))):oLeA (.str s) (.str t) R:=Yt.symm▸h
theorem zrA(h:R u):oIx (.tuple (u::xs)) (.int 0) R:=YM.symm▸h
theorem zrz(h:R v):oIx (.tuple (u::v::xs)) (.int 1) R:=YN.symm▸h
theorem zkF(h:R u):oIx (.list (u::xs)) (.int 0) R:=YL.symm▸h
theorem zru(h:Rb a):truD (.bool a) Rb:=YO.symm▸h
theorem zrt(h:Rb (decide (i≠0))):truD (.int i) Rb:=YQ.symm▸h
theorem zuD(h:Rb a):bolD (.bool a) Rb:=YE.symm▸h
theorem zry(h:R (.int xs.length)):bLen [.list xs] R:=.inl ⟨xs,rfl,h⟩
theorem zrw(h:R (.int xs.length)):bLen [.tuple xs] R:=.inr (.inl ⟨xs,rfl,h⟩)
theorem zrx(h:(s.length<=16777216/\R (.int s.length))):bLen [.str s] R:=.inr (.inr (.inl ⟨s,rfl,h⟩))
theorem zmU(h:R (.int ns.length)):bLen [SCR ns] R:=.inr (.inr (.inr ⟨_,rfl,by rw[aJ];exact h⟩))
theorem zuo(h:R (.int (if j<i then j else i))):bMin [.int i,.int j] R:=Yw.symm▸h
theorem zup(h:R (.int (if j > i then j else i))):bMax [.int i,.int j] R:=Yv.symm▸h
theorem zrC(h:R (.int (if a then 1 else 0))):bInt [.bool a] R:=YK.symm▸h
theorem zuf(h:(i.natAbs<2 ^ 1920/\R (.str (toString i)))):bStr [.int i] R:=YB.symm▸h
theorem zmS(h:R (.tuple xs)):ZV [.list xs] R:=Zh.symm▸h
theorem zmV(h:Rl xs):Qn (.tuple xs) Rl:=Zf.symm▸h
theorem zuC(h:(xs.length+ys.length<=16777216/\Q (xs++ys))):lCat (.list xs) (.list ys) Q:=h
theorem zur(h:Q xs):lLst (.list xs) Q:=h
theorem zud(h:Q xs):lTup (.tuple xs) Q:=h
theorem zuw(h:Q i):lInt (.int i) Q:=h
theorem zum(c:CMul i j)(h:R (.int (i*j))):oMul (.int i) (.int j) R:=⟨c,h⟩
theorem zun(c:0<j)(h:R (.int (i % j))):oMod (.int i) (.int j) R:=⟨c,h⟩
theorem zrD(c:Yl i j)(h:R (.int (i / j))):Ux (.int i) (.int j) R:=⟨c,h⟩
theorem zuh(c:CPow i j)(h:R (.int (i*2 ^ j.toNat))):oShl (.int i) (.int j) R:=⟨c,h⟩
theorem zug(c:0<=j)(h:R (.int (i / 2 ^ j.toNat))):oShr (.int i) (.int j) R:=⟨c,h⟩
theorem zue(h:R (.int (i - j))):oSub (.int i) (.int j) R:=h
theorem zuc(h:R (.int (eR i j))):oXor (.int i) (.int j) R:=h
theorem zuE(h:R (.int (fJ i j))):oAnd (.int i) (.int j) R:=h
theorem j_gB(h:R (.bool (fb i j))):gB fb (.int i) (.int j) R:=h
theorem zhy(h:R (.bool true)):lIsi isInt (.int i) R:=⟨Q1,h⟩
theorem zgC(h:R (.bool true)):lIsi isInt (.bool a) R:=⟨Ud,h⟩
theorem zhx(h:R (.bool false)):lIsi isInt (.str s) R:=⟨Ug,h⟩
theorem zfr(h:R (.bool false)):lIsi isInt (.tuple xs) R:=⟨Uu,h⟩
theorem zgA(h:R (.bool false)):lIsi isInt (.list xs) R:=⟨Us,h⟩
theorem zgz(h:R (.bool false)):lIsi isInt (.none) R:=⟨Ut,h⟩
theorem zgB(h:R (.bool false)):lIsi isInt (.dict []) R:=⟨Uv,h⟩
theorem zgD(h:R (.bool false)):lIsi isBool (.int i) R:=⟨Q1,h⟩
theorem zfs(h:R (.bool true)):lIsi isBool (.bool a) R:=⟨Ud,h⟩
theorem zhu(h:R (.bool false)):lIsi isTup (.int i) R:=⟨Q1,h⟩
theorem zgu(h:R (.bool false)):lIsi isTup (.bool a) R:=⟨Ud,h⟩
theorem zht(h:R (.bool false)):lIsi isTup (.str s) R:=⟨Ug,h⟩
theorem zfp(h:R (.bool true)):lIsi isTup (.tuple xs) R:=⟨Uu,h⟩
theorem zgs(h:R (.bool false)):lIsi isTup (.list xs) R:=⟨Us,h⟩
theorem zgr(h:R (.bool false)):lIsi isTup (.none) R:=⟨Ut,h⟩
theorem zgt(h:R (.bool false)):lIsi isTup (.dict []) R:=⟨Uv,h⟩
theorem zhw(h:R (.bool false)):lIsi isStr (.int i) R:=⟨Q1,h⟩
theorem zgy(h:R (.bool false)):lIsi isStr (.bool a) R:=⟨Ud,h⟩
theorem zhv(h:R (.bool true)):lIsi isStr (.str s) R:=⟨Ug,h⟩
theorem zfq(h:R (.bool false)):lIsi isStr (.tuple xs) R:=⟨Uu,h⟩
theorem zgw(h:R (.bool false)):lIsi isStr (.list xs) R:=⟨Us,h⟩
theorem zgv(h:R (.bool false)):lIsi isStr (.none) R:=⟨Ut,h⟩
theorem zgx(h:R (.bool false)):lIsi isStr (.dict []) R:=⟨Uv,h⟩
end
theorem zop{h:Int}(h0:0<h):(2:Int) ^ h.toNat=2*2 ^ (h - 1).toNat:=by
 have e:h.toNat=(h - 1).toNat+1:=by lia
 rw[e,fe,dw]
theorem zqy{h:Int}(h0:0<=h):(2:Int) ^ (h+1).toNat=2*2 ^ h.toNat:=by have:=zop (h:=h+1) (by lia);rw[this];simp
theorem IsBk.low{bits i h:Int}(B:IsBk bits i h)(l:0<h):IsBk bits i (h - 1):=by
 obtain⟨h0,x,k,v,rfl,u⟩:=B;refine⟨by lia,by lia,2*k,by lia,?_,?_⟩;rw[zop l,<- eO,dw k 2];have e:(bits - (h - 1)).toNat=(bits - h).toNat+1:=by lia
 rw[e,fe];lia
theorem IsBk.up{bits i h:Int}(B:IsBk bits i h)(l:0<h):IsBk bits (i+2 ^ h.toNat / 2) (h - 1):=by
 obtain⟨h0,x,k,v,rfl,u⟩:=B;refine⟨by lia,by lia,2*k+1,by lia,?_,?_⟩;rw[zop l];have:2*(2:Int) ^ (h - 1).toNat / 2=2 ^ (h - 1).toNat:=by lia
 rw[this,eK,dB,<- eO,dw k 2];have e:(bits - (h - 1)).toNat=(bits - h).toNat+1:=by lia
 rw[e,fe];lia
theorem zmB(P:Int)(l:0<P):k*P % (2*P)=(k % 2)*P:=by rw[dw 2 P,dw k P,Int.mul_emod_mul_of_pos _ _ l,dw]
theorem IsBk.abt{bits i h:Int}(B:IsBk bits i h)(v:h<bits):IsBk bits (i - i % (2*2 ^ h.toNat)) (h+1):=by
 obtain⟨h0,x,k,u,rfl,l⟩:=B;refine⟨by lia,by lia,k / 2,by lia,?_,?_⟩;rw[zmB _ (Vy _),zqy h0,<- uG];have:k - k % 2=k / 2*2:=by lia
 rw[this,eO];have e:(bits - h).toNat=(bits - (h+1)).toNat+1:=by lia
 rw[e,fe]at l;lia
theorem IsBk.oth(B:IsBk bits i h)(x:h<bits):IsBk bits (eR i (2 ^ h.toNat)) h:=by
 obtain⟨h0,l,k,v,rfl,u⟩:=B;rw[zlR _ v];have e:(bits - h).toNat=(bits - (h+1)).toNat+1:=by lia
 split;refine⟨h0,l,k+1,by lia,by rw[eK,dB],?_⟩;rw[e,fe]at u ⊢;lia;refine⟨h0,l,k - 1,by lia,by rw[uG,dB],by lia⟩
theorem IsBk.nxt(B:IsBk bits i h)(l:i+2*2 ^ h.toNat<=2 ^ bits.toNat):IsBk bits (i+2 ^ h.toNat) h:=by
 obtain⟨h0,u,k,x,rfl,v⟩:=B;refine⟨h0,u,k+1,by lia,by rw[eK,dB],?_⟩;have e:bits.toNat=(bits - h).toNat+h.toNat:=by lia
 rw[e,zia]at l;have p:=Vy h.toNat;have:(k+2)*2 ^ h.toNat<=2 ^ (bits - h).toNat*2 ^ h.toNat:=by rw[eK];exact l
 have:=Int.le_of_mul_le_mul_right this p;lia
theorem zuV:CMul 2 j:=.inl ⟨by decide,by decide⟩
theorem zuW:Yl j 2:=⟨by decide,by decide⟩
theorem Uc(h:Nat):(1:Int)*2 ^ h=2 ^ h:=dB _
def BlkN(bits i:Int)(h:Nat):Prop:=(h:Int)<=bits/\∃k:Int,0<=k/\i=k*2 ^ h/\k<2 ^ (bits.toNat - h)
theorem IsBk.n(B:IsBk bits i h):BlkN bits i h.toNat:=by
 obtain⟨h0,v,k,u,e,l⟩:=B;refine⟨by lia,k,u,e,?_⟩;have:(bits - h).toNat=bits.toNat - h.toNat:=by lia
 rw[<- this];exact l
theorem zlu(b:BlkN bits j g)(l:g<=h):j / 2 ^ h*2 ^ h<=j/\j+2 ^ g<=(j / 2 ^ h+1)*2 ^ h:=by
 obtain⟨_,m,m0,rfl,_⟩:=b;have x:=Bd.Qp h;have u:=Bd.Qp g;have v:=Bd.Qp (h - g);have o:(2:Int) ^ h=2 ^ (h - g)*2 ^ g:=by rw[<- g6];congr 1;lia
 refine⟨Int.ediv_mul_le _ (by lia),?_⟩;have eq:(m*2 ^ g) / 2 ^ h=m / 2 ^ (h - g):=by rw[o];exact Int.mul_ediv_mul_of_pos_left m _ u
 rw[eq,o,<- eO];have e1:m*2 ^ g+2 ^ g=(m+1)*2 ^ g:=by rw[eK,dB]
 rw[e1];refine cz ?_ (by lia);have:=Int.lt_ediv_add_one_mul_self m v;lia
theorem zii{a b A:Int}(p:0<A)(l:a<b):(a+1)*A<=b*A:=cz (by lia) (by lia)
theorem zkM(v:BlkN bits i h)(x:BlkN bits j g):(g<=h/\j / 2 ^ h*2 ^ h=i)↔(i<=j/\j+2 ^ g<=i+2 ^ h):=by
 have o:=Bd.Qp h;have C:=Bd.Qp g;constructor;rintro⟨l,e⟩;have t:=zlu x l;rw[e,eK,dB,e]at t;exact t;rintro⟨l1,l2⟩;have l:g<=h:=by
  by_cases z:g<=h;exact z;exfalso;have:(2:Int) ^ h<2 ^ g:=by
   have e:(2:Int) ^ g=2 ^ (g - h)*2 ^ h:=by rw[<- g6];congr 1;lia
   have u:(2:Int)<=2 ^ (g - h):=by obtain⟨d,hd⟩:∃d,g - h=d+1:=⟨g - h - 1,by lia⟩;rw[hd,fe];have:=Bd.Qp d;lia
   rw[e];have:=cz u (show(0:Int)<=2 ^ h by lia);lia
  lia
 refine⟨l,?_⟩;obtain⟨_,k,G,rfl,_⟩:=v;have e:j / 2 ^ h=k:=by have a1:k<=j / 2 ^ h:=(Int.le_ediv_iff_mul_le o).mpr l1;have a2:j / 2 ^ h<k+1:=(Int.ediv_lt_iff_lt_mul o).mpr (by rw[eK,dB];lia);lia
 rw[e]
theorem zgX{bits i j:Int}{h g:Nat}(u:BlkN bits i h)(v:BlkN bits j g)(l:g<=h):(g<=h/\j / 2 ^ h*2 ^ h=i)\/j+2 ^ g<=i\/i+2 ^ h<=j:=by have o:=Bd.Qp h;have t:=zlu v l;obtain⟨_,k,x,rfl,_⟩:=u;rcases Int.lt_trichotomy (j / 2 ^ h) k with z|z|z;have:=zii o z;exact .inr (.inl (by lia));exact .inl ⟨l,by rw[z]⟩;have:=zii o z;rw[eK,dB]at this;exact .inr (.inr (by lia))
theorem zlw(o:BlkN bits i h)(u:BlkN bits j g):(¬(g<=h/\j / 2 ^ h*2 ^ h=i)/\¬(h<=g/\i / 2 ^ g*2 ^ g=j))↔(j+2 ^ g<=i\/i+2 ^ h<=j):=by have x:=Bd.Qp h;have v:=Bd.Qp g;have a:=zkM o u;have b:=zkM u o;constructor;rintro⟨n1,n2⟩;rcases Nat.le_total g h with l|l;rcases zgX o u l with z|z;exact absurd z n1;exact z;rcases zgX u o l with z|z|z;exact absurd z n2;exact .inr z;exact .inl z;intro z;refine⟨fun y=>?_,fun y=>?_⟩;have:=a.mp y;omega;have:=b.mp y;omega
def hldD(i h j g:Int):Bool:=decide (g<=h)&&decide (j / 2 ^ h.toNat*2 ^ h.toNat=i)
theorem zsv(A:IsBk bits i h)(B:IsBk bits j g):(!hldD i h j g&&!hldD j g i h)=decide (j+2 ^ g.toNat<=i\/i+2 ^ h.toNat<=j):=by
 have a:=zlw A.n B.n;have h0:=A.1;have l:=B.1;have e1:hldD i h j g=decide (g.toNat<=h.toNat/\j / 2 ^ h.toNat*2 ^ h.toNat=i):=by unfold hldD;rw[<- kT];exact decide_eq_decide.mpr ⟨fun z=>⟨by omega,z.2⟩,fun z=>⟨by omega,z.2⟩⟩
 have e2:hldD j g i h=decide (h.toNat<=g.toNat/\i / 2 ^ g.toNat*2 ^ g.toNat=j):=by unfold hldD;rw[<- kT];exact decide_eq_decide.mpr ⟨fun z=>⟨by omega,z.2⟩,fun z=>⟨by omega,z.2⟩⟩
 rw[e1,e2,<- decide_not,<- decide_not,<- kT];exact decide_eq_decide.mpr a
theorem zkT(Inv:Nat->En->Nat->Prop):∀(ts:qD) (i:Nat) {o:En}{n:Nat},Inv i o n ->
  (∀(k:Nat) (t:ae) (o:En) (n:Nat) (K:En->Nat->Prop),ts[k]?=some t->Inv (i+k) o n->(∀v x,Inv (i+k+1) v x->K v x)->g t o fun v=>tb { D with nx:=K,ct:=K,bk:=D.nx } v n) ->
  (∀o n,Inv (i+ts.length) o n->D.nx o n)->forP g tb D ts o n
 | [],i,o,n,h0,_,fin=>fin o n (by simpa using h0)
 | t::ts,i,o,n,h0,turn,fin=>by
  refine turn 0 t o n _ rfl (by simpa using h0) fun v x h'=>?_;refine zkT Inv ts (i+1) (by simpa using h') (fun k u o n K e C G=>?_) (fun o n h=>fin o n ?_);refine turn (k+1) u o n K (by simpa using e) ?_ fun v x h'=>G v x ?_;have:i+(k+1)=i+1+k:=by lia
  rw[this];exact C;have:i+1+k+1=i+(k+1)+1:=by lia
  rw[this];exact h';have:i+(t::ts).length=i+1+ts.length:=by simp;lia
  rw[this]at *;exact h
theorem Zn(Inv:Nat->En->Nat->Prop)(h0:Inv 0 o n)
  (turn:∀(k:Nat) (t:ae) (o:En) (n:Nat) (K:En->Nat->Prop),ts[k]?=some t->Inv k o n->(∀l u,Inv (k+1) l u->K l u)->g t o fun l=>tb { D with nx:=K,ct:=K,bk:=D.nx } l n)
  (fin:∀o n,Inv ts.length o n->D.nx o n):forP g tb D ts o n:=by
 refine zkT Inv ts 0 h0 (fun k t o n K e v x=>turn k t o n K e (by simpa using v) fun l u h'=>x l u (by simpa using h')) fun o n h=>fin o n (by simpa using h)
theorem zeF{lo:Int}{m i:Nat}{t:ae}(h:(QM lo m)[i]?=some t):i<m/\t=.int (lo+(i:Int)):=by unfold QM at h;rw[aU]at h;by_cases hi:i<m;rw[ig hi]at h;cases h;exact⟨hi,rfl⟩;rw[cc (by simp;lia)]at h;cases h
theorem zjg(Inv:Nat->En->Nat->Prop)(h0:Inv m o n)
  (turn:∀m o n,Inv m o n->c o n fun b n1=>if b=true then tb { D with nx:=fun l v=>∃u,u<m/\Inv u l v,ct:=fun l v=>∃u,u<m/\Inv u l v,bk:=D.nx } o n1 else D.nx o n1):zjD c tb D o n :=
 ⟨Inv,⟨m,h0⟩,turn⟩
theorem zo4(C:ρ[0]?=some (some (.val (SCR ns))))(L:ρ[j]?=some (some (.val (.int k))))(I:ns.length<=63)(J:0<=k)(G:k<=100)(ed:JH ρ=ρd)
  (h:u { nx:=fun x _=>D.nx (JH x) n,rt:=fun t _=>∃b,t=.bool b/\D.rt t n,bk:=fun x _=>D.bk (JH x) n,ct:=fun x _=>D.ct (JH x) n } ((ρd.set j (some (.val (.int k)))).set i (some (.val HAND))) 0):UV i j u D ρ n:=by
 subst ed;unfold UV;rw[C,L];exact⟨⟨ns,rfl,I⟩,J,G,h⟩
def rkAt(rk:af->Int)(xs:Array br)(i:Nat):Int:=((xs[i]?).map fun p=>rk p.1).getD 0
theorem UK(h:xs[i]?=ys[j]?):rkAt rk xs i=rkAt rk ys j:=by unfold rkAt;rw[h]
theorem zqp(v:u<xs.size)(hd:d<=u)(k:Nat) :
  (k=u - d->rkAt rk (bubble xs u d) k=rkAt rk xs u)/\(u - d<k->k<=u->rkAt rk (bubble xs u d) k=rkAt rk xs (k - 1))/\(k<u - d\/u<k->rkAt rk (bubble xs u d) k=rkAt rk xs k):=by
 have e:=getElem?_bubble v d hd k;refine⟨fun h=>?_,fun o l=>?_,fun h=>?_⟩;rw[if_pos h]at e;exact UK e;rw[if_neg (by lia),if_pos ⟨o,l⟩]at e;exact UK e;rw[if_neg (by lia),if_neg (by lia)]at e;exact UK e
theorem Z4(l:j<=xs.size)(k:Nat) :
  (i<=k->k<j->rkAt rk (mirror xs i j ((j - i) / 2)) k=rkAt rk xs (i+j - 1 - k))/\(k<i\/j<=k->rkAt rk (mirror xs i j ((j - i) / 2)) k=rkAt rk xs k):=by
 have e:=getElem?_mirror_all (i:=i) l k;refine⟨fun u o=>?_,fun h=>?_⟩;rw[if_pos ⟨u,o⟩]at e;exact UK e;rw[if_neg (by lia)]at e;exact UK e
structure Sb(kd:dY)(a0:Array br)(z:aS):Prop where
 pm:(arrOf z).Perm a0
 kn:kindOf z=kd
 fl:failedOf z=none
 pe:pendingOf z=#[]
def Up(rk:af->Int)(xs:Array br)(m:Nat):Prop:=∀i j,i<j->j<m->rkAt rk xs i<=rkAt rk xs j
section
variable{prog:aI}{w:aT}{A:bu}{E:qV}{s:ak}{kd:dY}{rk:af->Int}{a0:Array br}
def Cmp(prog:aI)(w:aT)(A:bu)(s:ak)(kd:dY)(rk:af->Int)(a0:Array br):Prop :=
 ∀(p q:br) (E:qV) (Q:Bool->ak->Prop),p∈a0.toList->q∈a0.toList->Q (decide (rk p.1<rk q.1)) s->wpAny (model prog w) A (keyLt' kd p.1 q.1) Q E s
theorem Sb.sz(b:Sb kd a0 z):(arrOf z).size=a0.size:=b.pm.size_eq
end
section
variable{prog:aI}{w:aT}{A:bu}{E:qV}{s:ak}{kd:dY}{rk:af->Int}{a0:Array br}
theorem zmC(l:j<=xs.size)(al:∀k,i<=k->k<j->rkAt rk xs k=rkAt rk xs (j - 1))(k:Nat):rkAt rk (mirror xs i j ((j - i) / 2)) k=rkAt rk xs k:=by obtain⟨p,q⟩:=Z4 (rk:=rk) (i:=i) l k;by_cases g:i<=k/\k<j;rw[p g.1 g.2,al _ (by omega) (by omega),al k g.1 g.2];exact q (by omega)
end
def zhC:Bool->br->Array br->Nat->Nat->Nat->StateT aS Sem (Option Nat):=sortPriv% PySem.Builtin.gallop
section
variable{M:rH}{A:bu}{E:qV}{s:ak}{σ α β ρ:Type}{Q:α->σ->Prop}{z:σ}
theorem Jf{c:Prop}{_:Decidable c}{t e:StateT σ Sem α}(o:c->wpS M A E s t Q z)(l:¬c->wpS M A E s e Q z):wpS M A E s (if c then t else e) Q z:=by by_cases h:c;rw[if_pos h];exact o h;rw[if_neg h];exact l h
inductive Tn (I G:β->σ->Prop)(P:ρ->σ->Prop):ForInStep (Option ρ×β)->σ->Prop
 | go:I b y->Tn I G P (.yield (none,b)) y
 | stop:G b y->Tn I G P (.done (none,b)) y
 | ret:P r y->Tn I G P (.done (some r,b)) y
theorem Qb{a n:Nat}{f:Nat->Option ρ×β->StateT σ Sem (ForInStep (Option ρ×β))}{F:Option ρ×β->StateT σ Sem α}{b:β}(an:a<=n)(I:Nat->β->σ->Prop)(G:β->σ->Prop)(P:ρ->σ->Prop)(h:I a b z)
  (turn:∀x,a<=x->x<n->∀b y,I x b y->wpS M A E s (f x (none,b)) (Tn (I (x+1)) G P) y) (last:∀b y,I n b y->G b y)
  (post:∀b y,G b y->wpS M A E s (F (none,b)) Q y) (ret:∀r b y,P r y->wpS M A E s (F (some r,b)) Q y):wpS M A E s (forIn [a:n] (none,b) f >>= F) Q z:=by
 refine bq (wpS_mono (wpS_forRange (I:=fun x c y=>c.1=none/\I x c.2 y) (Q:=fun c y=>(c.1=none/\G c.2 y)\/∃r,c.1=some r/\P r y) ?_ ?_ ⟨rfl,h⟩) ?_);rintro x ⟨_,b⟩ y ha hx ⟨rfl,o⟩;refine wpS_mono (turn x ha hx b y o) ?_;rintro _ _ (h|h|h);exact⟨rfl,h⟩;exact .inl ⟨rfl,h⟩;exact .inr ⟨_,rfl,h⟩;rintro⟨_,b⟩ y ⟨e,h⟩;rw[Nat.max_eq_right an]at h;exact .inl ⟨e,last b y h⟩;rintro⟨_,b⟩ y (⟨rfl,h⟩|⟨r,rfl,h⟩);exact post b y h;exact ret r b y h
end
theorem zpc{l r:Nat}(g:l<r):l<=l+(r - l) / 2/\l+(r - l) / 2<r:=⟨bL _ _,by lia⟩
theorem stp1{l r m n x:Nat}(h:r - l<=n - x)(o:l<=m)(hx:x<n):r - (m+1)<=n - (x+1):=by omega
theorem stp2{l r m n x:Nat}(h:r - l<=n - x)(o:m<r)(hx:x<n):m - l<=n - (x+1):=by omega
theorem stp0{l r n:Nat}(h:r - l<=n - n):r<=l:=gN (Nat.le_zero.mp (gD n▸h))
theorem dbl{x r:Nat}(h:x<r):x+1<2*r+1:=ng (au h (kM r (by decide)))
theorem dbl0{r:Nat}:r<2*r+1:=Nat.lt_succ_of_le (kM r (by decide))
theorem inn{h r n:Nat}(l:h<n)(g:¬r>=n - h):h+r<n:=by lia
structure Srch(B:Nat->Bool)(n l r:Nat):Prop where
 lr:l<=r
 rn:r<=n
 lo:∀i,i<l->B i=true
 hi:∀i,r<=i->i<n->B i=false
section
variable{B:Nat->Bool}{n l r m h:Nat}
theorem Srch.fin(x:Srch B n l r)(g:r<=l):Srch B n r r:=gk x.lr g▸x
theorem Srch.fin2(x:Srch B n l r)(g:r<=l):Srch B n l l:=by cases gk x.lr g;exact x
def Fal(B:Nat->Bool)(n:Nat):Prop:=∀i j,i<=j->j<n->B j=true->B i=true
theorem Fal.no(f:Fal B n){i j:Nat}(e:B i=false)(u:i<=j)(o:j<n):B j=false:=by
 cases g:B j with
 | false=>rfl
 | true=>exact(f i j u o g).symm.trans e
theorem Srch.up(x:Srch B n l r)(f:Fal B n)(o:m<r)(e:B m=true):Srch B n (m+1) r:=⟨o,x.rn,fun i hi=>f i m (gE hi) (au o x.rn) e,x.hi⟩
theorem Srch.dn(x:Srch B n l r)(f:Fal B n)(u:l<=m)(o:m<r)(e:B m=false):Srch B n l m:=⟨u,aH (cO o) x.rn,x.lo,fun i=>f.no e⟩
theorem Srch.fwd(f:Fal B n)(x:l<r)(u:h+l<n)(e:B (h+l)=true)(g:n - h<=r\/(h+r<n/\B (h+r)=false)):Srch B n (h+l+1) (h+min r (n - h)):=by refine⟨by omega,by omega,fun i hi=>f i _ (by omega) u e,fun i v o=>?_⟩;rcases g with g|⟨_,g⟩;lia;exact f.no g (by lia) o
theorem Srch.bwd(f:Fal B n)(v:h<n)(u:l<r)(o:l<=h)(e:B (h - l)=false)(g:h+1<=r\/(r<=h/\B (h - r)=true)):Srch B n (h+1 - min r (h+1)) (h - l):=by refine⟨by omega,by omega,fun i hi=>?_,fun i=>f.no e⟩;rcases g with g|⟨_,g⟩;omega;exact f i _ (by omega) (by omega) g
end
section
variable{prog:aI}{w:aT}{A:bu}{E:qV}{s:ak}{kd:dY}{rk:af->Int}{a0:Array br}{β:Type}{Q:β->aS->Prop}{z:aS}
theorem ZF{Q:Option Bool->aS->Prop}(c:Cmp prog w A s kd rk a0)(k:kindOf z=kd)(o:p∈a0.toList)(l:q∈a0.toList)
  (h:Q (some (decide (rk p.1<rk q.1))) z):wpS (model prog w) A E s (lt' p q) Q z:=by
 rw[lt'_eq];refine bq (iw (bq (ku (mf ?_))));rw[k];exact c p q _ _ o l ⟨rfl,aE h⟩
theorem JL{x:Array br}{i:Nat}{f:br->StateT aS Sem β}(hi:i<x.size)(m:∀p∈x.toList,p∈a0.toList)(h:∀p,x[i]?=some p->p∈a0.toList->rk p.1=rkAt rk x i->wpS (model prog w) A E s (f p) Q z):wpS (model prog w) A E s (elem' x i >>= f) Q z:=by have e:=iT hi;rw[elem'_eq,e];exact bq (aE (h _ e (m _ (by simp)) (by unfold rkAt;rw[e];rfl)))
def bey(rk:af->Int)(left:Bool)(key:br)(arr:Array br)(base i:Nat):Bool:=if left then decide (rkAt rk arr (base+i)<rk key.1) else !decide (rk key.1<rkAt rk arr (base+i))
theorem zst{f:Option Bool->StateT aS Sem β}(c:Cmp prog w A s kd rk a0)(k:kindOf z=kd)(l:key∈a0.toList)(ha:∀p∈arr.toList,p∈a0.toList)(hi:base+i<arr.size)
  (h:wpS (model prog w) A E s (f (some (bey rk left key arr base i))) Q z):wpS (model prog w) A E s ((do
   let x <- elem' arr (base+i)
   if left then lt' x key else return (<- lt' key x).map (!·)) >>= f) Q z:=by
 refine bq (JL (rk:=rk) hi ha fun p _ mp r=>?_);unfold bey at h;rw[<- r]at h;cases left with
 | true=>exact ZF c k mp l h
 | false=>exact bq (ZF c k l mp (aE h))
theorem Ye{f:Option Nat->StateT aS Sem β}(c:Cmp prog w A s kd rk a0)(k:kindOf z=kd)(hk:key∈a0.toList)
  (ha:∀p∈arr.toList,p∈a0.toList) (hs:base+n<=arr.size) (L:hint<n) (up:∀i j,i<j->j<n->rkAt rk arr (base+i)<=rkAt rk arr (base+j))
  (h:∀m,Srch (bey rk left key arr base) n m m->wpS (model prog w) A E s (f (some m)) Q z):wpS (model prog w) A E s (zhC left key arr base n hint >>= f) Q z:=by
 have mono:Fal (bey rk left key arr base) n:=by intro i j U R hb;rcases gq U with rfl|hlt;exact hb;have:=up i j hlt R;unfold bey at *;cases left <;> simp at * <;> lia
 have Y:zhC=zhC:=rfl;conv at Y=>rhs;whnf
 rw[Y];clear Y;dsimp(zeta:=false) only;refine bq ?_
 extract_lets bf _ _ jp m1 m2
 have hb:∀{Z:Type} {i:Nat} {Q:Z->aS->Prop} {f:Option Bool->StateT aS Sem Z} {y:aS},y=z->i<n->wpS (model prog w) A E s (f (some (bey rk left key arr base i))) Q y->wpS (model prog w) A E s (bf i >>= f) Q y:=fun e hi=>zst c (e▸k) hk ha (au (ij hi _) hs);clear_value bf;generalize bey rk left key arr base=B at *;have R:∀l r u v y,y=z->Srch B n l r->wpS (model prog w) A E s (jp () u v l r) (fun a y=>wpS (model prog w) A E s (f a) Q y) y:=fun l r u v y ey S=>by refine Qb n.zero_le (fun x b y=>y=z/\Srch B n b.1 b.2/\b.2 - b.1<=n - x) (fun b y=>y=z/\Srch B n b.2 b.2) (fun _ _=>False) ⟨ey,S,aH (gR _ _) S.rn⟩ (fun x _ hx b y I=>?_) (fun b y I=>⟨I.1,I.2.1.fin (stp0 I.2.2)⟩) (fun b y I=>?_) fun _ _ _ h=>h.elim;dsimp only;refine Jf (fun g=>aE (.stop ⟨I.1,I.2.1.fin g⟩)) fun g=>?_;obtain⟨g1,g2⟩:=zpc (mw.mp g);refine hb I.1 (au g2 I.2.1.rn) ?_;refine Jf (fun e=>?_) fun e=>?_;exact aE (.go ⟨I.1,I.2.1.up mono g2 e,stp1 I.2.2 g1 hx⟩);exact aE (.go ⟨I.1,I.2.1.dn mono g1 g2 (gF.mpr e),stp2 I.2.2 g2 hx⟩);exact aE (I.1▸h _ I.2)
 clear_value jp;refine hb rfl L (Jf (fun e=>?_) fun e=>?_);refine Qb n.zero_le (fun x b y=>y=z/\b.1<b.2/\x<b.2/\hint+b.1<n/\B (hint+b.1)=true) (fun b y=>y=z/\Srch B n (hint+b.1+1) (hint+min b.2 (n - hint))) (fun _ _=>False) ⟨rfl,lB,lB,L,e⟩ (fun x _ hx b y I=>?_)
  (fun b y ⟨I,G,N,C,J⟩=>⟨I,.fwd mono G C J (.inl (aH (gR _ _) (cO N)))⟩) (fun b y I=>R _ _ _ _ _ I.1 I.2) fun _ _ _ h=>h.elim
 dsimp only;have⟨I,G,N,C,J⟩:=I;refine Jf (fun g=>aE (.stop ⟨I,.fwd mono G C J (.inl g)⟩)) fun g=>?_;have g:=inn L g;refine hb I g (Jf (fun e=>?_) fun e=>?_);exact aE (.stop ⟨I,.fwd mono G C J (.inr ⟨g,by simpa using e⟩)⟩);exact aE (.go ⟨I,dbl0,dbl N,g,by simpa using e⟩);refine Qb n.zero_le (fun x b y=>y=z/\b.1<b.2/\x<b.2/\b.1<=hint/\B (hint - b.1)=false) (fun b y=>y=z/\Srch B n (hint+1 - min b.2 (hint+1)) (hint - b.1)) (fun _ _=>False) ⟨rfl,lB,lB,b5 _,gF.mpr e⟩ (fun x _ hx b y I=>?_)
  (fun b y ⟨I,G,N,C,J⟩=>⟨I,.bwd mono L G C J (.inl (aH L (cO N)))⟩) (fun b y I=>R _ _ _ _ _ I.1 I.2) fun _ _ _ h=>h.elim
 dsimp only;have⟨I,G,N,C,J⟩:=I;refine Jf (fun g=>aE (.stop ⟨I,.bwd mono L G C J (.inl g)⟩)) fun g=>?_;have g:=gE (mw.mp g);refine hb I (df (gR _ _) L) (Jf (fun e=>?_) fun e=>?_);exact aE (.stop ⟨I,.bwd mono L G C J (.inr ⟨g,e⟩)⟩);exact aE (.go ⟨I,dbl0,dbl N,g,gF.mpr e⟩)
end
end L2
namespace L2
section
variable{α:Type}{r:α->Int}{a b out:List α}{ia ib na nb k:Nat}
theorem m1{x:α}{l m:List α}(h:x∈l):x∈l++m:=aD.mpr (.inl h)
theorem m2{x:α}{l m:List α}(h:x∈m):x∈l++m:=aD.mpr (.inr h)
def Ris(r:α->Int)(l:List α):Prop:=l.Pairwise fun x y=>r x<=r y
structure MLo(r:α->Int)(a b out:List α)(ia ib:Nat):Prop where
 pm:(out++(a.drop ia++b.drop ib)).Perm (a++b)
 so:Ris r out
 le:∀x∈out,∀y∈a.drop ia++b.drop ib,r x<=r y
theorem JM{l m:List α}:Ris r (l++m)↔Ris r l/\Ris r m/\∀x∈l,∀y∈m,r x<=r y:=lC
theorem Ris.drop{l:List α}(h:Ris r l)(k:Nat):Ris r (l.drop k):=kY (List.drop_sublist k l) h
theorem Ris.take{l:List α}(h:Ris r l)(k:Nat):Ris r (l.take k):=kY (mG k l) h
theorem cut2(l:List α)(i k:Nat):l.drop i=(l.drop i).take k++l.drop (i+k):=by rw[<- lD];exact(bz k _).symm
theorem MLo.takeB(h:MLo r a b out ia ib)(hb:Ris r b)(c:∀y∈(b.drop ib).take k,∀x∈a.drop ia,r y<=r x):MLo r a b (out++(b.drop ib).take k) ia (ib+k):=by have e:=cut2 b ib k;obtain⟨v,C,u⟩:=h;have l:=hb.drop ib;rw[e]at v u l;have l:=JM.mp l;refine⟨?_,JM.mpr ⟨C,l.1,fun x hx y o=>u x hx y (m2 (m1 o))⟩,fun x hx y o=>?_⟩;refine hZ ?_ v;rw[aA];exact gO _ (ix _ _ _);rcases aD.mp hx with z|z;refine u x z y ?_;rcases aD.mp o with w|w;exact m1 w;exact m2 (m2 w);rcases aD.mp o with w|w;exact c x z y w;exact l.2.2 x z y w
theorem MLo.takeA(h:MLo r a b out ia ib)(ha:Ris r a)(c:∀x∈(a.drop ia).take k,∀y∈b.drop ib,r x<=r y):MLo r a b (out++(a.drop ia).take k) (ia+k) ib:=by have e:=cut2 a ia k;obtain⟨v,C,u⟩:=h;have l:=ha.drop ia;rw[e]at v u l;have l:=JM.mp l;refine⟨?_,JM.mpr ⟨C,l.1,fun x hx y o=>u x hx y (m1 (m1 o))⟩,fun x hx y o=>?_⟩;refine hZ ?_ v;simp only[aA];exact oE _;rcases aD.mp hx with z|z;refine u x z y ?_;rcases aD.mp o with w|w;exact m1 (m2 w);exact m2 w;rcases aD.mp o with w|w;exact l.2.2 x z y w;exact c x z y w
theorem take1{l:List α}{i:Nat}{y:α}(h:l[i]?=some y):(l.drop i).take 1=[y]:=by have hi:=(aL.mp h).1;rw[cB hi];have:=(aL.mp h).2;simp[this]
theorem MLo.pushB{y:α}(h:MLo r a b out ia ib)(hb:Ris r b)(e:b[ib]?=some y)(c:∀x∈a.drop ia,r y<=r x):MLo r a b (out++[y]) ia (ib+1):=by have:=h.takeB (k:=1) hb (by rw[take1 e];intro z l x hx;cases ba.mp l;exact c x hx);rwa [take1 e]at this
theorem MLo.pushA{x:α}(h:MLo r a b out ia ib)(ha:Ris r a)(e:a[ia]?=some x)(c:∀y∈b.drop ib,r x<=r y):MLo r a b (out++[x]) (ia+1) ib:=by have:=h.takeA (k:=1) ha (by rw[take1 e];intro z l y o;cases ba.mp l;exact c y o);rwa [take1 e]at this
theorem MLo.done(h:MLo r a b out ia ib)(ha:Ris r a)(hb:Ris r b)(c:∀x∈a.drop ia,∀y∈b.drop ib,r x<=r y):(out++a.drop ia++b.drop ib).Perm (a++b)/\Ris r (out++a.drop ia++b.drop ib):=by refine⟨by rw[aA];exact h.pm,?_⟩;rw[aA];exact JM.mpr ⟨h.so,JM.mpr ⟨ha.drop _,hb.drop _,c⟩,h.le⟩
theorem MLo.last(h:MLo r a b out ia ib)(ha:Ris r a)(hb:Ris r b)(c:∀y∈b.drop ib,∀x∈a.drop ia,r y<=r x):(out++b.drop ib++a.drop ia).Perm (a++b)/\Ris r (out++b.drop ib++a.drop ia):=by refine⟨?_,?_⟩;rw[aA];exact(gO _ kZ).trans h.pm;rw[aA];refine JM.mpr ⟨h.so,JM.mpr ⟨hb.drop _,ha.drop _,c⟩,fun x hx y l=>h.le x hx y ?_⟩;rcases aD.mp l with w|w;exact m2 w;exact m1 w
structure MHi(r:α->Int)(a b out:List α)(na nb:Nat):Prop where
 pm:((a.take na++b.take nb)++out).Perm (a++b)
 so:Ris r out
 le:∀x∈a.take na++b.take nb,∀y∈out,r x<=r y
theorem cut3(l:List α){n k:Nat}(h:k<=n):l.take n=l.take k++(l.take n).drop k:=by have:=bz k (l.take n);rw[lE,eF h]at this;exact this.symm
theorem MHi.takeB(h:MHi r a b out na nb)(hb:Ris r b)(G:k<=nb)(c:∀x∈a.take na,∀y∈(b.take nb).drop k,r x<=r y):MHi r a b ((b.take nb).drop k++out) na k:=by have e:=cut3 b G;obtain⟨C,I,u⟩:=h;have l:=hb.take nb;rw[e]at C u l;have l:=JM.mp l;refine⟨?_,JM.mpr ⟨l.2.1,I,fun x hx y v=>u x (m2 (m2 hx)) y v⟩,fun x hx y v=>?_⟩;refine hZ ?_ C;simp only[aA];exact oE _;rcases aD.mp v with z|z;rcases aD.mp hx with w|w;exact c x w y z;exact l.2.2 x w y z;refine u x ?_ y z;rcases aD.mp hx with w|w;exact m1 w;exact m2 (m1 w)
theorem MHi.takeA(h:MHi r a b out na nb)(ha:Ris r a)(G:k<=na)(c:∀x∈b.take nb,∀y∈(a.take na).drop k,r x<=r y):MHi r a b ((a.take na).drop k++out) k nb:=by have e:=cut3 a G;obtain⟨C,I,u⟩:=h;have l:=ha.take na;rw[e]at C u l;have l:=JM.mp l;refine⟨?_,JM.mpr ⟨l.2.1,I,fun x hx y v=>u x (m1 (m2 hx)) y v⟩,fun x hx y v=>?_⟩;refine hZ ?_ C;simp only[aA];exact gO _ (ix _ _ _);rcases aD.mp v with z|z;rcases aD.mp hx with w|w;exact l.2.2 x w y z;exact c x w y z;refine u x ?_ y z;rcases aD.mp hx with w|w;exact m1 (m1 w);exact m2 w
theorem ZE{l:List α}{n:Nat}{y:α}(h:l[n]?=some y):(l.take (n+1)).drop n=[y]:=by
 have hi:=(aL.mp h).1;have e:(l.take (n+1))=l.take n++[y]:=by rw[dZ,h];rfl
 rw[e,List.drop_append_of_le_length (by simp;lia),ff (by simp;lia)];rfl
theorem MHi.pushB{y:α}(h:MHi r a b out na (nb+1))(hb:Ris r b)(e:b[nb]?=some y)(c:∀x∈a.take na,r x<=r y):MHi r a b (y::out) na nb:=by have:=h.takeB (k:=nb) hb (by omega) (by rw[ZE e];intro x hx z l;cases ba.mp l;exact c x hx);rwa [ZE e]at this
theorem MHi.pushA{x:α}(h:MHi r a b out (na+1) nb)(ha:Ris r a)(e:a[na]?=some x)(c:∀y∈b.take nb,r y<=r x):MHi r a b (x::out) na nb:=by have:=h.takeA (k:=na) ha (by omega) (by rw[ZE e];intro y o z l;cases ba.mp l;exact c y o);rwa [ZE e]at this
theorem MHi.done(h:MHi r a b out na nb)(ha:Ris r a)(hb:Ris r b)(c:∀x∈a.take na,∀y∈b.take nb,r x<=r y):(a.take na++b.take nb++out).Perm (a++b)/\Ris r (a.take na++b.take nb++out) :=
 ⟨h.pm,JM.mpr ⟨JM.mpr ⟨ha.take _,hb.take _,c⟩,h.so,h.le⟩⟩
theorem MHi.first(h:MHi r a b out na nb)(ha:Ris r a)(hb:Ris r b)(c:∀y∈b.take nb,∀x∈a.take na,r y<=r x):(b.take nb++a.take na++out).Perm (a++b)/\Ris r (b.take nb++a.take na++out):=by refine⟨(List.Perm.append_right _ kZ).trans h.pm,JM.mpr ⟨JM.mpr ⟨hb.take _,ha.take _,c⟩,h.so,fun x hx y l=>h.le x ?_ y l⟩⟩;rcases aD.mp hx with w|w;exact m2 w;exact m1 w
end
end L2
namespace L2
open PySem PySem.Spec PyProof.Rows
def zmD:Array br->Array br->StateT aS Sem (Array br):=sortPriv% PySem.Builtin.mergeLo
def ze2:Nat->StateT aS Sem Unit:=sortPriv% PySem.Builtin.setMinGallop
section
variable{prog:aI}{w:aT}{A:bu}{E:qV}{s:ak}{kd:dY}{rk:af->Int}{a0:Array br}
structure SmS(z z':aS):Prop where
 kn:kindOf z'=kindOf z
 ar:arrOf z'=arrOf z
 pe:pendingOf z'=pendingOf z
 fl:failedOf z'=failedOf z
theorem SmS.refl(z:aS):SmS z z:=⟨rfl,rfl,rfl,rfl⟩
theorem SmS.trans{x y z:aS}(h:SmS x y)(k:SmS y z):SmS x z:=⟨k.kn.trans h.kn,k.ar.trans h.ar,k.pe.trans h.pe,k.fl.trans h.fl⟩
theorem VC{g:Nat}{x z:aS}{l:Type}{f:Unit->StateT aS Sem l}{Q:l->aS->Prop}(S:SmS x z)(h:∀y,SmS x y->wpS (model prog w) A E s (f ()) Q y):wpS (model prog w) A E s (ze2 g >>= f) Q z:=by exact bq (kN (h _ (S.trans ⟨rfl,rfl,rfl,rfl⟩)))
theorem zn3{x y:Array br}{i j:Nat}{z:aS}{l:Type}{f:Option Bool->StateT aS Sem l}{Q:l->aS->Prop}(c:Cmp prog w A s kd rk a0)(k:kindOf z=kd)(hi:i<x.size)(C:j<y.size)(v:∀p∈x.toList,p∈a0.toList)(o:∀p∈y.toList,p∈a0.toList)
  (h:wpS (model prog w) A E s (f (some (decide (rkAt rk x i<rkAt rk y j)))) Q z):wpS (model prog w) A E s (elem' x i >>= fun p=>elem' y j >>= fun q=>lt' p q >>= f) Q z :=
 JL (rk:=rk) hi v fun p _ mp u=>JL (rk:=rk) C o fun q _ G I=>bq (ZF c k mp G (u▸I▸h))
abbrev rkP(rk:af->Int)(p:br):Int:=rk p.1
theorem zkV{x:Array br}{i k:Nat}:(x.extract i k).toList=(x.toList.take k).drop i:=by rw[lF,List.drop_take]
theorem Vu{x:Array br}{i:Nat}:(x.extract i x.size).toList=x.toList.drop i:=by rw[lF];exact cQ (by simp)
theorem ziu{x:Array br}{i k:Nat}:(x.extract i (i+k)).toList=(x.toList.drop i).take k:=by simp
theorem ZP{x:Array br}{k:Nat}:(x.extract 0 k).toList=x.toList.take k:=by simp
theorem Zq{x:Array br}{i:Nat}{p:br}(h:x.toList[i]?=some p):rkAt rk x i=rkP rk p:=by unfold rkAt;rw[bN]at h;rw[h];rfl
def UpL(rk:af->Int)(xs:Array br)(lo m:Nat):Prop:=∀i j,i<j->j<m->rkAt rk xs (lo+i)<=rkAt rk xs (lo+j)
section
variable{x:Array br}{P A S:List br}{n i j k m:Nat}
theorem YY(e:x.toList=P++(A++S))(l:P.length=n)(h:i<A.length):rkAt rk x (n+i)=rkP rk A[i]:=Zq (by subst l;rw[e,aR (bL _ _),kA,bh h,aC h])
theorem Uh(e:x.toList=P++(A++S))(o:P.length=n)(v:A.length=m):UpL rk x n m↔Ris (rkP rk) A:=by subst v;constructor;exact fun u=>cY.mpr fun i j hi l h=>YY (rk:=rk) e o hi▸YY (rk:=rk) e o l▸u i j h l;intro u i j h l;rw[YY e o l,YY e o (iu h l)];exact cY.mp u i j _ l h
theorem ZL(e:x.toList=P++(A++S))(l:P.length=n){q:br}(h:q∈A):∃i,i<A.length/\rkAt rk x (n+i)=rkP rk q:=by obtain⟨i,hi,rfl⟩:=dQ h;exact⟨i,hi,YY e l hi⟩
theorem zr_(e:x.toList=P++(A++S))(l:P.length=n)(h:Ris (rkP rk) A):∀q∈A,rkAt rk x n<=rkP rk q:=fun q o=>by
 obtain⟨i,hi,u⟩:=ZL (rk:=rk) e l o;rw[<- u];cases i with
 | zero=>exact eL _
 | succ i=>exact(Uh e l rfl).mpr h 0 _ (mQ i) hi
theorem zrl(e:x.toList=P++(A++S))(l:P.length=n)(h:Ris (rkP rk) A)(v:n+A.length=j):∀q∈A,rkP rk q<=rkAt rk x (j - 1):=fun q o=>by obtain⟨i,hi,u⟩:=ZL (rk:=rk) e l o;rw[<- u,show j - 1=n+(A.length - 1) by lia];rcases gq (g7 hi) with g|g;rw[g];exact eL _;exact(Uh e l rfl).mpr h _ _ g (by lia)
theorem srch{left:Bool}{p:br}(e:x.toList=P++(A++S))(C:P.length=n)(u:A.length=m)(G:Srch (bey rk left p x n) m k k):(∀q∈A.take k,if left then rkP rk q<rk p.1 else rkP rk q<=rk p.1)/\∀q∈A.drop k,if left then rk p.1<=rkP rk q else rk p.1<rkP rk q:=by
 have e1:x.toList=P++(A.take k++(A.drop k++S)):=by rw[e,<- aA (A.take k),bz]
 refine⟨fun q l=>?_,fun q l=>?_⟩;obtain⟨j,o,v⟩:=ZL (rk:=rk) e1 C l;subst u;have:=G.lo j (by rw[cw]at o;lia);unfold bey at this;rw[v]at this;cases left <;> simpa using this;obtain⟨j,o,v⟩:=ZL (rk:=rk) (P:=P++A.take k) (by rw[e1,aA]) (by rw[aM,C,cw,eF (u▸G.rn)]) l;subst u;have:=G.hi (k+j) (bL _ _) (by rw[de]at o;omega);unfold bey at this;rw[<- rl,v]at this;cases left <;> simpa using this
theorem znn(h:Ris (rkP rk) x.toList)(hi:i<=x.size):UpL rk x i (x.size - i):=(Uh (P:=x.toList.take i) (S:=[]) (by simp) (by simp;lia) (by simp)).mpr (h.drop i)
theorem zpT(h:Ris (rkP rk) x.toList)(hi:i<=x.size):UpL rk x 0 i:=(Uh (P:=[]) (S:=x.toList.drop i) (by simp) rfl (by simp;lia)).mpr (h.take i)
theorem YV(h:Ris (rkP rk) x.toList)(hi:i<x.size):∀y∈x.toList.drop i,rkAt rk x i<=rkP rk y:=zr_ (P:=x.toList.take i) (S:=[]) (by simp) (by simp;lia) (h.drop i)
theorem YF(h:Ris (rkP rk) x.toList)(hi:i<=x.size):∀y∈x.toList.take i,rkP rk y<=rkAt rk x (i - 1):=zrl (P:=[]) (S:=x.toList.drop i) (by simp) rfl (h.take i) (by simp;lia)
end
structure Two(rk:af->Int)(a0 a b:Array br):Prop where
 ha:∀p∈a.toList,p∈a0.toList
 hb:∀p∈b.toList,p∈a0.toList
 sa:Ris (rkP rk) a.toList
 sb:Ris (rkP rk) b.toList
 na:0<a.size
 nb:0<b.size
 f1:∀x∈a.toList,rkAt rk b 0<=rkP rk x
 f2:∀y∈b.toList,rkP rk y<=rkAt rk a (a.size - 1)
structure Mgd(rk:af->Int)(a b:Array br)(z:aS)(m:Array br)(y:aS):Prop where
 sm:SmS z y
 pm:m.toList.Perm (a.toList++b.toList)
 ri:Ris (rkP rk) m.toList
structure LoM(rk:af->Int)(a b:Array br)(z:aS)(o:Array br)(i j:Nat)(y:aS):Prop where
 sm:SmS z y
 m:MLo (rkP rk) a.toList b.toList o.toList i j
structure LoJ(rk:af->Int)(a b:Array br)(z:aS)(n:Nat)(o:Array br)(i j:Nat)(y:aS):Prop extends LoM rk a b z o i j y where
 i1:i+1<a.size
 j1:j<b.size
 nl:n<=i+j
abbrev LoC{γ:Type}(rk:af->Int)(a b:Array br)(z:aS)(n:Nat)(c:Array br×Nat×Nat×γ)(y:aS):Prop:=LoJ rk a b z n c.1 c.2.1 c.2.2.1 y
section
variable{a b o:Array br}{x y:aS}{i j k n m:Nat}{p:br}
theorem nlB{n i j:Nat}(h:n<=i+j):n+1<=i+1+j:=by lia
theorem noL{A B i j:Nat}(u:i+1<A)(l:j<B)(h:A+B+1<=i+j):False:=by lia
theorem szd{i n:Nat}(h:i+1<n):i+(n - i)<=n/\0<n - i/\i<=n:=by omega
theorem szd0{i n:Nat}(h:i<n):i+(n - i)<=n/\0<n - i/\i<=n:=by omega
theorem szk{i n k:Nat}(h:i<n)(g:k<=n - i):i+k<=n:=by lia
theorem le2{X x:Nat}:X+2<=X+1+x+1:=by lia
theorem nxt(h:i<n)(e:¬(i+1 == n)=true):i+1<n:=fg h fun g=>e (g▸beq_self_eq_true _)
theorem nxt0(h:i<=n)(e:¬(i == n)=true):i<n:=fg h fun g=>e (g▸beq_self_eq_true _)
theorem LoJ.le(h:LoJ rk a b x n o i j y)(l:m<=n):LoJ rk a b x m o i j y:=⟨h.toLoM,h.i1,h.j1,aH l h.nl⟩
theorem LoM.dn(h:LoM rk a b x o i j y)(T:Two rk a0 a b)(e:(i == a.size)=true\/(j == b.size)=true):Mgd rk a b x (o++a.extract i a.size++b.extract j b.size) y:=by
 have g:=h.m.done T.sa T.sb fun x hx y l=>by rcases e with e|e;rw[eq_of_beq e,ff (by simp)]at hx;cases hx;rw[eq_of_beq e,ff (by simp)]at l;cases l
 rw[<- Vu,<- Vu,<- bK,<- bK]at g;exact⟨h.sm,g.1,g.2⟩
theorem LoM.la(h:LoM rk a b x o i j y)(T:Two rk a0 a b)(e:(i+1 == a.size)=true):Mgd rk a b x (o++b.extract j b.size++a.extract i a.size) y:=by
 have e:=eq_of_beq e;have g:=h.m.last T.sa T.sb fun y l x hx=>by refine bR (T.f2 y (fM l)) ?_;rw[show a.size - 1=i by lia];exact YV T.sa (by lia) x hx
 rw[<- Vu,<- Vu,<- bK,<- bK]at g;exact⟨h.sm,g.1,g.2⟩
theorem LoM.pushB(h:LoM rk a b x o i j y)(T:Two rk a0 a b)(e:b[j]?=some p)(c:∀x∈a.toList.drop i,rkAt rk b j<=rkP rk x):LoM rk a b x (o.push p) i (j+1) y:=by have e:=(bN (xs:=b)).trans e;have:=h.m.pushB T.sb e (Zq e▸c);rw[<- iY]at this;exact⟨h.sm,this⟩
theorem LoM.pushA(h:LoM rk a b x o i j y)(T:Two rk a0 a b)(e:a[i]?=some p)(c:∀x∈b.toList.drop j,rkAt rk a i<=rkP rk x):LoM rk a b x (o.push p) (i+1) j y:=by have e:=(bN (xs:=a)).trans e;have:=h.m.pushA T.sa e (Zq e▸c);rw[<- iY]at this;exact⟨h.sm,this⟩
theorem LoJ.galA(h:LoJ rk a b x n o i j y)(T:Two rk a0 a b)(S:Srch (bey rk false p a i) (a.size - i) k k)(e:rk p.1=rkAt rk b j):LoM rk a b x (o++a.extract i (i+k)) (i+k) j y/\∀x∈a.toList.drop (i+k),rkAt rk b j<=rkP rk x:=by have⟨g1,g2⟩:=srch (P:=a.toList.take i) (A:=a.toList.drop i) (S:=[]) (by simp) (by simp;have:=h.i1;lia) (by simp) S;rw[e]at g1 g2;rw[lD]at g2;have:=h.m.takeA (k:=k) T.sa fun x hx y l=>bR (g1 x hx) (YV T.sb h.j1 y l);rw[<- ziu,<- bK]at this;exact⟨⟨h.sm,this⟩,fun x hx=>cy (g2 x hx)⟩
theorem LoJ.galB(h:LoJ rk a b x n o i j y)(T:Two rk a0 a b)(S:Srch (bey rk true p b j) (b.size - j) k k)(e:rk p.1=rkAt rk a i):LoM rk a b x (o++b.extract j (j+k)) i (j+k) y/\∀x∈b.toList.drop (j+k),rkAt rk a i<=rkP rk x:=by have⟨g1,g2⟩:=srch (P:=b.toList.take j) (A:=b.toList.drop j) (S:=[]) (by simp) (by simp;have:=h.j1;lia) (by simp) S;rw[e]at g1 g2;rw[lD]at g2;have:=h.m.takeB (k:=k) T.sb fun x hx y l=>bR (cy (g1 x hx)) (YV T.sa (cD h.i1) y l);rw[<- ziu,<- bK]at this;exact⟨⟨h.sm,this⟩,g2⟩
end
theorem ziX{a b:Array br}{z:aS}{Q:Array br->aS->Prop}(N:Cmp prog w A s kd rk a0)(k:kindOf z=kd)(T:Two rk a0 a b)(h:∀m y,Mgd rk a b z m y->Q m y):wpS (model prog w) A E s (zmD a b) Q z:=by
 refine bq (ku (dN ⟨rfl,?_⟩))
 extract_lets n dn lst
 refine JL (rk:=rk) T.nb T.hb fun p v _ _=>?_;have M:LoM rk a b z #[p] 0 1 z:=(show LoM rk a b z #[] 0 0 z from⟨.refl z,⟨by simp,.nil,fun _ h=>absurd h av⟩⟩).pushB T v T.f1;refine Jf (fun e=>aE (h _ _ (M.dn T (.inr e)))) fun e1=>Jf (fun e=>aE (h _ _ (M.la T e))) fun e2=>bq (iw ?_);refine Qb n.zero_le (fun X=>LoC rk a b z (X+1)) (fun _ _=>False) (Mgd rk a b z) ⟨M,nxt T.na e2,nxt T.nb e1,aw _⟩ (fun X _ Z U y J=>?_) (fun U y J=>noL J.i1 J.j1 J.nl) (fun _ _ h=>h.elim) (fun r _ y g=>aE (h r y g));dsimp(zeta:=false) only
 extract_lets _ out _ ia _ ib mg
 refine Qb n.zero_le (fun x=>LoC rk a b z (X+1+x)) (LoC rk a b z (X+2)) (Mgd rk a b z) J (fun x _ hx c y J=>?_) (fun c y J=>J.le (by lia)) (fun c y J=>?_) fun r _ y g=>aE (.ret g);dsimp only;refine zn3 N (J.sm.kn.trans k) J.j1 (cD J.i1) T.hb T.ha (Jf (fun g=>?_) fun g=>?_);refine JL (rk:=rk) J.j1 T.hb fun p v _ _=>?_;have M:=J.pushB T v fun x hx=>bR (cy (of_decide_eq_true g)) (YV T.sa (cD J.i1) x hx);refine Jf (fun e=>aE (.ret (M.dn T (.inr e)))) fun e=>?_;have I:LoJ rk a b z _ _ _ _ _:=⟨M,J.i1,nxt J.j1 e,Nat.succ_le_succ J.nl⟩;exact Jf (fun _=>aE (.stop (I.le le2))) fun _=>aE (.go I);refine JL (rk:=rk) (cD J.i1) T.ha fun p v _ _=>?_;have M:=J.pushA T v fun x hx=>bR (gS.mp fun l=>g (decide_eq_true l)) (YV T.sb J.j1 x hx);refine Jf (fun e=>aE (.ret (M.la T e))) fun e=>?_;have I:LoJ rk a b z (X+1+x+1) _ _ _ _:=⟨M,nxt J.i1 e,J.j1,nlB J.nl⟩;exact Jf (fun _=>aE (.stop (I.le le2))) fun _=>aE (.go I);refine bq (ku (dN ⟨rfl,?_⟩));refine Qb n.zero_le (fun _=>LoC rk a b z (X+2)) (LoC rk a b z (X+2)) (Mgd rk a b z) J (fun x _ hx c y J=>?_) (fun c y J=>J) (fun c y J=>VC J.sm fun Y S=>aE (.go ⟨⟨S,J.m⟩,J.i1,J.j1,J.nl⟩)) fun r _ y g=>aE (.ret g);dsimp(zeta:=false) only
 extract_lets _ out _ ia _ ib _ mg _ ac bc ib1 jp _
 have C:∀mg,wpS (model prog w) A E s (jp () mg) (Tn (LoC rk a b z (X+2)) (LoC rk a b z (X+2)) (Mgd rk a b z)) y:=fun mg=>by
  refine VC J.sm fun y S=>?_;have R:=S.kn.trans k;have J:LoJ rk a b z (X+2) out ia ib y:=⟨⟨S,J.m⟩,J.i1,J.j1,J.nl⟩;refine JL (rk:=rk) J.j1 T.hb fun p v mp L=>Ye N R mp T.ha (szd J.i1).1 (szd J.i1).2.1 (znn T.sa (szd J.i1).2.2) fun k G=>?_;dsimp(zeta:=false) only
  extract_lets ac jp2 _ _
  have M:=J.galA T G L;have C:∀o i,LoJ rk a b z (X+2) o i ib y->(∀x∈a.toList.drop i,rkAt rk b ib<=rkP rk x)->wpS (model prog w) A E s (jp2 () o i) (Tn (LoC rk a b z (X+2)) (LoC rk a b z (X+2)) (Mgd rk a b z)) y:=fun o i J g=>by
   refine JL (rk:=rk) J.j1 T.hb fun p v _ _=>?_;have M:=J.pushB T v g;refine Jf (fun e=>aE (.ret (M.dn T (.inr e)))) fun e=>?_;have J:LoJ rk a b z (X+2) (o.push p) i ib1 y:=⟨M,J.i1,nxt J.j1 e,Nat.le_succ_of_le J.nl⟩;refine JL (rk:=rk) (cD J.i1) T.ha fun p v mp L=>Ye N R mp T.hb (szd0 J.j1).1 (szd0 J.j1).2.1 (znn T.sb (szd0 J.j1).2.2) fun k G=>?_;dsimp(zeta:=false) only
   extract_lets bc i1 jp3 _ _
   have M:=J.galB T G L;have C:∀o j,LoJ rk a b z (X+2) o i j y->(∀x∈b.toList.drop j,rkAt rk a i<=rkP rk x)->wpS (model prog w) A E s (jp3 () o j) (Tn (LoC rk a b z (X+2)) (LoC rk a b z (X+2)) (Mgd rk a b z)) y:=fun o j J g=>by refine JL (rk:=rk) (cD J.i1) T.ha fun p v _ _=>?_;have M:=J.pushA T v g;refine Jf (fun e=>aE (.ret (M.la T e))) fun e=>?_;have J:LoJ rk a b z (X+2) _ _ _ _:=⟨M,nxt J.i1 e,J.j1,gC (nlB J.nl)⟩;exact Jf (fun _=>aE (.stop J)) fun _=>aE (.go J)
   clear_value jp3;refine Jf (fun _=>?_) fun e=>C _ _ J fun x hx=>M.2 x (by rwa [fh e]);exact Jf (fun e=>aE (.ret (M.1.dn T (.inr e)))) fun e=>C _ _ ⟨M.1,J.i1,nxt0 (szk J.j1 G.rn) e,aH J.nl (fU (bL _ _) _)⟩ M.2
  clear_value jp2;refine Jf (fun _=>?_) fun e=>C _ _ J fun x hx=>M.2 x (by rwa [fh e]);exact Jf (fun e=>aE (.ret (M.1.la T e))) fun e=>Jf (fun e=>aE (.ret (M.1.dn T (.inl e)))) fun f=>C _ _ ⟨M.1,nxt (nxt0 (szk (cD J.i1) G.rn) f) e,J.j1,aH J.nl (cp (bL _ _) _)⟩ M.2
 clear_value jp;exact Jf (fun _=>C _) fun _=>C _
end
def zmE:Array br->Array br->StateT aS Sem (Array br):=sortPriv% PySem.Builtin.mergeHi
section
variable{prog:aI}{w:aT}{A:bu}{E:qV}{s:ak}{kd:dY}{rk:af->Int}{a0:Array br}
structure HiM(rk:af->Int)(a b:Array br)(z:aS)(i j:Nat)(o:Array br)(y:aS):Prop where
 sm:SmS z y
 m:MHi (rkP rk) a.toList b.toList o.toList.reverse i j
structure HiJ(rk:af->Int)(a b:Array br)(z:aS)(n:Nat)(i j:Nat)(o:Array br)(y:aS):Prop extends HiM rk a b z i j o y where
 i1:0<i
 j1:1<j
 ia:i<=a.size
 jb:j<=b.size
 nl:i+j+n<=a.size+b.size
abbrev HiC{γ:Type}(rk:af->Int)(a b:Array br)(z:aS)(n:Nat)(c:Nat×Nat×Array br×γ)(y:aS):Prop:=HiJ rk a b z n c.1 c.2.1 c.2.2.1 y
section
variable{a b o:Array br}{x y:aS}{i j k n m:Nat}{p:br}
theorem nlH{i j n N:Nat}(h:i+j+n<=N)(g:0<i):i - 1+j+(n+1)<=N:=by lia
theorem nlG{i j n N:Nat}(h:i+j+n<=N)(g:1<j):i+(j - 1)+(n+1)<=N:=by lia
theorem noH{A B i j:Nat}(l:0<i)(h:i+j+(A+B+1)<=A+B):False:=by lia
theorem nl0{A B:Nat}(h:0<A):A - 1+B+1<=A+B:=by lia
theorem prv(h:m<i)(e:¬(i - 1 == m)=true):m<i - 1:=fg (g7 h) fun g=>e (g▸beq_self_eq_true _)
theorem prv0(e:¬(i == 0)=true):0<i:=Nat.pos_of_ne_zero fun g=>e (g▸beq_self_eq_true _)
theorem HiJ.le(h:HiJ rk a b x n i j o y)(l:m<=n):HiJ rk a b x m i j o y:=⟨h.toHiM,h.i1,h.j1,h.ia,h.jb,aH (fU l _) h.nl⟩
theorem HiM.dn(h:HiM rk a b x i j o y)(T:Two rk a0 a b)(e:(i == 0)=true\/(j == 0)=true):Mgd rk a b x (a.extract 0 i++b.extract 0 j++o.reverse) y:=by
 have g:=h.m.done T.sa T.sb fun x hx y l=>by rcases e with e|e;rw[eq_of_beq e]at hx;cases hx;rw[eq_of_beq e]at l;cases l
 rw[<- ZP,<- ZP,<- bK,<- lG,<- bK]at g;exact⟨h.sm,g.1,g.2⟩
theorem HiM.fi(h:HiM rk a b x i j o y)(T:Two rk a0 a b)(e:(j == 1)=true):Mgd rk a b x (b.extract 0 j++a.extract 0 i++o.reverse) y:=by
 have g:=h.m.first T.sa T.sb fun y l x hx=>by rw[eq_of_beq e]at l;exact bR (YF T.sb T.nb y l) (T.f1 x (dD hx))
 rw[<- ZP,<- ZP,<- bK,<- lG,<- bK]at g;exact⟨h.sm,g.1,g.2⟩
theorem HiM.pushB(h:HiM rk a b x i j o y)(T:Two rk a0 a b)(l:0<j)(e:b[j - 1]?=some p)(c:∀x∈a.toList.take i,rkP rk x<=rkAt rk b (j - 1)):HiM rk a b x i (j - 1) (o.push p) y:=by obtain⟨j,rfl⟩:∃m,j=m+1:=⟨j - 1,by lia⟩;have e:=(bN (xs:=b)).trans e;exact⟨h.sm,by simpa using h.m.pushB T.sb e (Zq e▸c)⟩
theorem HiM.pushA(h:HiM rk a b x i j o y)(T:Two rk a0 a b)(hi:0<i)(e:a[i - 1]?=some p)(c:∀x∈b.toList.take j,rkP rk x<=rkAt rk a (i - 1)):HiM rk a b x (i - 1) j (o.push p) y:=by obtain⟨i,rfl⟩:∃m,i=m+1:=⟨i - 1,by lia⟩;have e:=(bN (xs:=a)).trans e;exact⟨h.sm,by simpa using h.m.pushA T.sa e (Zq e▸c)⟩
theorem HiJ.galA(h:HiJ rk a b x n i j o y)(T:Two rk a0 a b)(S:Srch (bey rk false p a 0) i k k)(e:rk p.1=rkAt rk b (j - 1)):HiM rk a b x k j (o++(a.extract k i).reverse) y/\∀x∈a.toList.take k,rkP rk x<=rkAt rk b (j - 1):=by have⟨g1,g2⟩:=srch (P:=[]) (A:=a.toList.take i) (S:=a.toList.drop i) (by simp) rfl (by simp;have:=h.ia;lia) S;rw[e]at g1 g2;rw[lE,eF S.rn]at g1;have:=h.m.takeA (k:=k) T.sa S.rn fun x hx y l=>bR (YF T.sb h.jb x hx) (cy (g2 y l));rw[<- zkV]at this;exact⟨⟨h.sm,by simpa using this⟩,g1⟩
theorem HiJ.galB(h:HiJ rk a b x n i j o y)(T:Two rk a0 a b)(S:Srch (bey rk true p b 0) j k k)(e:rk p.1=rkAt rk a (i - 1)):HiM rk a b x i k (o++(b.extract k j).reverse) y/\∀x∈b.toList.take k,rkP rk x<=rkAt rk a (i - 1):=by have⟨g1,g2⟩:=srch (P:=[]) (A:=b.toList.take j) (S:=b.toList.drop j) (by simp) rfl (by simp;have:=h.jb;lia) S;rw[e]at g1 g2;rw[lE,eF S.rn]at g1;have:=h.m.takeB (k:=k) T.sb S.rn fun x hx y l=>bR (YF T.sa h.ia x hx) (g2 y l);rw[<- zkV]at this;exact⟨⟨h.sm,by simpa using this⟩,fun x hx=>cy (g1 x hx)⟩
end
theorem ziY{a b:Array br}{z:aS}{Q:Array br->aS->Prop}(R:Cmp prog w A s kd rk a0)(k:kindOf z=kd)(T:Two rk a0 a b)(h:∀m y,Mgd rk a b z m y->Q m y):wpS (model prog w) A E s (zmE a b) Q z:=by
 refine bq (ku (dN ⟨rfl,?_⟩))
 extract_lets n dn fst na nb
 refine JL (rk:=rk) (bX T.na) T.ha fun p v _ _=>?_;have M:HiM rk a b z (a.size - 1) b.size #[p] z:=(show HiM rk a b z a.size b.size #[] z from⟨.refl z,⟨by simp[<- aP],.nil,fun _ _ _ h=>absurd h av⟩⟩).pushA T T.na v fun x hx=>T.f2 x (dD hx);refine Jf (fun e=>aE (h _ _ (M.dn T (.inl e)))) fun e1=>Jf (fun e=>aE (h _ _ (M.fi T e))) fun e2=>bq (iw ?_);refine Qb n.zero_le (fun X=>HiC rk a b z (X+1)) (fun _ _=>False) (Mgd rk a b z) ⟨M,prv T.na e1,fg T.nb fun g=>e2 (g▸beq_self_eq_true _),gR _ _,aw _,nl0 T.na⟩ (fun X _ hX Y y J=>?_) (fun Y y J=>noH J.i1 J.nl) (fun _ _ h=>h.elim) (fun r _ y g=>aE (h r y g));dsimp(zeta:=false) only
 extract_lets _ na _ nb _ out mg
 refine Qb n.zero_le (fun x=>HiC rk a b z (X+1+x)) (HiC rk a b z (X+2)) (Mgd rk a b z) J (fun x _ hx c y J=>?_) (fun c y J=>J.le (by lia)) (fun c y J=>?_) fun r _ y g=>aE (.ret g);dsimp only;have la:=au (bX J.i1) J.ia;have I:=au (bX J.j1) J.jb;refine zn3 R (J.sm.kn.trans k) I la T.hb T.ha (Jf (fun g=>?_) fun g=>?_);refine JL (rk:=rk) la T.ha fun p v _ _=>?_;have M:=J.pushA T J.i1 v fun x hx=>bR (YF T.sb J.jb x hx) (cy (of_decide_eq_true g));refine Jf (fun e=>aE (.ret (M.dn T (.inl e)))) fun e=>?_;have L:HiJ rk a b z (X+1+x+1) _ _ _ _:=⟨M,prv J.i1 e,J.j1,cO la,J.jb,nlH J.nl J.i1⟩;exact Jf (fun _=>aE (.stop (L.le le2))) fun _=>aE (.go L);refine JL (rk:=rk) I T.hb fun p v _ _=>?_;have M:=J.pushB T (cD J.j1) v fun x hx=>bR (YF T.sa J.ia x hx) (gS.mp fun l=>g (decide_eq_true l));refine Jf (fun e=>aE (.ret (M.fi T e))) fun e=>?_;have L:HiJ rk a b z (X+1+x+1) _ _ _ _:=⟨M,J.i1,prv J.j1 e,J.ia,cO I,nlG J.nl J.j1⟩;exact Jf (fun _=>aE (.stop (L.le le2))) fun _=>aE (.go L);refine bq (ku (dN ⟨rfl,?_⟩));refine Qb n.zero_le (fun _=>HiC rk a b z (X+2)) (HiC rk a b z (X+2)) (Mgd rk a b z) J (fun x _ hx c y J=>?_) (fun c y J=>J) (fun c y J=>VC J.sm fun Z S=>aE (.go ⟨⟨S,J.m⟩,J.i1,J.j1,J.ia,J.jb,J.nl⟩)) fun r _ y g=>aE (.ret g);dsimp(zeta:=false) only
 extract_lets _ na _ nb _ out _ mg _ ac bc nb1 jp _
 have C:∀mg,wpS (model prog w) A E s (jp () mg) (Tn (HiC rk a b z (X+2)) (HiC rk a b z (X+2)) (Mgd rk a b z)) y:=fun mg=>by
  refine VC J.sm fun y S=>?_;have U:=S.kn.trans k;have J:HiJ rk a b z (X+2) na nb out y:=⟨⟨S,J.m⟩,J.i1,J.j1,J.ia,J.jb,J.nl⟩;have I:=au (bX J.j1) J.jb;refine JL (rk:=rk) I T.hb fun p v mp N=>Ye R U mp T.ha ((e9 _).symm▸J.ia) (bX J.i1) (zpT T.sa J.ia) fun k G=>?_;dsimp(zeta:=false) only
  extract_lets kk ac jp2 _ _
  have M:=J.galA T G N;have C:∀i o,HiJ rk a b z (X+2) i nb o y->(∀x∈a.toList.take i,rkP rk x<=rkAt rk b nb1)->wpS (model prog w) A E s (jp2 () i o) (Tn (HiC rk a b z (X+2)) (HiC rk a b z (X+2)) (Mgd rk a b z)) y:=fun i o J g=>by
   refine JL (rk:=rk) I T.hb fun p v _ _=>?_;have M:=J.pushB T (cD J.j1) v g;refine Jf (fun e=>aE (.ret (M.fi T e))) fun e=>?_;have J:HiJ rk a b z (X+2) i nb1 (o.push p) y:=⟨M,J.i1,prv J.j1 e,J.ia,cO I,aH (cp (fU (gR _ _) _) _) J.nl⟩;have la:=au (bX J.i1) J.ia;refine JL (rk:=rk) la T.ha fun p v mp N=>Ye R U mp T.hb ((e9 _).symm▸J.jb) (bX J.j1) (zpT T.sb J.jb) fun k G=>?_;dsimp(zeta:=false) only
   extract_lets kk bc i1 jp3 _ _
   have M:=J.galB T G N;have C:∀j o,HiJ rk a b z (X+2) i j o y->(∀x∈b.toList.take j,rkP rk x<=rkAt rk a i1)->wpS (model prog w) A E s (jp3 () j o) (Tn (HiC rk a b z (X+2)) (HiC rk a b z (X+2)) (Mgd rk a b z)) y:=fun j o J g=>by refine JL (rk:=rk) la T.ha fun p v _ _=>?_;have M:=J.pushA T J.i1 v g;refine Jf (fun e=>aE (.ret (M.dn T (.inl e)))) fun e=>?_;have J:HiJ rk a b z (X+2) _ _ _ _:=⟨M,prv J.i1 e,J.j1,cO la,J.jb,aH (cp (cp (gR _ _) _) _) J.nl⟩;exact Jf (fun _=>aE (.stop J)) fun _=>aE (.go J)
   clear_value jp3;refine Jf (fun _=>?_) fun e=>C _ _ J fun x hx=>M.2 x (by rwa [show k=nb1 from gk G.rn (gN (fh e))]);exact Jf (fun e=>aE (.ret (M.1.fi T e))) fun e=>Jf (fun e=>aE (.ret (M.1.dn T (.inr e)))) fun f=>C _ _ ⟨M.1,J.i1,fg (prv0 f) fun g=>e (g▸beq_self_eq_true _),J.ia,aH G.rn J.jb,aH (cp (fU G.rn _) _) J.nl⟩ M.2
  clear_value jp2;refine Jf (fun _=>?_) fun e=>C _ _ J fun x hx=>M.2 x (by rwa [show k=na from gk G.rn (gN (fh e))]);exact Jf (fun e=>aE (.ret (M.1.dn T (.inl e)))) fun e=>C _ _ ⟨M.1,prv0 e,J.j1,aH G.rn J.ia,J.jb,aH (cp (cp G.rn _) _) J.nl⟩ M.2
 clear_value jp;exact Jf (fun _=>C _) fun _=>C _
end
theorem zjn{α:Type}{l:List α}{i:Nat}{p:α}(h:i<l.length):(l.set i p).take (i+1)=l.take i++[p]:=by rw[dZ,eZ h,List.take_set_of_le (aw _)];rfl
theorem zk1{α:Type}{l:List α}{i j:Nat}{p:α}(h:i<j):(l.set i p).drop j=l.drop j:=by rw[List.drop_set];rw[if_pos h]
theorem zjO{α:Type}(o:Nat):∀(m:List α) (n:Nat) (x:Array α),o+n+m.length<=x.size ->
  ((m.zipIdx n).foldl (fun a (q:α×Nat)=>a.setIfInBounds (o+q.2) q.1) x).toList=x.toList.take (o+n)++m++x.toList.drop (o+n+m.length)
 | [],n,x,h=>by simp
 | p::ms,n,x,h=>by
  rw[aF]at h;rw[kB,fw,zjO o ms (n+1) _ (by rw[Array.size_setIfInBounds];omega)];have e:(x.setIfInBounds (o+n) p).toList=x.toList.set (o+n) p:=by simp
  have u:o+n<x.toList.length:=by simp;omega
  dsimp only;rw[e,show o+(n+1)=o+n+1 by lia,zjn u,zk1 (by lia),aF,show o+n+1+ms.length=o+n+(ms.length+1) by lia];simp
section
variable{prog:aI}{w:aT}{A:bu}{E:qV}{s:ak}{kd:dY}{rk:af->Int}{a0:Array br}
theorem zn6{z o:aS}{u:Type}{f:PUnit->StateT aS Sem u}{Q:u->aS->Prop}(h:∀y,SmS o y->wpS (model prog w) A E s (f ⟨⟩) Q y):wpS (model prog w) A E s ((set o:StateT aS Sem PUnit) >>= f) Q z:=by refine bq ?_;unfold wpS;rw[StateT.run_set];exact aj ⟨rfl,h _ (.refl o)⟩
section
variable{x:Array br}{P A B S M:List br}{n i j k m:Nat}
theorem zkW(e:x.toList=P++(A++S))(l:P.length=i)(u:i+A.length=j):(x.extract i j).toList=A:=by subst l u;rw[zkV,e,<- aA,nP (by simp),List.drop_left]
theorem znv(h:i+k<j)(g:j<=x.size):rkAt rk (x.extract i j) k=rkAt rk x (i+k):=UK (by rw[Array.getElem?_extract,if_pos (by lia)])
theorem zoj{r:br->Int}(ha:Ris r A)(hb:Ris r B)(G:∀p∈A.take k,∀q∈B,r p<=r q)(v:∀p∈A,∀q∈B.drop m,r p<=r q)(PM:M.Perm (A.drop k++B.take m))(I:Ris r M):(A.take k++(M++B.drop m)).Perm (A++B)/\Ris r (A.take k++(M++B.drop m)):=by have C:=bz k A;have u:=bz m B;have⟨a1,_,a3⟩:=JM.mp (C.symm▸ha);have⟨_,b2,b3⟩:=JM.mp (u.symm▸hb);constructor;have:=(PM.append_right (B.drop m)).append_left (A.take k);rwa [aA (A.drop k),u,<- aA (A.take k) (A.drop k),C]at this;refine JM.mpr ⟨a1,JM.mpr ⟨I,b2,fun x hx y o=>?_⟩,fun x hx y o=>?_⟩;rcases aD.mp (PM.mem_iff.mp hx) with h|h;exact v x (fM h) y o;exact b3 x h y o;rcases aD.mp o with h|h;rcases aD.mp (PM.mem_iff.mp h) with h|h;exact a3 x hx y h;exact G x hx y (dD h);exact v x (dD hx) y h
end
theorem ziZ{i pw pw2:Nat}{z:aS}{Q:Bool->aS->Prop}{P U V S:List br}(c:Cmp prog w A s kd rk a0)(k:kindOf z=kd)(fl:failedOf z=none)(mz:∀p∈(arrOf z).toList,p∈a0.toList)(e:(arrOf z).toList=P++(U++(V++S)))
  (p1:(pendingOf z)[i]?=some (P.length,U.length,pw)) (p2:(pendingOf z)[i+1]?=some (P.length+U.length,V.length,pw2)) (hU:0<U.length) (hV:0<V.length) (rU:Ris (rkP rk) U) (rV:Ris (rkP rk) V)
  (h:∀y T,kindOf y=kd->failedOf y=none->pendingOf y=((pendingOf z).setIfInBounds i (P.length,U.length+V.length,pw)).eraseIdxIfInBounds (i+1)->(arrOf y).toList=P++(T++S)->T.Perm (U++V)->Ris (rkP rk) T->Q true y) :
  wpS (model prog w) A E s (mergeAt' i) Q z:=by
 have e2:(arrOf z).toList=(P++U)++(V++S):=by rw[e,aA]
 have lP:(P++U).length=P.length+U.length:=aM;have lz:(arrOf z).size=P.length+(U.length+(V.length+S.length)):=by rw[<- aP,e];simp
 refine bq (iw (p1.symm▸p2.symm▸zn6 fun y sm=>?_));have C:=sm.kn.trans k;have ea:arrOf y=arrOf z:=sm.ar;have fy:failedOf y=none:=sm.fl.trans fl;have all:(∀u∈U,∀v∈V,rkP rk u<=rkP rk v)->Q true y:=fun g=>h y _ C fy sm.pe (by rw[ea,e,aA]) (.refl _) (JM.mpr ⟨rU,rV,g⟩);refine JL (rk:=rk) (x:=arrOf z) (by lia) mz fun p _ mp rp=>Ye c C mp mz (by lia) hU ((Uh e rfl rfl).mpr rU) fun k G=>?_;have⟨g1,g2⟩:=srch e rfl rfl G;have b0:=zr_ (rk:=rk) e2 lP rV;rw[<- rp]at b0;have kU:=G.rn;dsimp(zeta:=false) only;refine Jf (fun e1=>aE (all fun u hu v R=>bR (g1 u (by rwa [cQ (by have:=eq_of_beq e1;lia)])) (b0 v R))) fun e1=>?_;have e1:0<U.length - k:=prv0 e1;refine JL (rk:=rk) (x:=arrOf z) (by lia) mz fun q _ mq rq=>Ye c C mq mz (by lia) (bX hV) ((Uh e2 lP rfl).mpr rV) fun m G2=>?_;have⟨g3,g4⟩:=srch e2 lP rfl G2;have b1:=zrl (rk:=rk) e rfl rU rfl;rw[show P.length+U.length - 1=P.length+k+(U.length - k) - 1 by lia,<- rq]at b1;have mV:=G2.rn;dsimp(zeta:=false) only;refine Jf (fun e2=>aE (all fun u hu v R=>bR (b1 u hu) (g4 v (by rwa [eq_of_beq e2])))) fun e3=>?_
 extract_lets X Y jp
 have e3:=prv0 e3;have J:X.toList=U.drop k:=zkW (P:=P++U.take k) (S:=V++S) (by rw[e,aA,<- aA (U.take k),bz]) (by simp;lia) (by simp;lia);have eY:Y.toList=V.take m:=zkW (S:=V.drop m++S) (by rw[e2,<- aA (V.take m),bz]) lP (by simp;lia);have lX:X.size=U.length - k:=by rw[<- aP,J,de]
 have lY:Y.size=m:=by rw[<- aP,eY,cw,eF mV]
 have hj:∀M Z,Mgd rk X Y y M Z->wpS (model prog w) A E s (jp M) Q Z:=fun M Z G=>by
  have r:=zoj rU rV (fun u hu v R=>bR (g1 u hu) (b0 v R)) (fun u hu v R=>bR (b1 u hu) (g4 v R)) (J▸eY▸G.pm) G.ri;have lM:=G.pm.length_eq;rw[J,eY,aM,de,cw,eF mV]at lM;refine bq (kN (bq (iw (aE ?_))));have f':failedOf Z=none:=G.sm.fl.trans fy;show Q (failedOf Z).isNone _;rw[f'];refine h _ _ (G.sm.kn.trans C) f' (G.sm.pe.trans sm.pe) ?_ r.1 r.2;refine(zjO (P.length+k) M.toList 0 (arrOf Z) (by rw[G.sm.ar,ea];lia)).trans ?_;have e5:(arrOf z).toList=(P++U.take k)++((U.drop k++V.take m)++(V.drop m++S)):=by rw[e,aA,aA (U.drop k),<- aA (V.take m),bz,<- aA (U.take k),bz]
  have l5:(P++U.take k).length=P.length+k+0:=by simp;lia
  rw[G.sm.ar,ea,lM,e5,nP l5,<- aA (P++U.take k),nQ (by rw[aM,l5];simp;lia)];simp only[aA]
 clear_value jp;have mU:∀p∈U++V,p∈a0.toList:=fun p hp=>mz p (by rw[e,<- aA U];exact m2 (m1 hp));have T:Two rk a0 X Y:=by refine⟨J▸fun p hp=>mU p (m1 (fM hp)),eY▸fun p hp=>mU p (m2 (dD hp)),J▸rU.drop k,eY▸rV.take m,lX▸e1,lY▸e3,?_,?_⟩;rw[J,znv (by lia) (by lia)];exact fun x hx=>cy (rp▸g2 x hx);rw[eY,lX,znv (by lia) (by lia),<- fG e1,<- rq];exact fun x hx=>cy (g3 x hx)
 exact Jf (fun _=>bq (ziX c C T hj)) fun _=>bq (ziY c C T hj)
end
structure Sl(rk:af->Int)(kd:dY)(a0:Array br)(z0:aS)(lo:Nat)(z:aS):Prop where
 pm:(arrOf z).Perm a0
 kn:kindOf z=kd
 fl:failedOf z=none
 pe:pendingOf z=pendingOf z0
 lw:∀j,j<lo->rkAt rk (arrOf z) j=rkAt rk (arrOf z0) j
def DnL(rk:af->Int)(xs:Array br)(lo m:Nat):Prop:=∀i j,i<j->j<m->rkAt rk xs (lo+j)<=rkAt rk xs (lo+i)
section
variable{prog:aI}{w:aT}{A:bu}{E:qV}{s:ak}{kd:dY}{rk:af->Int}{a0:Array br}{z0:aS}{lo:Nat}
theorem Sl.sz{z:aS}(b:Sl rk kd a0 z0 lo z):(arrOf z).size=a0.size:=b.pm.size_eq
theorem Sl.arr{z:aS}(b:Sl rk kd a0 z0 lo z){xs:Array br}(h:xs.Perm (arrOf z))(l:∀j,j<lo->rkAt rk xs j=rkAt rk (arrOf z) j):Sl rk kd a0 z0 lo (setArr z xs):=⟨h.trans b.pm,b.kn,b.fl,b.pe,fun j o=>(l j o).trans (b.lw j o)⟩
theorem Sl.mem{z:aS}(b:Sl rk kd a0 z0 lo z):∀p∈(arrOf z).toList,p∈a0.toList:=fun _=>(ee.mp b.pm).mem_iff.mp
section
variable{β:Type}{Q:β->aS->Prop}{y z:aS}{i j m n x:Nat}
theorem askL{f:Option Bool->StateT aS Sem β}(c:Cmp prog w A s kd rk a0)(b:Sl rk kd a0 z0 lo z)(hi:i<a0.size)(o:j<a0.size)
  (h:wpS (model prog w) A E s (f (some (decide (rkAt rk (arrOf z) i<rkAt rk (arrOf z) j)))) Q z):wpS (model prog w) A E s (ltAt' i j >>= f) Q z :=
 bq (bq (iw (JL (rk:=rk) (b.sz▸hi) b.mem fun _ _ mp l=>JL (rk:=rk) (b.sz▸o) b.mem fun _ _ u v=>ZF c b.kn mp u (by rw[l,v];exact h))))
theorem morR{R:Int->Int->Prop}(o:∀{a b c},R a b->R b c->R a c){f:Nat->Int}(u:∀i j,i<j->j<x->R (f (lo+i)) (f (lo+j)))(x1:1<=x)(g:R (f (lo+x - 1)) (f (lo+x))):∀i j,i<j->j<x+1->R (f (lo+i)) (f (lo+j)):=fun i j l v=>by rcases iM (gE v) with h|rfl;exact u i j l h;rw[fG x1]at g;rcases iM (g7 l) with h|rfl;exact o (u i _ h (bX l)) g;exact g
theorem zjF{F:Option (Option Nat)×Nat->StateT aS Sem β}(c:Cmp prog w A s kd rk a0)(L:lo+m<=a0.size)(b:Sl rk kd a0 z0 lo z)(x1:1<=x)(v:x<=m)(u:UpL rk (arrOf z) lo x)
  (h:∀n y,Sl rk kd a0 z0 lo y->1<=n->n<=m->UpL rk (arrOf y) lo n->n=m\/n<m/\rkAt rk (arrOf y) (lo+n)<rkAt rk (arrOf y) (lo+n - 1)->wpS (model prog w) A E s (F (none,n)) Q y) :
  wpS (model prog w) A E s (forIn [x:m] (none,x) (fun _ c=>ltAt' (lo+c.2) (lo+c.2 - 1) >>= fun o=>match o with
   | some g=>if g=true then pure (.done (none,c.2)) else pure (.yield (none,c.2+1))
   | _=>pure (.done (some none,c.2))) >>= F) Q z:=by
 refine Qb v (fun x c y=>c=x/\Sl rk kd a0 z0 lo y/\UpL rk (arrOf y) lo x) (fun n y=>Sl rk kd a0 z0 lo y/\1<=n/\n<=m/\UpL rk (arrOf y) lo n/\(n=m\/n<m/\rkAt rk (arrOf y) (lo+n)<rkAt rk (arrOf y) (lo+n - 1))) (fun _ _=>False) ⟨rfl,b,u⟩ (fun N G C J y I=>?_)
  (fun J y ⟨e,b,u⟩=>⟨b,e▸aH x1 v,e▸aw _,e▸u,.inl e⟩) (fun n y ⟨b,n1,nm,u,l⟩=>h n y b n1 nm u l) fun _ _ _ h=>h.elim
 obtain⟨rfl,b,u⟩:=I;refine askL c b (by lia) (by lia) (Jf (fun g=>aE (.stop ⟨b,aH x1 G,cO C,u,.inr ⟨C,of_decide_eq_true g⟩⟩)) fun g=>aE (.go ⟨rfl,b,?_⟩));exact morR (R:=(·<=·)) bR u (aH x1 G) (gS.mp fun l=>g (decide_eq_true l))
theorem revs{f:PUnit->StateT aS Sem β}(b:Sl rk kd a0 z0 lo z)(l:j<=a0.size)(al:∀k,i<=k->k<j->rkAt rk (arrOf z) k=rkAt rk (arrOf z) (j - 1))(h:∀y,Sl rk kd a0 z0 lo y->(∀k,rkAt rk (arrOf y) k=rkAt rk (arrOf z) k)->wpS (model prog w) A E s (f ⟨⟩) Q y):wpS (model prog w) A E s (reverseSlice' i j >>= f) Q z :=
 have g:=zmC (rk:=rk) (b.sz▸l) al
 bq (wpS_reverse (h _ (b.arr (mirror_perm _ _ _ _) fun k _=>g k) g))
structure Fall(rk:af->Int)(kd:dY)(a0:Array br)(z0:aS)(lo x e:Nat)(y:aS):Prop where
 sl:Sl rk kd a0 z0 lo y
 dn:DnL rk (arrOf y) lo x
 ex:e<x
 al:∀i,lo+x - (e+1)<=i->i<lo+x->rkAt rk (arrOf y) i=rkAt rk (arrOf y) (lo+x - 1)
theorem DnL.same{x y:Array br}{n:Nat}(d:DnL rk x lo n)(h:∀k,rkAt rk y k=rkAt rk x k):DnL rk y lo n:=fun i j o l=>by rw[h,h];exact d i j o l
theorem DnL.more{xs:Array br}(d:DnL rk xs lo x)(x1:1<=x)(g:rkAt rk xs (lo+x)<=rkAt rk xs (lo+x - 1)):DnL rk xs lo (x+1):=morR (R:=fun a b=>b<=a) (fun o l=>bR l o) d x1 g
theorem UpL.alike{xs:Array br}(u:UpL rk xs lo n)(g:¬rkAt rk xs lo<rkAt rk xs (lo+n - 1)):∀k,lo<=k->k<lo+n->rkAt rk xs k=rkAt rk xs (lo+n - 1):=fun k l o=>by
 obtain⟨k,rfl⟩:=Nat.exists_eq_add_of_le l;have le:∀i j,i<=j->j<n->rkAt rk xs (lo+i)<=rkAt rk xs (lo+j):=fun i j l o=>by rcases gq l with rfl|h;exact eL _;exact u i j h o
 have p:=le 0 k (b5 k) (by lia);have q:=le k (n - 1) (by lia) (by lia);rw[<- fG (by lia)]at q;exact nR q (bR (gS.mp g) p)
theorem mirx{j:Nat}(h:j<x):lo+(lo+x) - 1 - (lo+j)=lo+(x - 1 - j):=by lia
theorem mirl{i j:Nat}(o:i<j)(l:j<x):x - 1 - j<x - 1 - i/\x - 1 - i<x:=by lia
theorem DnL.turn{xs:Array br}(d:DnL rk xs lo x)(h:lo+x<=xs.size):UpL rk (mirror xs lo (lo+x) ((lo+x - lo) / 2)) lo x:=fun i j o l=>by have g:=iu o l;rw[(Z4 (rk:=rk) h (lo+i)).1 (bL _ _) (ij g lo),(Z4 (rk:=rk) h (lo+j)).1 (bL _ _) (ij l lo),mirx g,mirx l];exact d _ _ (mirl o l).1 (mirl o l).2
theorem zoi{Q:Option Nat->aS->Prop}(c:Cmp prog w A s kd rk a0)(S:lo+m<=a0.size)(m1:1<=m)(b:Sl rk kd a0 z0 lo z)
  (h:∀k y,Sl rk kd a0 z0 lo y->1<=k->k<=m->UpL rk (arrOf y) lo k->Q (some k) y):wpS (model prog w) A E s (countRun' lo m) Q z:=by
 refine zjF c S b (aw 1) m1 (fun i j G L=>absurd G (by lia)) fun n y b n1 nm u l=>?_;dsimp(zeta:=false) only
 extract_lets _ _ _ _ jp
 refine Jf (fun e=>aE (h n y b n1 nm u)) fun e=>?_;have l:=l.resolve_left fun g=>e (g▸beq_self_eq_true _);have N:∀y,Sl rk kd a0 z0 lo y->DnL rk (arrOf y) lo (n+1)->wpS (model prog w) A E s (jp ⟨⟩) Q y:=fun y b d=>by
  refine bq (ku (dN ⟨rfl,?_⟩));refine Qb l.1 (fun x c y=>c.1=x/\Fall rk kd a0 z0 lo c.1 c.2 y) (fun c y=>c.1<=m/\Fall rk kd a0 z0 lo c.1 c.2 y) (fun _ _=>False) ⟨rfl,b,d,mQ n,fun i i1 R=>by rw[show i=lo+(n+1) - 1 by lia]⟩ (fun x _ hx b y ⟨ex,F⟩=>?_) (fun c y I=>⟨sI I.1,I.2⟩) (fun b y ⟨l,F⟩=>?_) fun _ _ _ h=>h.elim;have Y:=F.ex;have G:lo+b.1<a0.size:=by lia
  have L:lo+b.1 - 1<a0.size:=by lia
  have ex:=congrArg (·+1) ex;dsimp(zeta:=false) only;refine askL c F.sl G L ?_;dsimp(zeta:=false) only
  extract_lets _ jp jp2 _
  refine Jf (fun g=>?_) fun g=>askL c F.sl L G (Jf (fun _=>aE (.stop ⟨by lia,F⟩)) fun g2=>aE (.go ⟨ex,F.sl,F.dn.more (by lia) ?_,ng Y,?_⟩));have J:∀C,Sl rk kd a0 z0 lo C->(∀k,rkAt rk (arrOf C) k=rkAt rk (arrOf y) k)->wpS (model prog w) A E s (jp2 ⟨⟩) (Tn (fun c y=>c.1=x+1/\Fall rk kd a0 z0 lo c.1 c.2 y) (fun c y=>c.1<=m/\Fall rk kd a0 z0 lo c.1 c.2 y) fun _ _=>False) C:=fun C v s=>aE (.go ⟨ex,v,.same (F.dn.more (by lia) (cy (of_decide_eq_true g))) s,mQ _,fun i i1 R=>by rw[show i=lo+(b.1+1) - 1 by lia]⟩);exact Jf (fun _=>revs F.sl (by lia) F.al J) fun _=>J y F.sl fun _=>rfl;exact gS.mp fun l=>g2 (decide_eq_true l);intro i i1 R;show _=rkAt rk _ (lo+b.1);rcases iM (gE R) with h|rfl;rw[F.al i (by lia) h];exact nR (gS.mp fun l=>g (decide_eq_true l)) (gS.mp fun l=>g2 (decide_eq_true l));rfl;dsimp(zeta:=false) only
  extract_lets _ _ _ jp
  have J:∀y,Sl rk kd a0 z0 lo y->DnL rk (arrOf y) lo b.1->wpS (model prog w) A E s (jp ⟨⟩) Q y:=fun y v d=>by
   have U:lo+b.1<=(arrOf y).size:=by rw[v.sz];lia
   exact bq (wpS_reverse (zjF c S (v.arr (mirror_perm _ _ _ _) fun j N=>(Z4 (rk:=rk) U j).2 (.inl N)) (df (b5 _) F.ex) l (d.turn U) fun n y b n1 nm u _=>aE (h n y b n1 nm u)))
  exact Jf (fun _=>revs F.sl (by lia) F.al fun C v s=>J C v (F.dn.same s)) fun _=>J y F.sl F.dn
 clear_value jp;have l2:=cy l.2;refine Jf (fun g=>askL c b (by lia) (by lia) (Jf (fun _=>aE (h n y b n1 nm u)) fun r=>?_)) fun g=>N y b (.more (fun i j G L=>absurd G (by lia)) n1 l2);have al:=u.alike fun g=>r (decide_eq_true g);exact revs b (by lia) al fun C v s=>N C v (.same (.more (fun i j G L=>by rw[al _ (by lia) (by lia),al (lo+i) (by lia) (by lia)];exact eL _) n1 l2) s)
theorem zq8{l r:Nat}(g:l<r):l<=(l+r) / 2/\(l+r) / 2<r:=by lia
theorem zpF{Q:Bool->aS->Prop}{ok:Nat}(c:Cmp prog w A s kd rk a0)(hn:lo+n<=a0.size)(n1:1<=n)(hok:ok<=n)(b:Sl rk kd a0 z0 lo z)(up:UpL rk (arrOf z) lo ok)
  (h:∀y,Sl rk kd a0 z0 lo y->UpL rk (arrOf y) lo n->Q true y):wpS (model prog w) A E s (binarySort' lo n ok) Q z:=by
 refine Qb (Nat.max_le.mpr ⟨hok,n1⟩) (fun k _ y=>Sl rk kd a0 z0 lo y/\UpL rk (arrOf y) lo k) (fun _ y=>Sl rk kd a0 z0 lo y/\UpL rk (arrOf y) lo n) (fun _ _=>False) ⟨b,fun i j G J=>up i j G (by lia)⟩ (fun k k1 k2 _ y ⟨b,u⟩=>?_) (fun _ _ I=>I) (fun _ y I=>aE (h y I.1 I.2)) fun _ _ _ h=>h.elim;have f:Fal (fun i=>!decide (rkAt rk (arrOf y) (lo+k)<rkAt rk (arrOf y) (lo+i))) k:=fun i j G J h=>by rcases gq G with rfl|g;exact h;have:=u i j g J;simp at h ⊢;exact bR this h
 refine Qb k.zero_le (fun x c v=>v=y/\Srch (fun i=>!decide (rkAt rk (arrOf y) (lo+k)<rkAt rk (arrOf y) (lo+i))) k c.1 c.2/\c.2 - c.1<=k - x) (fun c v=>v=y/\Srch (fun i=>!decide (rkAt rk (arrOf y) (lo+k)<rkAt rk (arrOf y) (lo+i))) k c.1 c.1) (fun _ _=>False) ⟨rfl,⟨k.zero_le,aw k,fun i hi=>by lia,fun i i1 i2=>by lia⟩,aw _⟩ (fun x _ hx l v I=>?_) (fun c v I=>⟨I.1,I.2.1.fin2 (stp0 I.2.2)⟩) (fun l v I=>?_) fun _ _ _ h=>h.elim;dsimp only;obtain⟨rfl,S,hd⟩:=I;refine Jf (fun g=>aE (.stop ⟨rfl,S.fin2 g⟩)) fun g=>?_;have⟨g1,g2⟩:=zq8 (mw.mp g);have rn:=S.rn;refine askL c b (by lia) (by lia) (Jf (fun e=>?_) fun e=>?_);exact aE (.go ⟨rfl,S.dn f g1 g2 (congrArg (!·) e),stp2 hd g2 hx⟩);exact aE (.go ⟨rfl,S.up f g2 (congrArg (!·) (gF.mpr e)),stp1 hd g1 hx⟩);obtain⟨rfl,S⟩:=I;have Z:=S.lr;have Z:=S.rn;have Y:∀i,i<l.1->rkAt rk (arrOf v) (lo+i)<=rkAt rk (arrOf v) (lo+k):=fun i hi=>by simpa using S.lo i hi
 have N:∀i,l.1<=i->i<k->rkAt rk (arrOf v) (lo+k)<rkAt rk (arrOf v) (lo+i):=fun i G J=>by simpa using S.hi i G J
 show wpS (model prog w) A E s (moveDown' (lo+k) (lo+l.1) >>= fun _=>pure (gj (none,()))) _ v;rw[moveDown'_eq];have hk:lo+k<(arrOf v).size:=by rw[b.sz];lia
 have C:∀j,_:=fun j=>zqp (rk:=rk) hk (show lo+k - (lo+l.1)<=lo+k by omega) j;rw[show lo+k - (lo+k - (lo+l.1))=lo+l.1 by lia]at C;refine bq (kN (aE (.go ⟨b.arr (bubble_perm _ _ _) fun j hj=>(C j).2.2 (by lia),fun i j G J=>?_⟩)));show rkAt rk (bubble (arrOf v) (lo+k) (lo+k - (lo+l.1))) (lo+i)<=rkAt rk (bubble (arrOf v) (lo+k) (lo+k - (lo+l.1))) (lo+j);obtain⟨a1,a2,L⟩:=C (lo+i);obtain⟨U,R,b3⟩:=C (lo+j);rcases fH j l.1 with jl|jl|jl;rw[L (by lia),b3 (by lia)];exact u i j G (by lia);rw[L (by lia),U (by lia)];exact Y i (by lia);rw[R (by lia) (by lia),fG (df (b5 _) jl)];rcases fH i l.1 with il|il|il;rw[L (by lia)];exact u i (j - 1) (by lia) (by lia);rw[a1 (by lia)];exact cy (N (j - 1) (by lia) (by lia));rw[a2 (by lia) (by lia),fG (df (b5 _) il)];exact u _ _ (by omega) (by omega)
end
end
abbrev Run3:=Nat×Nat×Nat
def Side:List Run3->Nat->Nat->Prop
 | [],a,b=>a=b
 | q::r,a,b=>q.1=a/\0<q.2.1/\Side r (a+q.2.1) b
theorem Zk:∀{l m:List Run3}{a b:Nat},Side (l++m) a b↔∃c,Side l a c/\Side m c b
 | [],m,a,b=>⟨fun h=>⟨a,rfl,h⟩,fun⟨c,e,h⟩=>by cases e;exact h⟩
 | q::l,m,a,b=>by constructor;rintro⟨x,v,C⟩;obtain⟨c,u,o⟩:=Zk.mp C;exact⟨c,⟨x,v,u⟩,o⟩;rintro⟨c,⟨x,v,u⟩,o⟩;exact⟨x,v,Zk.mpr ⟨c,u,o⟩⟩
theorem Y8:∀{l:List Run3}{a b:Nat},Side l a b->a+l.length<=b/\∀q∈l,a<=q.1/\q.1+q.2.1<=b
 | [],a,b,h=>⟨by cases h;simp,fun q o=>nomatch o⟩
 | p::l,a,b,⟨h1,h2,h3⟩=>by obtain⟨i1,u⟩:=Y8 h3;refine⟨by simp only[aF];lia,fun q o=>?_⟩;rcases aq.mp o with rfl|m;lia;have:=u q m;lia
theorem zh6{f:Run3->Run3}(hf:∀q,(f q).1=q.1/\(f q).2.1=q.2.1):∀{l:List Run3}{i a b:Nat},Side l a b->Side (l.modify i f) a b/\∀u∈l.modify i f,∃q∈l,u.1=q.1/\u.2.1=q.2.1
 | [],i,a,b,h=>by simp only[List.modify_nil];exact⟨h,fun q o=>nomatch o⟩
 | p::l,0,a,b,⟨h1,h2,h3⟩=>by rw[List.modify_zero_cons];refine⟨⟨(hf p).1.trans h1,(hf p).2▸h2,(hf p).2▸h3⟩,fun q o=>?_⟩;rcases aq.mp o with rfl|m;exact⟨p,cj,hf p⟩;exact⟨q,bP _ m,rfl,rfl⟩
 | p::l,i+1,a,b,⟨h1,h2,h3⟩=>by rw[List.modify_succ_cons];obtain⟨i1,v⟩:=zh6 hf (i:=i) h3;refine⟨⟨h1,h2,i1⟩,fun q o=>?_⟩;rcases aq.mp o with rfl|m;exact⟨q,cj,rfl,rfl⟩;obtain⟨u,x,e⟩:=v q m;exact⟨u,bP _ x,e⟩
theorem zfR{α:Type}{x y v:α}:∀(l r:List α),((l++x::y::r).set l.length v).eraseIdx (l.length+1)=l++v::r
 | [],r=>rfl
 | a::l,r=>by have:=zfR (x:=x) (y:=y) (v:=v) l r;simp only[cA,aF,fj,List.eraseIdx_cons_succ,this]
structure Rn(rk:af->Int)(kd:dY)(a0:Array br)(lo:Nat)(z:aS):Prop where
 pm:(arrOf z).Perm a0
 kn:kindOf z=kd
 fl:failedOf z=none
 sd:Side (pendingOf z).toList 0 lo
 ls:lo<=a0.size
 up:∀q∈(pendingOf z).toList,UpL rk (arrOf z) q.1 q.2.1
theorem UpL.same{rk:af->Int}{xs l:Array br}{lo m:Nat}(u:UpL rk xs lo m)(e:∀j,lo<=j->j<lo+m->rkAt rk l j=rkAt rk xs j):UpL rk l lo m:=fun i j v o=>by rw[e (lo+i) (by lia) (by lia),e (lo+j) (by lia) (by lia)];exact u i j v o
section
variable{prog:aI}{w:aT}{A:bu}{E:qV}{s:ak}{kd:dY}{rk:af->Int}{a0:Array br}{z0:aS}{lo:Nat}
theorem znL{i:Nat}{z:aS}{Q:Bool->aS->Prop}(c:Cmp prog w A s kd rk a0)(R:Rn rk kd a0 lo z)(hi:i+1<(pendingOf z).size)
  (h:∀y,Rn rk kd a0 lo y->(pendingOf y).size+1=(pendingOf z).size->(∀j,lo<=j->rkAt rk (arrOf y) j=rkAt rk (arrOf z) j)->Q true y):wpS (model prog w) A E s (mergeAt' i) Q z:=by
 obtain⟨l,⟨sa,na,pw⟩,⟨sb,nb,pw2⟩,r,u,J⟩:∃l x y r,(pendingOf z).toList=l++x::y::r/\l.length=i:=by
  have h1:i<(pendingOf z).toList.length:=by simp;lia
  have h2:i+1<(pendingOf z).toList.length:=by simp;omega
  refine⟨(pendingOf z).toList.take i,(pendingOf z).toList[i],(pendingOf z).toList[i+1],(pendingOf z).toList.drop (i+2),?_,by simp;lia⟩;rw[<- cB h2,<- cB h1,bz]
 have sd:=R.sd;rw[u]at sd;obtain⟨_,s1,rfl,q2,rfl,Y,C⟩:=Zk.mp sd;have up:=R.up;rw[u]at up;obtain⟨t1,Z⟩:=Y8 C;have t3:=Y8 s1;have ls:=R.ls;dsimp only at u q2 Y C t1 Z s1 t3 up;have sz:(arrOf z).size=a0.size:=R.pm.size_eq;obtain⟨P,U,V,S,e,rfl,rfl,rfl⟩:∃P U V S,(arrOf z).toList=P++(U++(V++S))/\P.length=sa/\U.length=na/\V.length=nb :=
  ⟨(arrOf z).toList.take sa,((arrOf z).toList.drop sa).take na,((arrOf z).toList.drop (sa+na)).take nb,(arrOf z).toList.drop (sa+na+nb),by rw[<- cut2,<- cut2,bz],by simp;lia,by simp;lia,by simp;lia⟩
 have e2:(arrOf z).toList=(P++U)++(V++S):=by rw[e,aA]
 have e3:(arrOf z).toList=P++((U++V)++S):=by rw[e,aA]
 refine ziZ (pw:=pw) (pw2:=pw2) c R.kn R.fl (fun p=>(ee.mp R.pm).mem_iff.mp) e ?_ ?_ q2 Y ((Uh e rfl rfl).mp (up (P.length,U.length,pw) (by simp))) ((Uh e2 aM rfl).mp (up (P.length+U.length,V.length,pw2) (by simp))) fun I T ky fy pe N pT rT=>?_;rw[<- bN,u,<- J,aR (aw _),gD];rfl;rw[<- bN,u,<- J,aR (bL _ 1),kA];rfl;have G:=pT.length_eq;rw[aM]at G;have out:∀j,j<P.length\/P.length+(U.length+V.length)<=j->rkAt rk (arrOf I) j=rkAt rk (arrOf z) j:=fun j v=>UK (by rw[<- bN,<- bN,N,e3];rcases v with v|v;rw[bh v,bh v];rw[aR (by lia),aR (by lia),aR (by lia),aR (by simp;lia),aM,G]);have pl:(pendingOf I).toList=l++(P.length,U.length+V.length,pw)::r:=by rw[pe];subst J;rw[Array.toList_eraseIdxIfInBounds,Array.toList_setIfInBounds,u];exact zfR l r
 refine h I ⟨?_,ky,fy,?_,ls,?_⟩ ?_ fun j v=>out j (.inr (by lia));refine Array.Perm.trans ?_ R.pm;rw[ee,N,e3];exact(pT.append_right S).append_left P;rw[pl];refine Zk.mpr ⟨_,s1,rfl,Nat.add_pos_left q2 _,?_⟩;show Side r (P.length+(U.length+V.length)) lo;rw[<- rl];exact C;rw[pl];intro q hq;rcases aD.mp hq with m|m;exact(up q (by simp[m])).same fun j j1 j2=>out j (.inl (by have:=t3.2 q m;lia));rcases aq.mp m with rfl|m;exact G▸(Uh N rfl rfl).mpr rT;exact(up q (by simp[m])).same fun j j1 j2=>out j (.inr (by have:=Z q m;lia));rw[<- aP,<- aP,pl,u];simp;lia
theorem zl8{z:aS}{Q:Unit->aS->Prop}(c:Cmp prog w A s kd rk a0)(b:Sb kd a0 z)(s2:2<=a0.size)
  (h:∀y,(arrOf y).Perm a0->failedOf y=none->Up rk (arrOf y) a0.size->Q () y):wpS (model prog w) A E s sortRuns' Q z:=by
 refine bq (iw ?_)
 extract_lets n mr
 have en:n=a0.size:=b.sz;clear_value mr n;subst en;refine Qb (b5 _) (fun x lo y=>Rn rk kd a0 lo y/\x<=lo) (fun lo y=>Rn rk kd a0 lo y/\a0.size<=lo) (fun _ _=>False) ⟨⟨b.pm,b.kn,b.fl,by rw[b.pe];rfl,b5 _,by rw[b.pe];intro q G;simp at G⟩,b5 _⟩ (fun x _ hx lo y ⟨R,hl⟩=>?_) (fun _ _ I=>I) (fun lo y ⟨R,hl⟩=>?_) fun _ _ _ h=>h.elim;dsimp(zeta:=false) only;refine Jf (fun g=>aE (.stop ⟨R,g⟩)) fun g=>?_;have g:lo<a0.size:=mw.mp g;refine bq (zoi (z0:=y) (lo:=lo) c (by lia) (by lia) ⟨R.pm,R.kn,R.fl,rfl,fun _ _=>rfl⟩ fun k C Y k1 k2 u1=>?_);dsimp(zeta:=false) only
 extract_lets k' jp f
 have J:∀n C,1<=n->lo+n<=a0.size->Sl rk kd a0 y lo C->UpL rk (arrOf C) lo n->wpS (model prog w) A E s (jp () n) (Tn (fun lo y=>Rn rk kd a0 lo y/\x+1<=lo) (fun lo y=>Rn rk kd a0 lo y/\a0.size<=lo) fun _ _=>False) C:=fun n C n1 n2 S u=>by
  refine bq (iw ?_)
  extract_lets _ jp2
  have R1:Rn rk kd a0 lo C:=⟨S.pm,S.kn,S.fl,S.pe▸R.sd,R.ls,fun q G=>(R.up q (S.pe▸G)).same fun j j1 j2=>S.lw j (by have:=(Y8 R.sd).2 q (S.pe▸G);lia)⟩;have J:∀l,Rn rk kd a0 lo l->UpL rk (arrOf l) lo n->wpS (model prog w) A E s (jp2 ⟨⟩) (Tn (fun lo y=>Rn rk kd a0 lo y/\x+1<=lo) (fun lo y=>Rn rk kd a0 lo y/\a0.size<=lo) fun _ _=>False) l:=fun l R u=>by have e:(pendingOf (setPending l ((pendingOf l).push (lo,n,0)))).toList=(pendingOf l).toList++[(lo,n,0)]:=iY;refine bq (kN (aE (.go ⟨⟨R.pm,R.kn,R.fl,e▸Zk.mpr ⟨lo,R.sd,rfl,n1,rfl⟩,n2,?_⟩,by lia⟩)));intro q G;rcases aD.mp (e▸G:q∈(pendingOf l).toList++[(lo,n,0)]) with m|m;exact R.up q m;cases ba.mp m;exact u
  clear_value jp2;cases hb:(pendingOf C).back? with
  | none=>exact J C R1 u
  | some q =>
   dsimp(zeta:=false) only
   extract_lets pw
   clear_value pw;refine Qb (b5 _) (fun _ _ v=>Rn rk kd a0 lo v/\UpL rk (arrOf v) lo n) (fun _ v=>Rn rk kd a0 lo v/\UpL rk (arrOf v) lo n) (fun _ _=>False) ⟨R1,u⟩ (fun _ _ _ _ v I=>?_) (fun _ _ I=>I) (fun _ v ⟨R,u⟩=>?_) fun _ _ _ h=>h.elim;refine bq (iw ?_);dsimp only;cases e:(if (pendingOf v).size > 1 then(pendingOf v)[(pendingOf v).size - 2]? else none) with
   | none=>exact aE (.stop I)
   | some o =>refine Jf (fun _=>aE (.stop I)) fun _=>bq (znL c I.1 ?_ fun y' N _ out=>aE (.go ⟨N,I.2.same fun j j1 _=>out j j1⟩));by_cases g:(pendingOf v).size > 1;lia;rw[if_neg g]at e;cases e
   have m:=zh6 (f:=fun x=>(x.1,x.2.1,pw)) (fun q=>⟨rfl,rfl⟩) (i:=(pendingOf v).size - 1) R.sd;refine bq (kN (J _ ⟨R.pm,R.kn,R.fl,?_,R.ls,?_⟩ u));show Side ((pendingOf v).modify _ _).toList 0 lo;rw[lR];exact m.1;show ∀q∈((pendingOf v).modify _ _).toList,UpL rk (arrOf v) q.1 q.2.1;rw[lR];intro q G;obtain⟨q',m',e1,e2⟩:=m.2 q G;rw[e1,e2];exact R.up q' m'
 clear_value jp;refine Jf (fun g=>?_) fun _=>J k C k1 (by lia) Y u1;exact bq (ku (dN ⟨rfl,bq (zpF c (n:=f) (by lia) (by lia) (by lia) Y u1 fun l S2 u2=>J f l (by lia) (by lia) S2 u2)⟩));have el:lo=a0.size:=gk R.ls hl;subst el;dsimp only;have Z:=(Y8 R.sd).1;rw[aP,e9]at Z;refine Qb (b5 _) (fun x _ v=>Rn rk kd a0 a0.size v/\((pendingOf v).size<=1\/(pendingOf v).size+x<=a0.size)) (fun _ v=>Rn rk kd a0 a0.size v/\(pendingOf v).size<=1) (fun _ _=>False) ⟨R,.inr Z⟩ (fun x _ hx _ v ⟨R,sz⟩=>?_) (fun _ v I=>⟨I.1,by lia⟩) (fun _ v ⟨R,sz⟩=>aE (h v R.pm R.fl ?_)) fun _ _ _ h=>h.elim;refine bq (iw ?_);refine Jf (fun g=>aE (.stop ⟨R,g⟩)) fun g=>bq (znL c R ?_ fun y' N e _=>aE (.go ⟨N,.inr (by lia)⟩));have U:∀(p:Prop) [Decidable p] (a b n:Nat),a<=n->b<=n->(if p then a else b)<=n:=by intros;split <;> assumption
 exact df (cp (U _ _ _ ((pendingOf v).size - 2) (gR _ _) (aw _)) 1) (by lia);have sd:=R.sd;have up:=R.up;rw[<- aP]at sz;generalize (pendingOf v).toList=L at sd up sz;match L,sd,up,sz with
 | [],sd,_,_ =>have:(0:Nat)=a0.size:=sd;lia
 | [q],sd,up,_ =>obtain⟨e1,_,e2⟩:=sd;have e2:0+q.2.1=a0.size:=e2;have u:=up q (by simp);intro i j h1 h2;have:=u i j h1 (by lia);rw[e1]at this;simpa using this
 | _::_::_,_,_,sz=>simp at sz
end
def SrtL{α:Type}(f:α->Int)(l:List α):Prop:=l.length<100000
theorem zn_{α:Type}{f:α->Int}{l:List α}(h:l.length<100000):SrtL f l:=h
theorem Z6{α:Type}{f:α->Int}{l:List α}(h:SrtL f l):l.length<100000:=h
theorem zlX{α o:Type}{f:α->Int}{g:o->Int}{l:List α}{m:List o}(h:SrtL f l)(e:l.map f=m.map g):SrtL g m:=by
 have u:l.length=m.length:=by simpa using congrArg eI e
 show m.length<_;rw[<- u];exact h
theorem zl7{prog:aI}{w:aT}{A:bu}{E:qV}{s:ak}{kd:dY}{rk:af->Int}{o:List af}{z:aS}{Q:Unit->aS->Prop}(c:Cmp prog w A s kd rk (pairsOf o))(b:Sb kd (pairsOf o) z)(u:arrOf z=pairsOf o)(s2:2<=(pairsOf o).size)(l:SrtL rk o)
  (h:∀y,(arrOf y).Perm (pairsOf o)->failedOf y=none->Up rk (arrOf y) (pairsOf o).size->Q () y):wpS (model prog w) A E s sortRuns' Q z:=zl8 c b s2 h
def midH(h:bt)(a:ah)(l:List af):bt:=((h.update a (fK fun _=>#[])).push (seqObj "tuple" l.toArray 0)).push (seqObj "list" #[] 0)
section
variable{prog:aI}{w:aT}{A:bu}{E:qV}{s:ak}{rk:af->Int}
def Kinds(prog:aI)(w:aT)(A:bu)(s:ak)(rk:af->Int)(l:List af):Prop:=2<=l.length->∃kd,(∀(E:qV) (Q:dY->ak->Prop),Q kd s->wpAny (model prog w) A (keyKind' l.toArray) Q E s)/\Cmp prog w A s kd rk (pairsOf l)
theorem zmI{a:ah}{l:List af}{n:Nat}{P:Fin->ak->Prop}(v:s.heap.get? a=some (seqObj "list" l.toArray n)) (u:SrtL rk l) (L:Kinds prog w A { s with heap:=midH s.heap a l } rk l)
  (h:∀y:aS,(arrOf y).Perm (pairsOf l)->Up rk (arrOf y) l.length->P (.done (.ret .none)) { s with heap:=sortedHeap s.heap a l ((arrOf y).map (·.2)) }) :
  wpAny (model prog w) A (iq.«list.sort» ⟨[.ref a],[]⟩) P E s:=by
 have U:l.length<100000:=Z6 u;rw[list_sort_plain];have la:a<s.heap.objs.size:=ax v;refine ab (gG v rfl (ab (mh v rfl ?_)));obtain⟨e1,J⟩:∃e1,(s.heap.update a (fK fun _=>#[])).get? a=some (seqObj "list" #[] e1):=⟨_,nS v (fun _=>#[])⟩;refine ab (seqEpoch_at J rfl (ab (oG (ab (ka (cE ?_))))));have I:(midH s.heap a l).get? a=some (seqObj "list" #[] e1):=by unfold midH;rw[cR _ _ _ (by rw[iN,fR];exact aN (au la (uK _))),cR _ _ _ (by rw[fR];exact aN la)];exact J
 show wpAny (model prog w) A _ P E { s with heap:=midH s.heap a l };have z:l.toArray.size=l.length:=by simp
 have tail:∀(y:aS),(arrOf y).Perm (pairsOf l)->failedOf y=none->Up rk (arrOf y) l.length->wpAny (model prog w) A (do
   let touched:=(<- seqEpoch a) != e1
   rS (.ref a) fun _=>(arrOf y).map (·.2)
   if let some e:=failedOf y then rule "list.sort.comparison-raised";throw e
   if touched then rule "list.sort.modified";raiseError "ValueError" "list modified during sort"
   ret .none) P E { s with heap:=midH s.heap a l }:=fun y pm fl up=>by
  refine ab (seqEpoch_at I rfl (ab (mh I rfl ?_ (hsz2:=?_))));rw[fl];simp only[bne_self_eq_false,bG,if_false];exact aj (h y pm up);rw[Array.size_map,pm.size_eq,mR];show l.length<=sizeLine+1;have:=Z6 u;have:100000<=sizeLine:=by decide
  omega
 by_cases two:l.length<2;simp only[z,two,if_true];refine ab (aj ?_);rw[StateT.run_pure];refine ab (aj ?_);exact tail (wj general' (l.toArray.zip l.toArray) #[] 7 none) (nT _) rfl fun i j Y N=>absurd N (by omega);simp only[z,two,if_false];obtain⟨kd,R,S⟩:=L (by omega);refine ab (R _ _ ?_);refine ab (cH (zl7 (Q:=fun _ y=>(arrOf y).Perm (pairsOf l)/\failedOf y=none/\Up rk (arrOf y) l.length) (z:=wj kd (l.toArray.zip l.toArray) #[] 7 none) S ⟨nT _,rfl,rfl,rfl⟩ rfl (by rw[mR];omega) u
  fun y G C x=>⟨G,C,by rwa [mR]at x⟩) ?_ fun _ _ e=>e)
 rintro⟨⟨⟩,y⟩ s' ⟨rfl,G,C,x⟩;exact tail y G C x
theorem zhM{l:ah}{v:List af}{o:Obj}{T:String}{n:Nat}{Q:List af->ak->Prop}(G:s.heap.get? l=some o)(hc:o.cls=.type T)(J:T = "list" \/ T = "tuple") (hd:o.data=.seq v.toArray n) (R:v.length<=sizeLine)
  (h:Q v { s with heap:=(s.heap.push (seqObj "list" #[] 0)).update s.heap.objs.size (fK (·++v.toArray)) }):wpAny (model prog w) A (collect (.ref l)) Q E s:=by
 unfold collect;refine ab (wpAny_runValue (nU entry_proto_collect' ?_));show wpAny (model prog w) _ (newList [] >>= fun x=>again (.builtin "list.__iadd__" ⟨[x,.ref l],[]⟩)) _ _ s;refine ab (ka (aj ⟨Code.quiet_builtin _ (by decide +kernel),nU entry_list_iadd' ?_⟩));show wpAny (model prog w) _ (iy (.ref s.heap.objs.size) (.ref l) (.ref s.heap.objs.size)) _ _ { s with heap:=s.heap.push (seqObj "list" #[] 0) };unfold iy;have C:(s.heap.push (seqObj "list" #[] 0)).get? l=some o:=ai _ G;refine ab (ir (T:=T) ⟨o,C,hc⟩ ?_);have cond:∀b:Bool,(b||bY T == bY "list" ||bY T == bY "tuple")=true:=by intro b;have N:(bY "list" == bY "list")=true:=rfl;have I:(bY "tuple" == bY "tuple")=true:=rfl;rcases J with rfl|rfl;rw[N];simp;rw[I];simp
 rw[if_pos (cond _)];refine ab (gG C hd (ab (gG (xs:=#[]) (n:=0) (aB _ rfl) rfl ?_)));rw[if_neg (by simp)];refine ab (mh (xs:=#[]) (n:=0) (aB _ rfl) rfl (aj ?_) (b5 _) (by simp only[Array.size_append,ay,bO];omega));refine ab (m:=load s.heap.objs.size) (wpAny_load (nS (aB _ rfl) _) ?_);show wpAny (model prog w) A (pure ((#[]:Array af)++v.toArray).toList) Q E _;have e:((#[]:Array af)++v.toArray).toList=v:=by simp
 rw[e];exact aj h
end
section
variable{prog:aI}{w:aT}{A:bu}{E:qV}{s:ak}
theorem zkD(b:Bool)(x y:af):keyLt' (tuples' b) x y=(do
  let xs <- gH x;let ys <- gH y
  for ((p,q),i) in (xs.toList.zip ys.toList).zipIdx do
   if !(<- eqBool p q) then return <- oneLt' (b&&i == 0) p q
  return decide (xs.size<ys.size)):=rfl
def LtAt(prog:aI)(w:aT)(A:bu)(s:ak)(one:Bool)(p q:af)(l:Bool):Prop:=∀(E:qV) (Q:Bool->ak->Prop),Q l s->wpAny (model prog w) A (oneLt' one p q) Q E s
theorem zkC{b:Bool}{x y:ah}{R N:Obj}{u v l q1:af}{n m:Nat}{C G J l1:Bool}{Q:Bool->ak->Prop}(hx:s.heap.get? x=some R)(S:R.data=.seq #[u,v] n)(Z:s.heap.get? y=some N)(Y:N.data=.seq #[l,q1] m)
  (e0:ot A s u l C) (e1:ot A s v q1 G) (t0:C=false->LtAt prog w A s b u l J) (t1:G=false->LtAt prog w A s false v q1 l1) (h:Q (if C=true then(if G=true then false else l1) else J) s) :
  wpAny (model prog w) A (keyLt' (tuples' b) (.ref x) (.ref y)) Q E s:=by
 rw[zkD];refine ab (gG hx S (ab (gG Z Y ?_)));have ez:((#[u,v]:Array af).toList.zip (#[l,q1]:Array af).toList).zipIdx=[((u,l),0),((v,q1),1)]:=rfl;simp only[ez,hG,iL];refine ab (ab ?_);refine ab (e0 prog w E _ ?_);cases C with
 | false =>
  simp only[eT,if_true];have z0:(b&&(0:Nat) == 0)=b:=by simp
  rw[z0];refine ab (t0 rfl E _ ?_);exact aj (aj (aj (by simpa using h)))
 | true =>
  simp only[fC,bG,if_false];refine aj (ab (ab (e1 prog w E _ ?_)));cases G with
  | false =>
   simp only[eT,if_true];have U:(b&&(1:Nat) == 0)=false:=by simp
   rw[U];refine ab (t1 rfl E _ ?_);exact aj (aj (aj (by simpa using h)))
  | true =>simp only[fC,bG,if_false];exact aj (aj (aj (by simpa using h)))
theorem zkf(a b:Int)(t u:Tok):LtAt prog w A s true (.int a t) (.int b u) (decide (a<b)):=fun _ _ q=>oneLt_int q
theorem zmH(a b:Int)(t u:Tok):LtAt prog w A s false (.int a t) (.int b u) (decide (a<b)):=fun E Q q=>by rw[oneLt'_eq];simp only[bG,if_false];refine ab (show wpAny (model prog w) A (compareOp .Lt (.int a t) (.int b u)) _ E s from lt_int ?_);exact cf q
def PrIn(h:bt)(u:af)(b k:Int):Prop:=∃(a:ah) (o:Obj) (t t':Tok) (n:Nat),u=.ref a/\h.get? a=some o/\o.cls=.type "tuple" /\ o.data=.seq #[.int b t,.int k t'] n
def two?:List af->Int
 | [.int b _,.int k _]=>b*1000+k
 | _=>0
def rkC(h:bt)(u:af):Int:=match u with
 | .ref a=>match h.get? a with
  | some o=>match o.data with
   | .seq xs _=>two? xs.toList
   | _=>0
  | none=>0
 | _=>0
theorem PrIn.rk{h:bt}{u:af}{b k:Int}(p:PrIn h u b k):rkC h u=b*1000+k:=by obtain⟨a,o,t,t',n,rfl,e1,_,e2⟩:=p;unfold rkC;dsimp only;rw[e1];dsimp only;rw[e2];rfl
theorem PrIn.kept{h h':bt}{u:af}{b k:Int}(p:PrIn h u b k)(kp:∀b o,h.get? b=some o->h'.get? b=some o):PrIn h' u b k:=by obtain⟨a,o,t,t',n,l,e1,e2,v⟩:=p;exact⟨a,o,t,t',n,l,kp _ _ e1,e2,v⟩
theorem zfn{α u:Type}{f:α->Sem u}{P:α->u->Prop}{M:rH}:∀(l:List α) {Q:List u->ak->Prop},(∀v∈l,∀(G:u->ak->Prop),(∀r,P v r->G r s)->wpAny M A (f v) G E s)->(∀rs,gm P l rs->Q rs s)->wpAny M A (l.mapM f) Q E s
 | [],_,_,h=>by rw[List.mapM_nil];exact aj (h _ .nil)
 | x::l,Q,hf,h=>by rw[List.mapM_cons];exact ab (hf x (.head _) _ fun r I=>ab (zfn l (fun v J=>hf v (.tail _ J)) fun rs C=>aj (h _ (.cons I C))))
theorem zm5(v:af):firstOfTuple' v=(do
  if (<- typeOf v) != .type "tuple" then return none
  return (<- gH v)[0]?):=rfl
theorem zi3{L:List af}{Q:dY->ak->Prop}(Y:1<=L.length)(N:∀v∈L,∃b k,PrIn s.heap v b k)(h:Q (tuples' true) s):wpAny (model prog w) A (keyKind' L.toArray) Q E s:=by
 rw[keyKind'_eq,mS,map_eq_pure_bind];refine ab (ab (zfn (P:=fun _ r=>∃(b:Int) (t:Tok),r=some (.int b t)) L (fun v Z Q' hq=>?_) fun rs I=>aj ?_));obtain⟨b,k,a,o,t,t',n,rfl,e1,e2,e3⟩:=N v Z;rw[zm5];refine ab (ir (T:="tuple") ⟨o,e1,e2⟩ ?_);rw[if_neg (by decide)];exact ab (gG e1 e3 (aj (hq _ ⟨b,t,rfl⟩)));have al:∀r∈rs,∃(b:Int) (t:Tok),r=some (.int b t):=by
  clear h N Y;induction I with
  | nil=>intro r u;cases u
  | cons x y G =>intro r u;rcases aq.mp u with rfl|u;exact x;exact G r u
 have ln:rs.length=L.length:=by
  clear h N Y al;induction I with
  | nil=>rfl
  | cons x y G=>simp[G]
 have HP:(rs.toArray.all fun x=>x.isSome)=true:=by simp only[ni,bw];intro x hx;obtain⟨b,t,rfl⟩:=al x hx;rfl
 rw[if_pos HP];refine ab (dN ?_);rw[oneTypeOnly'_eq];have R:rs.toArray.filterMap id=(rs.filterMap id).toArray:=by simp
 rw[R,mS,map_eq_pure_bind];refine ab (ab (ab (zfn (P:=fun _ r=>r=bY "int") _ (fun v Z Q' hq=>?_) fun ts C=>aj ?_)));obtain⟨x,hx,e⟩:=iC.mp Z;obtain⟨b,t,rfl⟩:=al x hx;cases e;exact aj (hq _ rfl);have J:∀r∈ts,r=bY "int":=by
  clear h N Y;generalize rs.filterMap id=l at C;induction C with
  | nil=>intro r u;cases u
  | cons x y G =>intro r u;rcases aq.mp u with rfl|u;exact x;exact G r u
 have ln2:ts.length=rs.length:=by
  have:ts.length=(rs.filterMap id).length:=by
   clear h N Y J;generalize rs.filterMap id=l at C;induction C with
   | nil=>rfl
   | cons x y G=>simp[G]
  rw[this];clear this C R HP;clear ln I;induction rs with
  | nil=>rfl
  | cons x l G =>obtain⟨b,t,rfl⟩:=al x (.head _);simp only[cS,id,aF];rw[G fun r u=>al r (.tail _ u)]
 obtain⟨S,U,rfl⟩:∃S U,ts=S::U:=by
  cases ts with
  | nil=>simp at ln2;omega
  | cons a b=>exact⟨a,b,rfl⟩
 have e1:S=bY "int":=J S (.head _);subst e1;have Ig:(((bY "int")::U).toArray.all fun x=>x == bY "int")=true:=by simp only[ni,bw];intro x hx;rw[J x hx];rfl
 have h0:((bY "int")::U).toArray[0]?=some (bY "int"):=by simp
 rw[h0];simp only[Ig,if_true];refine aj (aj ?_);exact h
theorem zhq{l:List af}{h0:bt}(G:∀v∈l,∃b k,PrIn s.heap v b k/\rkC h0 v=b*1000+k/\0<=k/\k<1000):Kinds prog w A s (rkC h0) l:=fun h2=>by
 refine⟨tuples' true,fun E Q q=>zi3 (by omega) (fun v N=>?_) q,fun p q E Q mp S h=>?_⟩;obtain⟨b,k,h,_⟩:=G v N;exact⟨b,k,h⟩;have mem:∀z∈(pairsOf l).toList,z.1∈l:=fun z hz=>by
  have:z∈l.zip l:=by simpa[pairsOf] using hz
  exact(ft this).1
 obtain⟨b,k,⟨a,o,t,t',n,e0,e1,e2,Z⟩,U,k0,k1⟩:=G _ (mem p mp);obtain⟨x,C,⟨a',o',u,I,n',f0,f1,f2,R⟩,Y,J,k1'⟩:=G _ (mem q S);rw[U,Y]at h;rw[e0,f0];refine zkC e1 Z f1 R (iG b t x u) (iG k t' C I) (fun _=>zkf b x t u) (fun _=>zmH k C t' I) ?_;have:(if (b == x)=true then(if (k == C)=true then false else decide (k<C)) else decide (b<x))=decide (b*1000+k<x*1000+C):=by simp only[beq_iff_eq];split;split;symm;rw[decide_eq_false_iff_not];omega;rw[decide_eq_decide];omega;rw[decide_eq_decide];omega
 rw[this];exact h
end
theorem zic{α u:Type}{l:List (α×u)}{m:List u}(h:m.Perm (l.map (·.2))):∃o:List (α×u),o.Perm l/\o.map (·.2)=m:=by
 induction m generalizing l with
 | nil =>
  have:l.map (·.2)=[]:=h.symm.eq_nil;cases l with
  | nil=>exact⟨[],.refl _,rfl⟩
  | cons a b=>simp at this
 | cons x m G =>
  have hx:x∈l.map (·.2):=h.mem_iff.mp (.head _);obtain⟨z,C,rfl⟩:=aY.mp hx;obtain⟨l1,l2,rfl⟩:=List.append_of_mem C;have v:(z.2::m).Perm (z.2::(l1++l2).map (·.2)):=by refine h.trans ?_;simp only[dO,aK];exact nj
  obtain⟨o,p,e⟩:=G (List.perm_cons _|>.mp v);exact⟨z::o,(p.cons z).trans nj.symm,by simp[e]⟩
theorem zhc{α u:Type}{F:α->u->Prop}{o:List α}{l:List u}(r:gm F o l){b:u}(h:b∈l):∃a∈o,F a b:=by
 induction r with
 | nil=>cases h
 | cons f t v =>rcases aq.mp h with rfl|h;exact⟨_,cj,f⟩;obtain⟨b,hb,g⟩:=v h;exact⟨b,bP _ hb,g⟩
theorem zl_{α:Type}{P:α->af->Prop}{rk:af->Int}{f:α->Int}{u:List af}{J:List α}{y:aS}(hv:gm P J u)(hr:∀a v,P a v->rk v=f a)(pm:(arrOf y).Perm (pairsOf u))(up:Up rk (arrOf y) u.length) :
  ∃bs:List α,bs.Perm J/\bs.Pairwise (fun a b=>f a<=f b)/\gm P bs ((arrOf y).map (·.2)).toList:=by
 have C:(arrOf y).toList.Perm (u.zip u):=by have:=ee.mp pm;simpa[pairsOf] using this
 have hl:J.length=u.length:=l7 hv;have each:∀x∈J.zip u,P x.1 x.2:=by
  clear pm up C hl;induction hv with
  | nil=>intro x hx;simp at hx
  | cons h t ih =>intro x hx;rcases aq.mp (by simpa using hx) with rfl|hx;exact h;exact ih x hx
 have N:((arrOf y).toList.map (·.2)).Perm ((J.zip u).map (·.2)):=by refine(C.map _).trans ?_;rw[kC (aw _),kC (by lia)]
 obtain⟨G,Y,R⟩:=zic N;have S:∀x∈G,P x.1 x.2:=fun x hx=>each x (Y.mem_iff.mp hx);have HQ:∀z∈(arrOf y).toList,z.1=z.2:=fun z hz=>by have:z∈u.zip u:=C.mem_iff.mp hz;obtain⟨i,hi,rfl⟩:=dQ this;simp
 have U:(arrOf y).size=u.length:=by have:=C.length_eq;simpa using this
 refine⟨G.map (·.1),?_,?_,?_⟩;have:=Y.map (·.1);rwa [List.map_fst_zip (by lia)]at this;rw[eM,cY];intro i j hi hj Z;have lw:G.length=u.length:=by have:=congrArg eI R;simpa[U] using this
 have gw:∀k (hk:k<G.length),rkAt rk (arrOf y) k=f G[k].1:=fun k hk=>by
  have I:k<(arrOf y).size:=by lia
  have e1:(arrOf y).toList[k]'(by simpa using I)=(arrOf y)[k]:=by simp
  have e2:G[k].2=(arrOf y)[k].2:=by
   have:(G.map (·.2))[k]'(by simpa using hk)=((arrOf y).toList.map (·.2))[k]'(by simpa using I):=by simp only[R]
   simpa using this
  have e3:(arrOf y)[k].1=(arrOf y)[k].2:=HQ _ (by rw[<- e1];exact gT _);unfold rkAt;rw[iT I];simp only[hY,fQ];rw[e3,<- e2];exact hr _ _ (S _ (gT _))
 have:=up i j Z (by lia);rwa [gw i hi,gw j hj]at this;rw[Array.toList_map,<- R];clear Y R N pm up;induction G with
 | nil=>exact .nil
 | cons a l ih=>exact .cons (S a (.head _)) (ih fun x hx=>S x (.tail _ hx))
section
variable{prog:aI}{w:aT}{A:bu}{E:qV}{s:ak}{rk:af->Int}
theorem zho{h:bt}{u:List af}{b:ah}{o:Obj}(hb:h.get? b=some o):(midH (h.push (seqObj "list" u.toArray 0)) h.objs.size u).get? b=some o:=by have l:b<h.objs.size:=ax hb;unfold midH;rw[cR _ _ _ (by rw[iN,fR,iN];lia),cR _ _ _ (by rw[fR,iN];lia),lS _ _ _ _ (aN l),cR _ _ _ (aN l)];exact hb
theorem zjr{l:List af}{P:qV}(u:SrtL rk l)(G:Kinds prog w A { s with heap:=midH (s.heap.push (seqObj "list" l.toArray 0)) s.heap.objs.size l } rk l)
  (h:∀h' (y:aS) (e:Nat),(∀b o,s.heap.get? b=some o->h'.get? b=some o)->(arrOf y).Perm (pairsOf l)->Up rk (arrOf y) l.length->h'.get? s.heap.objs.size=some (seqObj "list" ((arrOf y).map (·.2)) e)->P .none { s with heap:=h' }) :
  wpAny (model prog w) A (iq.«list.sort» ⟨[.ref s.heap.objs.size],[]⟩) (fun f s'=>∃v,f=.done (.ret v)/\P v s') E { s with heap:=s.heap.push (seqObj "list" l.toArray 0) }:=by
 have x:(s.heap.push (seqObj "list" l.toArray 0)).get? s.heap.objs.size=some (seqObj "list" l.toArray 0):=aB _ rfl;refine zmI (s:={ s with heap:=s.heap.push (seqObj "list" l.toArray 0) }) x u G fun y C J=>⟨_,rfl,?_⟩;obtain⟨e,I⟩:=sortedHeap_at (out:=(arrOf y).map (·.2)) x;refine h _ y e (fun b o hb=>?_) C J I;have lt:=ax hb;rw[sortedHeap_old (aN lt) (by rw[iN];exact mT lt),cR _ _ _ (aN lt)];exact hb
end
section
variable{prog:aI}{w:aT}{A:bu}{E:qV}{s:ak}{rk:bt->af->Int}
theorem zg5{x:af}{C:bt->Nat->List af->Prop}{Q:qV}(L:∀(N:bu) (E':qV) (S:List af->ak->Prop),N.handled=A.handled->(∀h' G d v,C h' G v->S v { s with heap:=h',toks:=G,drawn:=d })->wpAny (model prog w) N (collect x) S E' s)
  (R:∀h' G v,C h' G v->SrtL (rk h') v)
  (hk:∀h' G d v (N:bu),C h' G v->N.units<=A.units+16->Kinds prog w N { s with heap:=midH (h'.push (seqObj "list" v.toArray 0)) h'.objs.size v,toks:=G,drawn:=d } (rk h') v)
  (h:∀h' G d v J (y:aS) (e:Nat),C h' G v->(∀b o,h'.get? b=some o->J.get? b=some o)->(arrOf y).Perm (pairsOf v)->Up (rk h') (arrOf y) v.length->J.get? h'.objs.size=some (seqObj "list" ((arrOf y).map (·.2)) e)->Q (.ref h'.objs.size) { s with heap:=J,toks:=G,drawn:=d }) :
  wpAny (model prog w) A (call (.builtin "sorted") [x]) Q E s:=by
 have hs:100000<=sizeLine:=by decide
 refine Calls.call_function_entry kind_sorted plain_sorted entry_sorted (args_sorted1 _) ?_;unfold iq.«sorted»;refine ab (m:=checkCount "sorted" 1 1 _) (aj (ab (L _ _ _ rfl fun h' G d v c=>?_)));have I:=R h' G v c;have lt:=Z6 I;refine ab (ka (hsz:=by show v.toArray.size<=_;rw[ay];lia) ?_);have U:(h'.push (seqObj "list" v.toArray 0)).get? h'.objs.size=some (seqObj "list" v.toArray 0):=aB _ rfl;refine ab (cE (eS slot_list_sort ⟨_,U,rfl⟩ entry_list_sort ?_ (args_list_sort _)));refine zjr (s:={ s with heap:=h',toks:=G,drawn:=d }) I (hk h' G d v _ c (by show A.units+1+1<=_;lia)) fun J y e kp Z Y he=>?_;exact aj ⟨_,rfl,h h' G d v J y e c kp Z Y he⟩
end
section
variable{X:Cx}
theorem ztk{pins:qO}{σ:St}{H:Hp}{s:ak}{q:ah}{b k:Int}(I:Inv X pins σ H s)(h:SqT X.K H q [.int b,.int k]):PrIn s.heap (.ref q) b k:=by
 obtain⟨is,rs,⟨o,f1,f2,n,l⟩,_⟩:=I.tuple h;cases rs with
 | cons a1 a2 =>
  cases a2 with
  | cons v u =>cases u;obtain⟨t,rfl⟩:=a1;obtain⟨t',rfl⟩:=v;exact⟨q,o,t,t',n,rfl,f1,f2,l⟩
theorem Rep.bkI{K:qF}{hd:Option ah}{O:ah->Prop}{H:Hp}{v:V}{a b:Int}(h:Rep K hd O H v (.tuple [.int a,.int b])):∃q,v=.ref q/\SqT K H q [.int a,.int b]:=by
 obtain⟨q,I,rfl,sq,x⟩:=h.tupI;cases x with
 | cons x1 o =>
  cases o with
  | cons G C =>cases C;rw[x1.intI,G.intI]at sq;exact⟨q,rfl,sq⟩
theorem Inv.drw{X:Cx}{pins:qO}{σ:St}{H:Hp}{s:ak}(I:Inv X pins σ H s)(d:_):Inv X pins σ H { s with drawn:=d }:=⟨I.ok,I.os,I.bare,I.base,I.loc,I.cell,I.free,I.freeC,I.pin,I.hok,I.len⟩
def SrtW(X:Cx)(ts:qD)(R:List ae->Prop):Prop:=∃(α:Type) (D:α->ae) (P:bt->af->α->Prop) (f:α->Int) (rk:bt->af->Int) (x:List α),ts=x.map D/\SrtL f x /\
 (∀{pins σ H s hd O v u a},a∈x->Inv X pins σ H s->Rep X.K hd O H v (D a)->RelV v u->P s.heap u a)/\(∀{h h' u a},P h u a->(∀b o,h.get? b=some o->h'.get? b=some o)->P h' u a/\rk h u=f a) /\
 (∀{A s h0 vs},A.units<cLine->(∀u∈vs,∃a∈x,P s.heap u a/\rk h0 u=f a)->Kinds X.prog X.w A s (rk h0) vs) /\
 ∀l:List α,l.Perm x->l.Pairwise (fun a b=>f a<=f b)->R (l.map D)
theorem zgO(hu:X.A.units+64<cLine):JU X (.builtin "sorted") (fun xs H Q=>∃(p:ah) (J:List V) (ts:qD) (hd:Option ah) (O:ah->Prop),xs=[.ref p]/\(SqL X.K H p J\/SqT X.K H p J)/\Reps X.K hd O H J ts /\
  SrtW X ts fun ts'=>∀U l,Reps X.K hd O H U ts'->H l=none->Q (.ref l) (upd H l (.lst U))):=by
 intro pins s σ H xs us Q I r h;obtain⟨p,J,ts,hd,O,rfl,N,rp,α,D,P,f,rk,Y,rfl,R,tell,kept,kin,q⟩:=h;obtain⟨u,rfl,rx⟩:=vals1 r;cases rx;have hs:100000<=sizeLine:=by decide
 have lt:=Z6 R;have lv:J.length=Y.length:=by simpa using rp.length
 have key:∀(G:List af) (o:Obj) (T:String) (n:Nat),Vals J G->s.heap.get? p=some o->o.cls=.type T->(T = "list" \/ T = "tuple")->o.data=.seq G.toArray n ->
   wpAny (model X.prog X.w) X.A (call (.builtin "sorted") [.ref p]) (EP X pins σ Q) X.xe s:=fun G o T n rv S hc hT hd'=>by
  have li:=rv.length;have go:∀h':bt,(∀b o,s.heap.get? b=some o->h'.get? b=some o)->gm (fun(z:V×α) (u:af)=>RelV z.1 u/\Rep X.K hd O H z.1 (D z.2)/\P h' u z.2) (J.zip Y) G/\Y.map f=G.map (rk h'):=fun h' kp=>by
   have go:∀(bs:List α) (J:List V) (G:List af),(∀b∈bs,b∈Y)->Reps X.K hd O H J (bs.map D)->Vals J G->gm (fun(z:V×α) (u:af)=>RelV z.1 u/\Rep X.K hd O H z.1 (D z.2)/\P h' u z.2) (J.zip bs) G/\bs.map f=G.map (rk h'):=by
    intro bs;induction bs with
    | nil=>intro J G _ r v;cases r;cases v;exact⟨.nil,rfl⟩
    | cons b bs Z =>
     intro J G hb r v;cases r with
     | cons r1 r2 =>
      cases v with
      | cons v1 v2 =>obtain⟨i1,i2⟩:=Z _ _ (fun c hc=>hb c (.tail _ hc)) r2 v2;have p:=(kept (tell (hb b (.head _)) I r1 v1) kp).1;exact⟨.cons ⟨v1,r1,p⟩ i1,by rw[aK,aK,i2,(kept p fun _ _ e=>e).2]⟩
   exact go Y J G (fun _ h=>h) rp rv
  refine zg5 (A:=X.A) (x:=.ref p) (rk:=rk) (C:=fun h' tk ws=>ws=G/\(∀b o,s.heap.get? b=some o->h'.get? b=some o)/\s.heap.objs.size<=h'.objs.size) ?_ ?_ ?_ ?_;intro A' E' Q' hA N;refine zhM S hc hT hd' (by lia) ?_;have hq':=N ((s.heap.push (seqObj "list" #[] 0)).update s.heap.objs.size (fK (·++G.toArray))) s.toks s.drawn G ⟨rfl,fun b ob hb=>?_,?_⟩;exact hq';rw[lS _ _ _ _ (aN (ax hb))];exact ai _ hb;rw[fR,iN];exact uK _;rintro h' tk ws ⟨rfl,kp,_⟩;exact zlX R (go h' kp).2;rintro h' tk d ws A' ⟨rfl,kp,_⟩ hA';refine kin (by lia) fun u hu=>?_;obtain⟨x,mx,_,_,p⟩:=zhc (go h' kp).1 hu;exact⟨x.2,(ft mx).2,(kept p fun b o e=>zho e).1,(kept p fun _ _ e=>e).2⟩;rintro h' tk d ws h2 y e ⟨rfl,kp,sz⟩ kp2 pm up he;obtain⟨zs,p1,p2,p3⟩:=zl_ (f:=fun x=>f x.2) (go h' kp).1 (fun x u hx=>(kept hx.2.2 fun _ _ e=>e).2) pm up;obtain⟨rv',rp'⟩:Vals (zs.map (·.1)) ((arrOf y).map (·.2)).toList/\Reps X.K hd O H (zs.map (·.1)) ((zs.map (·.2)).map D):=by
   clear p1 p2 he;generalize ((arrOf y).map (·.2)).toList=out at p3;induction p3 with
   | nil=>exact⟨.nil,.nil⟩
   | cons h _ Z=>exact⟨.cons h.1 Z.1,.cons h.2.1 Z.2⟩
  refine⟨.ref h'.objs.size,_,((I.laid (a:=h'.objs.size) (o:=.lst (zs.map (·.1))) (t':=tk) (fun b o hb=>kp2 b o (kp b o hb)) sz ⟨?_,_,e,rv',by rw[he]⟩).drw d),rfl,q (zs.map (·.2)) ?_ (by rw[eM];exact p2) _ _ rp' (I.hok.fresh sz)⟩;have:=p1.length_eq;rw[aJ];simp at this;lia;have:=p1.map (·.2);rwa [kC (by lia)]at this
 rcases N with N|N;obtain⟨G,r',pl,hz⟩:=I.list N;obtain⟨o,S,hc,n,hd⟩:=pl.isList;exact key G o "list" n r' S hc (.inl rfl) hd;obtain⟨G,r',pl,hz⟩:=I.tuple N;obtain⟨o,S,hc,n,hd⟩:=pl;exact key G o "tuple" n r' S hc (.inr rfl) hd
theorem zi7{e:aO}{d:DTE}{pos p:Pos}{k:Nat}{L:ae->(List ae->Prop)->Prop}(hL:∀t R,L t R->Qn t fun ts=>SrtW X ts R)(hr:Room k X.A)(hm:X.mg "sorted" = none) (h:DL X e d) (hs:starEach [e] X.env=[(false,eval e X.env)]) (hg:Gl X "sorted") :
  DN X (.Call (.Name "sorted" p) [e] [] pos) (fun U n R=>d U n fun t n1=>L t fun ts=>R ts n1):=by
 obtain⟨ta,pa,h⟩:=h;refine⟨_,YH (zgO (by have:=hr.un;lia)) hm boot_sorted (JX pa Qo hs) hg,fun C U σ H n Q R S hd hq=>?_⟩;refine h C U σ H n _ _ S hd fun t n1 v x r1 e1 h1 q1=>?_;have r2:=hL t _ r1;have go:∀(p:ah) u ts,(SqL X.K x p u\/SqT X.K x p u)->Reps X.K C.hd (Own C U σ) x u ts->(SrtW X ts fun ts=>R ts n1)->∃(p':ah) (u:List V) (ts:qD) (hd:Option ah) (O:ah->Prop),[V.ref p]=[V.ref p']/\(SqL X.K x p' u\/SqT X.K x p' u)/\Reps X.K hd O x u ts /\
   SrtW X ts fun ts'=>∀G l,Reps X.K hd O x G ts'->x l=none->Q (.ref l) (upd x l (.lst G)):=fun p u ts Y rp h=>by
  obtain⟨α,D,P,f,rk,as,e,h64,tell,kept,kin,q⟩:=h;exact⟨p,u,ts,C.hd,Own C U σ,rfl,Y,rp,α,D,P,f,rk,as,e,h64,tell,kept,kin,fun as' pm pw G l Z J=>hq _ n1 l G _ (q as' pm pw) (e1.trans (ExtE.new J)) (h1.same (JP J)) (Vd e1 h1 J) JA
   (Z.mono (fun b o hb z=>z.elim id fun z=>by subst z;rw[J]at hb;cases hb) fun b o _ hb=>JP J b o hb)⟩
 cases t with
 | list ts =>obtain⟨p,u,rfl,I,h2⟩:=q1.lstI;exact go p u ts (.inl (.of I)) h2 r2
 | tuple ts =>obtain⟨p,u,rfl,I,h2⟩:=q1.tupI;exact go p u ts (.inr I) h2 r2
 | _=>exact r2.elim
end
def rkD:ae->Int
 | .tuple [.int b,.int k]=>b*1000+k
 | _=>0
def IsPr(t:ae):Prop:=∃b k:Int,t=.tuple [.int b,.int k]/\0<=k/\k<1000
def YD(t:ae)(R:List ae->Prop):Prop:=Qn t fun ts=>SrtL rkD ts/\(∀x∈ts,IsPr x)/\∀l:List ae,l.Perm ts->l.Pairwise (fun a b=>rkD a<=rkD b)->R l
def zps(d:DTE):DTA:=fun l n R=>d l n fun t n1=>YD t fun ts=>R ts n1
theorem zhp{t:ae}{R l:List ae->Prop}(h:∀ts,R ts->l ts)(x:Qn t R):Qn t l:=by
 cases t with
 | list ts=>exact h _ x
 | tuple ts=>exact h _ x
 | _=>exact x
theorem zk2{X:Cx}{e:aO}{d:DTE}{pos p:Pos}{k:Nat}(Z:Room k X.A)(G:X.mg "sorted" = none) (h:DL X e d) (hs:starEach [e] X.env=[(false,eval e X.env)]) (S:Gl X "sorted":=by rfl):DN X (.Call (.Name "sorted" p) [e] [] pos) (zps d) :=
 zi7 (L:=YD) (fun t R=>zhp fun ts ⟨o,ok,q⟩=>⟨ae,id,fun h u t=>∃b k,t=.tuple [.int b,.int k]/\PrIn h u b k,rkD,rkC,ts,(nE ts).symm,o,fun {_ _ _ _ _ _ v u a} ha I r rv=>by
  obtain⟨b,k,rfl,_⟩:=ok a ha;obtain⟨q,rfl,sq⟩:=Rep.bkI r;cases(show u=cu q from rv);exact⟨b,k,rfl,ztk I sq⟩,fun⟨b,k,e,p⟩ kp=>⟨⟨b,k,e,p.kept kp⟩,by rw[p.rk,e];rfl⟩,fun _ hp=>zhq fun v U=>by
  obtain⟨a,Y,⟨b,k,rfl,p⟩,e⟩:=hp v U;obtain⟨_,_,J,k0,k1⟩:=ok _ Y;cases J;exact⟨b,k,p,e,k0,k1⟩,fun x pm pw=>by rw[nE];exact q x pm pw⟩) Z G h hs S
abbrev prD(b:Int×Int):ae:=.tuple [.int b.1,.int b.2]
def pD(bs:qB):List ae:=bs.map prD
theorem QC{bs:qB}:(pD bs).length=bs.length:=by simp[pD]
theorem znJ{i h:Int}{bs:qB}:pD bs++[.tuple [.int i,.int h]]=pD (bs++[(i,h)]):=by simp[pD]
theorem zj3{bs:qB}{k:Nat}{t:ae}(h:(pD bs)[k]?=some t):∃i g:Int,bs[k]?=some (i,g)/\t=.tuple [.int i,.int g]:=by
 unfold pD at h;rw[aU]at h;cases e:bs[k]? with
 | none=>rw[e]at h;cases h
 | some b=>rw[e]at h;cases h;exact⟨b.1,b.2,rfl,rfl⟩
def eB(b:Int×Int):Int:=b.1+2 ^ b.2.toNat
def Bks(bits:Int)(bs:qB):Prop:=∀b∈bs,IsBk bits b.1 b.2
def Ptc(bits:Int)(bs:qB):Prop:=Bks bits bs/\bs.Pairwise fun a b=>eB a<=b.1
theorem zkY(b:Int×Int):b.1<eB b:=by have:=Bd.Qp b.2.toNat;unfold eB;lia
theorem zq0{bs:qB}:Okd (.list (pD bs)):=by
 have:∀bs:List (Int×Int),bW (pD bs)=true/\cU (pD bs)<=1:=by
  intro bs;induction bs with
  | nil=>exact⟨by simp[pD,bW],by simp[pD,cU]⟩
  | cons b l o =>refine⟨?_,?_⟩;have:=o.1;simp only[pD,aK,bW,cn,rh,gi]at this ⊢;exact this;have:=o.2;simp only[pD,aK,cU,fc]at this ⊢;lia
 exact⟨by simp only[cn];exact(this bs).1,by simp only[fc];have:=(this bs).2;lia⟩
theorem zhe:Okd (.list []):=⟨by simp[cn,bW],by simp[fc,cU]⟩
theorem zo6{d:DTE}{l:En}{n:Nat}{Rl:List ae->Nat->Prop}(h:d l n fun t n1=>YD t fun ts=>Rl ts n1):zps d l n Rl:=h
theorem zrv{bits:Int}{bs:qB}{Rl:List ae->Prop}(hb:bits<=64)(B:Bks bits bs)(G:bs.Pairwise fun a b=>eB a<=b.1\/eB b<=a.1)(C:bs.length<100000)
  (h:∀cs,Ptc bits cs->cs.Perm bs->Rl (pD cs)):YD (.list (pD bs)) Rl:=by
 refine⟨zn_ (by rw[QC];exact C),fun x hx=>?_,fun v pm pw=>?_⟩;obtain⟨b,L,rfl⟩:=aY.mp hx;have:=B b L;exact⟨b.1,b.2,rfl,this.1,by have:=this.2.1;lia⟩;have I:v.Perm ((bs.map fun b=>(b,prD b)).map (·.2)):=by
  have:(bs.map fun b=>(b,prD b)).map (·.2)=pD bs:=by simp[pD]
  rw[this];exact pm
 obtain⟨zs,N,S⟩:=zic I;have U:∀z∈zs,z.2=prD z.1:=fun z J=>by obtain⟨b,_,rfl⟩:=aY.mp (N.mem_iff.mp J);rfl
 have e:v=pD (zs.map (·.1)):=by rw[<- S];unfold pD;rw[cx];exact ie fun z J=>U z J
 have pc:(zs.map (·.1)).Perm bs:=by
  have:=N.map (·.1);rw[cx]at this;have e2:bs.map ((fun x:(Int×Int)×ae=>x.1)∘fun b=>(b,prD b))=bs:=by show bs.map id=bs;exact nE _
  rwa [e2]at this
 rw[e];have u:(zs.map (·.1)).Pairwise fun a b=>eB a<=b.1\/eB b<=a.1:=(pc.pairwise_iff (fun {a b} h=>h.symm)).mpr G;have o:Bks bits (zs.map (·.1)):=fun b hb=>B b (pc.mem_iff.mp hb);rw[e]at pw;unfold pD at pw;rw[eM]at pw;refine h _ ⟨o,?_⟩ pc;have both:=xo u pw;refine kb ?_ both;rintro a b ha hb ⟨h1,R⟩;have R:a.1*1000+a.2<=b.1*1000+b.2:=R;have a0:=(o a ha).1;have a1:=(o a ha).2.1;have Y:=(o b hb).1;have Z:=(o b hb).2.1;have:=zkY a;have:=zkY b;lia
theorem zss{tg:DTG}{tt:DTT}{d:DTE}{ρ0:En}{Rl:List ae->Nat->Prop}(Inv:Nat->List ae->Nat->Prop):∀(xs:qD) (i:Nat) {o:qD}{n:Nat},Inv i o n ->
  (∀(k:Nat) (x:ae) (o:qD) (n:Nat) (K:List ae->Nat->Prop),xs[k]?=some x->Inv (i+k) o n->(∀v G,Inv (i+k+1) v G->K v G) ->
   tg x ρ0 fun C=>tt C n fun b n2=>if b=true then d C n2 fun t I=>o.length<16777216/\K (o++[t]) I else K o n2) ->
  (∀o n,Inv (i+xs.length) o n->Rl o n)->QJ tg tt d ρ0 xs o n Rl
 | [],i,o,n,h0,_,fin=>fin o n (by simpa using h0)
 | x::xs,i,o,n,h0,turn,fin=>by
  refine turn 0 x o n (fun o n=>QJ tg tt d ρ0 xs o n Rl) rfl (by simpa using h0) fun v G h'=>?_;refine zss Inv xs (i+1) (by simpa using h') (fun k u o n K e J L=>?_) (fun o n h=>fin o n ?_);refine turn (k+1) u o n K (by simpa using e) ?_ fun v G h'=>L v G ?_;have:i+(k+1)=i+1+k:=by lia
  rw[this];exact J;have:i+1+k+1=i+(k+1)+1:=by lia
  rw[this];exact h';have:i+(x::xs).length=i+1+xs.length:=by simp;lia
  rw[this]at *;exact h
theorem zll{tg:DTG}{tt:DTT}{d:DTE}{ρ0:En}{Rl:List ae->Nat->Prop}{xs:qD}{n:Nat}(Inv:Nat->List ae->Nat->Prop)(h0:Inv 0 [] n)
  (turn:∀(k:Nat) (x:ae) (l:qD) (n:Nat) (K:List ae->Nat->Prop),xs[k]?=some x->Inv k l n->(∀o v,Inv (k+1) o v->K o v) ->
   tg x ρ0 fun u=>tt u n fun b n2=>if b=true then d u n2 fun t C=>l.length<16777216/\K (l++[t]) C else K l n2)
  (fin:∀l n,Inv xs.length l n->Rl l n):QJ tg tt d ρ0 xs [] n Rl :=
 zss Inv xs 0 h0 (fun k x l n K e G I=>turn k x l n K e (by simpa using G) fun a m h=>I a m (by simpa using h)) fun l n h=>fin l n (by simpa using h)
theorem Qr{α:Type}{cs:List α}{D:α->ae}{tg:DTG}{tt:DTT}{d:DTE}{ρ0:En}{n:Nat}{Rl:List ae->Nat->Prop}(F:α->ae)(C:cs.length<=16777216)
  (step:∀b∈cs,∀(K:qN) (X:Nat->Prop),K (F b) n->tg (D b) ρ0 fun u=>tt u n fun c n2=>if c=true then d u n2 K else X n2) (fin:Rl (cs.map F) n):QJ tg tt d ρ0 (cs.map D) [] n Rl:=by
 refine zll (fun j l m=>m=n/\l=(cs.take j).map F) ⟨rfl,rfl⟩ ?_ ?_;rintro j x l m K o ⟨rfl,rfl⟩ hK;rw[aU]at o;cases eb:cs[j]? with
 | none=>rw[eb]at o;cases o
 | some b =>rw[eb]at o;cases o;obtain⟨v,e2⟩:=aL.mp eb;refine step b (aX eb) _ _ ⟨?_,hK _ _ ⟨rfl,?_⟩⟩;simp;lia;rw[dZ,eb];simp
 rintro l m ⟨rfl,rfl⟩;rw[aJ,eU];exact fin
theorem zuL{bs:List Bool}{R:ae->Prop}(h:R (.bool (bs.all id))):bAll [.list (bs.map gZ)] R:=⟨bs,rfl,h⟩
theorem Um{α:Type}{cs:List α}{f:α->Bool}{R:ae->Prop}(h:R (.bool (cs.all f))):bAll [.list (cs.map fun b=>gZ (f b))] R:=by
 have e:(cs.map fun b=>gZ (f b))=(cs.map f).map gZ:=by simp
 rw[e];refine zuL ?_;have e2:(cs.map f).all id=cs.all f:=by simp[List.all_map,iX]
 rw[e2];exact h
theorem zuu{xs:qD}{k:Nat}{x:ae}{R:ae->Prop}(e:xs[k]?=some x)(h:R x):oIx (.tuple xs) (.int (k:Int)) R:=by
 have o:k<xs.length:=by rcases mO k xs.length with z|z;exact z;rw[cc z]at e;cases e
 rw[ZD (x:=x)];exact h;unfold atI ixN;have:((0:Int)<=(k:Int)):=by lia
 have:((k:Int)<(xs.length:Int)):=by lia
 have e2:xs[k]=x:=by rw[aC o]at e;exact aQ e
 simp[o,e2]
theorem zrB{xs:qD}{i:Int}{k:Nat}{x:ae}{R:ae->Prop}(hi:i=(k:Int))(e:xs[k]?=some x)(h:R x):oIx (.tuple xs) (.int i) R:=by subst hi;exact zuu e h
theorem zpi{bs:qB}:dh (.list (pD bs)) (.list [])=bs.isEmpty:=by
 cases bs with
 | nil=>simp[pD,dh,me]
 | cons b l=>simp[pD,dh,me]
theorem Ul{many:Int}{n:Nat}{R:qN}(h0:0<many)(l:many<2 ^ 128)(o:n<=1000000000000)(h:∀r:Int,0<=r->r<many->R (.int r) (n+1)):U1 [HAND,.int many] n R:=⟨rfl,h0,l,o,h⟩
theorem ziV{i h:Int}:QQ (.tuple [.int i,.int h])=true:=by simp[QQ,YR]
theorem Bks.app{bits i h:Int}{bs:qB}(B:Bks bits bs)(C:IsBk bits i h):Bks bits (bs++[(i,h)]):=fun b hb=>by rcases aD.mp hb with z|z;exact B b z;cases ba.mp z;exact C
section
variable{prog:aI}{w:aT}{A:bu}{E:qV}{s:ak}
open HT in
theorem zcA{t sl:ah}{items:Array af}{I G:af}{lo hi:Option Int}{Q:qV}(l:og s.heap t items)(J:s.heap.IsSliceOf sl I G .none)(pl:i5 I lo)(L:i5 G hi)
  (hw:HT.sIx items.size 0 lo=0/\HT.sIx items.size items.size hi=items.size) (h:Q (.ref t) s):wpAny (model prog w) A (getItem (.ref t) (.ref sl)) Q E s:=by
 obtain⟨os,x,C,N⟩:=id J;have v:s.TypeIs (.ref sl) "slice":=⟨os,x,C⟩;unfold getItem;try with_reducible refine cE ?_
 first|refine ab (aj ?_)|skip
 refine ab (mI l.typeIs (by decide) ?_);refine ab (dH (name:=aa "__getitem__") l.typeIs bS
  (eS bS l.typeIs lQ ?_ (mm _ _)))
 show wpAny _ _ (iJ (.ref t) >>= _) _ _ s;refine ab (tupleItemsOf_ l ?_);refine ab (ir v ?_);rw[if_pos (by decide)];refine ab (HT.zb3 J pl L ?_);have u:(((HT.sIx items.size 0 lo:Nat):Int) == 0&&(1:Int) == 1&&(HT.sIx items.size items.size hi - HT.sIx items.size 0 lo) == items.size)=true:=by rw[hw.1,hw.2];simp
 show wpAny _ _ (if (((HT.sIx items.size 0 lo:Nat):Int) == 0&&(1:Int) == 1&&(HT.sIx items.size items.size hi - HT.sIx items.size 0 lo) == items.size)=true then _ else _) _ _ s;rw[if_pos u];unfold oH;refine ab (ab (ir l.typeIs (aj ?_)));rw[if_pos (by decide)];exact ab (dN (aj ⟨_,rfl,aj h⟩))
end
section
variable{X:Cx}
def rSlW(K:qF):V->Option Int->Option Int->Hp->VK->Prop:=fun x lo hi H Q=>∃a xs,x=.ref a/\SqT K H a xs/\(HT.sIx xs.length 0 lo=0/\HT.sIx xs.length xs.length hi=xs.length)/\Q (.ref a) H
theorem zob:SlR X (rSlW X.K):=by
 intro pins s σ H x v N L lo hi sl Q I J G pl C h;obtain⟨a,xs,rfl,hx,hw,q⟩:=h;cases J;obtain⟨o,r,u,R⟩:=I.tuple hx;have l:o.toArray.size=xs.length:=by rw[ay];exact r.length.symm
 refine⟨"tuple",_,bS.lookup,u.typeIs,?_⟩;exact zcA u G pl C (by rw[l];exact hw) ⟨.ref a,H,I,rfl,q⟩
end
abbrev DTO:=En->Nat->(Option Int->Nat->Prop)->Prop
def DP(X:Cx)(e:Option aO)(d:DTO):Prop:=∃t,PO X e t/\∀(C:Ctx) (v:En) (σ:St) (H:Hp) (n:Nat) (Q:Option Int->Hp->Prop) (R:Option Int->Nat->Prop),Stt X.K C v σ H n->d v n R ->
 (∀o u l,R o u->ExtE C.hd H l->Hn X.K C.hd l u->Q o l)->t σ H Q
def zhK:DTO:=fun l n R=>R none n
def zpt(d:DTE):DTO:=fun o n R=>d o n fun t l=>lInt t fun i=>R (some i) l
def cutD(ts:qD)(lo hi:Option Int):List ae:=(ts.drop (HT.sIx ts.length 0 lo)).take (HT.sIx ts.length ts.length hi - HT.sIx ts.length 0 lo)
section
variable{X:Cx}{e:aO}{d:DTE}{lo hi:Option aO}{dlo dhi:DTO}{pos p2:Pos}
theorem Vi:DP X none zhK:=⟨_,zor,fun C o σ H n Q R S h l=>l none n H h ExtE.refl S.hnd⟩
theorem Vj(h:DE X e d):DP X (some e) (zpt d):=by
 obtain⟨I,pa,h⟩:=h;refine⟨_,zoq pa,fun C G σ H n Q R S hd x=>?_⟩;refine h C G σ H n _ _ S hd fun t n1 v o l e1 u q1=>?_;cases t with
 | int i =>cases q1;exact⟨i,rfl,x (some i) n1 o l e1 u⟩
 | _=>exact l.elim
theorem znh{K:qF}{hd:Option ah}{O:ah->Prop}{H:Hp}{vs ts}(r:Reps K hd O H vs ts)(lo hi:Option Int):Reps K hd O H (cutV vs lo hi) (cutD ts lo hi):=by unfold cutV cutD;rw[r.length];exact(r.drop _).take _
theorem zi9{ts:qD}{lo hi:Option Int}(h:HT.sIx ts.length 0 lo=0/\HT.sIx ts.length ts.length hi=ts.length):cutD ts lo hi=ts:=by unfold cutD;rw[h.1,h.2];simp
end
structure NxS(prog:aI)(w:aT)(i a:ah)(IT:Nat->bt->Prop)(SQ:bt->Array af->Prop):Prop where
 rcd:∀k h,IT k h->∃o,h.get? i=some o/\∀v,o.data≠.cell v
 keep:∀k h h',IT k h->(∀o,h.get? i=some o->h'.get? i=some o)->IT k h'
 sk:∀h h' xs,SQ h xs->(∀o,h.get? a=some o->h'.get? a=some o)->SQ h' xs
 item:∀(A:bu) (E:qV) (k:Nat) (xs:Array af) (x:af) (s:ak) (Q:qV),IT k s.heap->SQ s.heap xs->xs[k]?=some x ->
  (∀h',IT (k+1) h'->fN i s.heap h'->Q x { s with heap:=h' })->wpAny (model prog w) A (bp (.ref i)) Q E s
 done:∀(A:bu) (E:qV) (k:Nat) (xs:Array af) (s:ak) (Q:qV),A.handled=none->IT k s.heap->SQ s.heap xs->xs[k]?=none ->
  (∀h' e,uM i s.heap h'->(∃o,h'.get? e=some o/\o.cls=.type "StopIteration")->E (.ref e) { s with heap:=h' })->wpAny (model prog w) A (bp (.ref i)) Q E s
theorem zoL{prog:aI}{w:aT}{i a:ah}:NxS prog w i a (fun k h=>h.IsListIter i a k) (fun h xs=>h.IsList a xs) where
 rcd:=fun k h ⟨o,e,c,d⟩=>⟨o,e,fun v z=>by rw[d]at z;cases z⟩
 keep:=fun k h h' x f=>x.at f
 sk:=fun h h' xs x f=>x.at f
 item:=fun A E k xs x s Q C u l h=>wpAny_nextOf_list_item C u l h
 done:=fun A E k xs s Q G C u l h=>wpAny_nextOf_list_end G C u l h
section
variable{prog:aI}{w:aT}{A:bu}{E:qV}{s:ak}
theorem zgi{i:ah}{T id:String}{Q:qV}{f:iq}(l:s.TypeIs (.ref i) T)(sl:Slot T "__next__" id) (C:entryFor table id=some f) (x:argsOk id ⟨[.ref i],[]⟩)
  (h:wpAny (model prog w) A.in1 (f ⟨[.ref i],[]⟩) (fun fin s'=>∃v,fin=.done (.ret v)/\Q v s') E s):wpAny (model prog w) A (bp (.ref i)) Q E s:=by
 unfold bp;refine ab (dH (name:=aa "__next__") l sl (eS sl l C ?_ x));refine cH h (fun fin s' u=>?_) fun _ _ e=>e;obtain⟨v,e,q⟩:=u;exact⟨v,e,aj q⟩
theorem zfO{i a:ah}{k:Nat}{xs:Array af}{x:af}{Q:qV}(u:s.heap.IsTupleIter i a k)(G:s.heap.IsTuple a xs)(v:xs[k]?=some x)
  (h:∀h',h'.IsTupleIter i a (k+1)->fN i s.heap h'->Q x { s with heap:=h' }):wpAny (model prog w) A (bp (.ref i)) Q E s:=by
 refine zgi u.typeIs iO iz (h7 _) ?_;obtain⟨o,e1,e2,l⟩:=u;obtain⟨p,f1,_,n,C⟩:=G;refine ab (m:=field (.ref i) 0) (cC e1 l (x:=.ref a) rfl ?_);have ne:¬((cu a == iA)=true):=fun z=>by cases z
 rw[if_neg ne];refine ab (m:=field (.ref i) 1) (cC e1 l (x:=.int k 0) rfl ?_);refine ab (m:=seqItems? (.ref a)) (ef f1 C ?_);simp only[fD,v];refine ab (oI e1 l (by simp) (aj ⟨x,rfl,h _ ?_ (lU ..)⟩));refine⟨_,kW _ e1 (Obj.isFreed_of_fields (mB l _)),?_,?_⟩;rw[Obj.cls_mapFields];exact e2;rw[mB l];simp[rawInt]
theorem zfP{i a:ah}{k:Nat}{xs:Array af}{Q:qV}(C:A.handled=none)(G:s.heap.IsTupleIter i a k)(L:s.heap.IsTuple a xs)(I:xs[k]?=none)
  (h:∀h' e,uM i s.heap h'->(∃o,h'.get? e=some o/\o.cls=.type "StopIteration")->E (.ref e) { s with heap:=h' }):wpAny (model prog w) A (bp (.ref i)) Q E s:=by
 refine zgi G.typeIs iO iz (h7 _) ?_;obtain⟨o,e1,e2,v⟩:=G;obtain⟨p,f1,_,n,J⟩:=L;refine ab (m:=field (.ref i) 0) (cC e1 v (x:=.ref a) rfl ?_);have ne:¬((cu a == iA)=true):=fun z=>by cases z
 rw[if_neg ne];refine ab (m:=field (.ref i) 1) (cC e1 v (x:=.int k 0) rfl ?_);refine ab (m:=seqItems? (.ref a)) (ef f1 J ?_);simp only[fD,I];refine ab (dN (ab (oI e1 v (by simp) ?_)));refine ab (m:=newExc (.type "StopIteration") []) ?_;simp only[newExc,newTuple];refine ab (dI ?_ (by size_fits));refine ab (m:=firstArgMember _ _) (wpAny_of_eq (a:=iA) (by first|rfl|(simp only[firstArgMember];rfl)) (dI ?_ (by size_fits)));simp only[raiseNew];refine ab (wpAny_handled ?_);have l:A.in1.handled=none:=C;first|rw[l]|rw[C]
 exact ab (aj (wpAny_throw (h _ _ (((lU ..).extBut.push _).push _) ⟨_,aB _ rfl,rfl⟩)))
end
theorem Heap.IsTupleIter.at'{h h':bt}{i a:ah}{k:Nat}(x:h.IsTupleIter i a k)(f:∀o,h.get? i=some o->h'.get? i=some o):h'.IsTupleIter i a k:=by obtain⟨o,e,r⟩:=x;exact⟨o,f o e,r⟩
theorem Heap.IsTuple.at'{h h':bt}{a:ah}{xs:Array af}(x:h.IsTuple a xs)(f:∀o,h.get? a=some o->h'.get? a=some o):h'.IsTuple a xs:=by obtain⟨o,e,r⟩:=x;exact⟨o,f o e,r⟩
theorem zq5{prog:aI}{w:aT}{i a:ah}:NxS prog w i a (fun k h=>h.IsTupleIter i a k) (fun h xs=>h.IsTuple a xs) where
 rcd:=fun k h ⟨o,e,c,d⟩=>⟨o,e,fun v z=>by rw[d]at z;cases z⟩
 keep:=fun k h h' x f=>Heap.IsTupleIter.at' x f
 sk:=fun h h' xs x f=>Heap.IsTuple.at' x f
 item:=fun A E k xs x s Q C u l h=>zfO C u l h
 done:=fun A E k xs s Q G C u l h=>zfP G C u l h
structure ZAp(z TI TO i1 i2 a1 a2:ah):Prop where
 p:[z,TI,TO,i1,i2].Nodup
 q:∀a∈[a1,a2],a∉[z,TI,TO,i1,i2]
section
variable{prog:aI}{w:aT}{A:bu}{E:qV}{s:ak}{z TI TO i1 i2 a1 a2:ah}{I1 I2:Nat->bt->Prop}{S1 S2:bt->Array af->Prop}
structure ZSt(z TI TO i1 i2:ah)(I1 I2:Nat->bt->Prop)(f:af)(k:Nat)(h:bt):Prop where
 zip:nF h z TI TO f
 ti:kO h TI (.ref i1) (.ref i2)
 to:∃a b,kO h TO a b
 it1:I1 k h
 it2:I2 k h
theorem zje(D:ZAp z TI TO i1 i2 a1 a2):(z≠TI/\z≠TO/\z≠i1/\z≠i2/\TI≠TO/\TI≠i1/\TI≠i2/\TO≠i1/\TO≠i2/\i1≠i2)/\(a1≠z/\a1≠TO/\a1≠i1/\a1≠i2)/\(a2≠z/\a2≠TO/\a2≠i1/\a2≠i2):=by have l:=D.p;have o:=D.q;simp only[fq,aq,av,or_false,not_or,List.nodup_nil,and_true,not_false_eq_true]at l;have q1:=o a1 (by simp);have q2:=o a2 (by simp);simp only[aq,av,or_false,not_or]at q1 q2;exact⟨⟨l.1.1,l.1.2.1,l.1.2.2.1,l.1.2.2.2,l.2.1.1,l.2.1.2.1,l.2.1.2.2,l.2.2.1.1,l.2.2.1.2,l.2.2.2⟩,⟨q1.1,q1.2.2.1,q1.2.2.2.1,q1.2.2.2.2⟩,⟨q2.1,q2.2.2.1,q2.2.2.2.1,q2.2.2.2.2⟩⟩
theorem z_item{k:Nat}{xs ys:Array af}{x y:af}{Q:qV}(D:ZAp z TI TO i1 i2 a1 a2)(N1:NxS prog w i1 a1 I1 S1)(N2:NxS prog w i2 a2 I2 S2)(st:ZSt z TI TO i1 i2 I1 I2 .none k s.heap)(s1:S1 s.heap xs)(s2:S2 s.heap ys)
  (hx:xs[k]?=some x) (hy:ys[k]?=some y)
  (hQ:∀h',ZSt z TI TO i1 i2 I1 I2 (rawInt s.heap.objs.size) (k+1) h'->kO h' s.heap.objs.size x y->h'.objs.size=s.heap.objs.size+1 ->
   (∀c o,c≠z->c≠TO->c≠i1->c≠i2->s.heap.get? c=some o->h'.get? c=some o)->Q (.ref s.heap.objs.size) { s with heap:=h' }) :
  wpAny (model prog w) A (iq.«zip.__next__» ⟨[.ref z],[]⟩) (fun fin s'=>∃v,fin=.done (.ret v)/\Q v s') E s:=by
 obtain⟨⟨d1,d2,d3,d4,d5,d6,d7,d8,d9,d10⟩,⟨e1,e2,e3,e4⟩,⟨g1,g2,g3,g4⟩⟩:=zje D;obtain⟨zip,ti,⟨va,vb,to⟩,it1,it2⟩:=st;refine ab (m:=field (.ref z) 2) (cC zip rfl (x:=.bool false) rfl ?_);refine ab (m:=field (.ref z) 3) (cC zip rfl (x:=.ref TI) rfl (ab (ef ti rfl ?_)));refine ab (m:=cF (.ref z)) ?_;unfold cF;refine ab (cC zip rfl (x:=.none) rfl (aj ?_));simp only[if_true];refine ab (dN (ab (cC zip rfl (x:=.ref TO) rfl (ab (eg zip (by simp) fun hA zA bA=>?_)))));have zA':nF hA z TI TO .ellipsis:=zA;refine ab ?_;simp only[kB,nV,hG,iL];refine ab (ab (kc (ab (m:=bp (.ref i1)) ?_)));refine N1.item _ _ k xs x _ _ (N1.keep _ _ _ it1 fun o e=>bA.extBut _ _ d3.symm e) (N1.sk _ _ _ s1 fun o e=>bA.extBut _ _ e1 e) hx fun hB it1B bB=>aj ?_;have toB:kO hB TO va vb:=bB.extBut _ _ d8 (bA.extBut _ _ d2.symm to);refine ab (ef toB rfl (ab (g8 toB fun hC toC bC=>?_)));have toC':kO hC TO x vb:=toC;refine ab (nG (aj ?_));refine ab (ab (kc (ab (m:=bp (.ref i2)) ?_)));have I:∀c o,c≠z->c≠TO->c≠i1->s.heap.get? c=some o->hC.get? c=some o:=fun c o C J L e=>bC.extBut _ _ J (bB.extBut _ _ L (bA.extBut _ _ C e));refine N2.item _ _ k ys y _ _ (N2.keep _ _ _ it2 fun o e=>I _ _ d4.symm d9.symm d10.symm e) (N2.sk _ _ _ s2 fun o e=>I _ _ g1 g2 g3 e) hy fun hD it2D bD=>aj ?_;have toD:kO hD TO x vb:=bD.extBut _ _ d9 toC';refine ab (ef toD rfl (ab (g8 toD fun u toF R=>?_)));have G:kO u TO x y:=toF;refine ab (nG (aj (aj ?_)));refine ab (ef G rfl (ab (oG ?_)));have sz:u.objs.size=s.heap.objs.size:=by rw[R.1,bD.1,bC.1,bB.1,bA.1]
 have S:∀c o,c≠z->c≠TO->c≠i1->c≠i2->s.heap.get? c=some o->u.get? c=some o:=fun c o C J L c4 e=>R.extBut _ _ J (bD.extBut _ _ c4 (I c o C J L e));have zF:nF u z TI TO .ellipsis:=R.extBut _ _ d2 (bD.extBut _ _ d4 (bC.extBut _ _ d2 (bB.extBut _ _ d3 zA')));have N:z<u.objs.size:=ax zF;refine ab (m:=fV (.ref z) (.ref u.objs.size)) ?_;unfold fV;have zG:nF (u.push { cls:=.type "tuple",data:=.seq #[x,y] }) z TI TO .ellipsis:=ai _ zF;refine ab (eg zG (by simp) fun hI zI bI=>?_);have zI':nF hI z TI TO (rawInt u.objs.size):=zI;refine eg zI' (by simp) fun Y zJ bJ=>aj ⟨_,rfl,?_⟩;have U:nF Y z TI TO (rawInt u.objs.size):=zJ;have up:∀c o,c≠z->u.get? c=some o->Y.get? c=some o:=fun c o C e=>bJ.extBut _ _ C (bI.extBut _ _ C (ai _ e));have pr:kO Y u.objs.size x y:=bJ.extBut _ _ (kH N) (bI.extBut _ _ (kH N) (aB _ rfl));have Z:Y.objs.size=u.objs.size+1:=by rw[bJ.1,bI.1,dX]
 rw[sz]at U pr Z;show Q (.ref u.objs.size) _;rw[sz];refine hQ Y ⟨U,up _ _ d1.symm (S _ _ d1.symm d5 d6 d7 ti),⟨x,y,up _ _ d2.symm G⟩,?_,?_⟩ pr Z fun c o C J L c4 e=>up c o C (S c o C J L c4 e);exact N1.keep _ _ _ it1B fun o e=>up _ _ d3.symm (R.extBut _ _ d8.symm (bD.extBut _ _ d10 (bC.extBut _ _ d8.symm e)));exact N2.keep _ _ _ it2D fun o e=>up _ _ d4.symm (R.extBut _ _ d9.symm e)
theorem z_end{k:Nat}{xs ys:Array af}{Q:PySem.Fin->ak->Prop}(hh:A.handled=none)(D:ZAp z TI TO i1 i2 a1 a2)(Z:NxS prog w i1 a1 I1 S1)(N2:NxS prog w i2 a2 I2 S2)(st:ZSt z TI TO i1 i2 I1 I2 .none k s.heap)(s1:S1 s.heap xs)(s2:S2 s.heap ys)
  (hxy:xs[k]?=none\/ys[k]?=none)
  (hE:∀h' e,(∀c o,c≠z->c≠TO->c≠i1->c≠i2->s.heap.get? c=some o->h'.get? c=some o)->(∃o,h'.get? e=some o/\o.cls=.type "StopIteration")->E (.ref e) { s with heap:=h' }) :
  wpAny (model prog w) A (iq.«zip.__next__» ⟨[.ref z],[]⟩) Q E s:=by
 obtain⟨⟨d1,d2,d3,d4,d5,d6,d7,d8,d9,d10⟩,⟨e1,e2,e3,e4⟩,⟨g1,g2,g3,g4⟩⟩:=zje D;obtain⟨zip,ti,⟨va,vb,to⟩,it1,it2⟩:=st;refine ab (m:=field (.ref z) 2) (cC zip rfl (x:=.bool false) rfl ?_);refine ab (m:=field (.ref z) 3) (cC zip rfl (x:=.ref TI) rfl (ab (ef ti rfl ?_)));refine ab (m:=cF (.ref z)) ?_;unfold cF;refine ab (cC zip rfl (x:=.none) rfl (aj ?_));simp only[if_true];refine ab (dN (ab (cC zip rfl (x:=.ref TO) rfl (ab (eg zip (by simp) fun hA zA R=>?_)))));have L:nF hA z TI TO .ellipsis:=zA;refine ab ?_;simp only[kB,nV,hG,iL];refine ab (ab (kc (ab (m:=bp (.ref i1)) ?_)));have S:=Z.keep _ _ _ it1 fun o e=>R.extBut _ _ d3.symm e;have U:=Z.sk _ _ _ s1 fun o e=>R.extBut _ _ e1 e;cases hx:xs[k]? with
 | none =>
  refine Z.done _ _ k xs _ _ hh S U hx fun hB e I u=>?_;obtain⟨oe,v,hc⟩:=u;have zB:nF hB z TI TO .ellipsis:=I _ _ d3 L;have ez:e≠z:=fun y=>by subst y;rw[zB]at v;cases v;simp at hc
  exact eg zB (by simp) fun hC _ N=>hE hC e (fun c o G _ J _ y=>N.extBut _ _ G (I _ _ J (R.extBut _ _ G y))) ⟨oe,N.extBut _ _ ez v,hc⟩
 | some x =>
  have hy:ys[k]?=none:=by rcases hxy with h|h;rw[hx]at h;cases h;exact h
  refine Z.item _ _ k xs x _ _ S U hx fun hB it1B I=>aj ?_;have Y:kO hB TO va vb:=I.extBut _ _ d8 (R.extBut _ _ d2.symm to);refine ab (ef Y rfl (ab (g8 Y fun hC toC N=>?_)));refine ab (nG (aj ?_));refine ab (ab (kc (ab (m:=bp (.ref i2)) ?_)));have C:∀c o,c≠z->c≠TO->c≠i1->s.heap.get? c=some o->hC.get? c=some o:=fun c o G c2 J e=>N.extBut _ _ c2 (I.extBut _ _ J (R.extBut _ _ G e));refine N2.done _ _ k ys _ _ hh (N2.keep _ _ _ it2 fun o e=>C _ _ d4.symm d9.symm d10.symm e) (N2.sk _ _ _ s2 fun o e=>C _ _ g1 g2 g3 e) hy fun hD e bD u=>?_;obtain⟨oe,v,hc⟩:=u;have zD:nF hD z TI TO .ellipsis:=bD _ _ d4 (N.extBut _ _ d2 (I.extBut _ _ d3 L));have ez:e≠z:=fun y=>by subst y;rw[zD]at v;cases v;simp at hc
  exact eg zD (by simp) fun hF _ bF=>hE hF e (fun c o G c2 J c4 y=>bF.extBut _ _ G (bD _ _ c4 (C c o G c2 J y))) ⟨oe,bF.extBut _ _ ez v,hc⟩
theorem zpS{k:Nat}{xs l:Array af}{x y:af}{Q:Option af->ak->Prop}(D:ZAp z TI TO i1 i2 a1 a2)(v:NxS prog w i1 a1 I1 S1)(G:NxS prog w i2 a2 I2 S2)(st:ZSt z TI TO i1 i2 I1 I2 .none k s.heap)(s1:S1 s.heap xs)(s2:S2 s.heap l)
  (hx:xs[k]?=some x) (L:l[k]?=some y)
  (R:∀h',ZSt z TI TO i1 i2 I1 I2 (rawInt s.heap.objs.size) (k+1) h'->kO h' s.heap.objs.size x y->h'.objs.size=s.heap.objs.size+1 ->
   (∀c o,c≠z->c≠TO->c≠i1->c≠i2->s.heap.get? c=some o->h'.get? c=some o)->Q (some (.ref s.heap.objs.size)) { s with heap:=h' }) :
  wpAny (model prog w) A (pyNext (.ref z)) Q E s:=by
 have u:s.TypeIs (.ref z) "zip":=⟨_,st.zip,rfl⟩;unfold pyNext;exact ab (mf (dH (name:=aa "__next__") u ic (eS ic u nq
  (z_item D v G st s1 s2 hx L fun h' I C J N=>aj (R h' I C J N)) (mW _))))
theorem zpR{k:Nat}{xs u:Array af}{Q:Option af->ak->Prop}(J:A.handled=none)(D:ZAp z TI TO i1 i2 a1 a2)(x:NxS prog w i1 a1 I1 S1)(G:NxS prog w i2 a2 I2 S2)(st:ZSt z TI TO i1 i2 I1 I2 .none k s.heap)(s1:S1 s.heap xs)(s2:S2 s.heap u)
  (l:xs[k]?=none\/u[k]?=none) (L:∀h',(∀c o,c≠z->c≠TO->c≠i1->c≠i2->s.heap.get? c=some o->h'.get? c=some o)->Q none { s with heap:=h' }):wpAny (model prog w) A (pyNext (.ref z)) Q E s:=by
 have v:s.TypeIs (.ref z) "zip":=⟨_,st.zip,rfl⟩;unfold pyNext;refine ab (mf (dH (name:=aa "__next__") v ic (eS ic v nq
  (z_end J D x G st s1 s2 l fun h' e I ⟨o,C,hc⟩=>?_) (mW _))))
 exact ab (wpAny_isInstance (T:="StopIteration") (b:=true) ⟨o,C,hc⟩ isSubtype_stop (aj (L _ I)))
end
def SqB(t:Bool)(K:qF)(H:Hp)(a:ah)(xs:List V):Prop:=match t with|true=>SqT K H a xs|false=>SqL K H a xs
def ITB(t:Bool)(i a:ah):Nat->bt->Prop:=match t with|true=>fun k h=>h.IsTupleIter i a k|false=>fun k h=>h.IsListIter i a k
def SQB(t:Bool)(a:ah):bt->Array af->Prop:=match t with|true=>fun h xs=>h.IsTuple a xs|false=>fun h xs=>h.IsList a xs
def itN(t:Bool):String:=match t with|true=>"tuple_iterator" | false=>"list_iterator"
theorem nx_B{prog:aI}{w:aT}{i a:ah}(t:Bool):NxS prog w i a (ITB t i a) (SQB t a):=by cases t;exact zoL;exact zq5
section
variable{X:Cx}{pins:qO}{σ:St}{H:Hp}{s:ak}
theorem Inv.seqB{t:Bool}{a:ah}{xs:List V}(I:Inv X pins σ H s)(h:SqB t X.K H a xs):∃l:List af,Vals xs l/\SQB t a s.heap l.toArray/\xs.length<=sizeLine:=by cases t;obtain⟨l,r,p,z⟩:=I.list h;exact⟨l,r,p.isList,z⟩;obtain⟨l,r,p,z⟩:=I.tuple h;exact⟨l,r,p,z⟩
theorem Inv.injB{t:Bool}{a:ah}{xs l:List V}(I:Inv X pins σ H s)(h:SqB t X.K H a xs)(h':SqB t X.K H a l):xs=l:=by cases t;exact I.list_inj h h';exact I.tuple_inj h h'
theorem Inv.turnedL{h':bt}{t':Nat}(ch:List ah)(I:Inv X pins σ H s)(k:∀b o,b∉ch->s.heap.get? b=some o->h'.get? b=some o)(f:∀b∈ch,FpOk X pins H b):Inv X pins σ H { s with heap:=h',toks:=t' }:=by
 have l:∀b u,H b=some u->b∉ch:=fun b u e z=>by rw[(f b z).1]at e;cases e
 refine I.step (g':=s.gens) (d':=s.drawn) (ch:=ch) (fun b hb=>⟨(f b hb).2.2.2.1,(f b hb).2.1,(f b hb).2.2.2.2.1,(f b hb).2.2.2.2.2⟩) (fun b o _ _ hc e _=>k b o hc e) (fun b o _ _ hc e _=>⟨o.slots,k b o hc e⟩) (fun _ _ _ _ n=>n) (fun b o hc e=>⟨o,k b o hc e⟩) (fun _ _ e=>e) (fun _ _ _ e=>e)
  (fun _ _ e=>e) (fun m ⟨o,C,G,x,r⟩=>⟨o,C,G,k _ o (fun z=>(f _ z).2.1 rfl) x,r⟩) (fun b u e=>(I.hok b u e).stay (fun c v hc q=>k c v ?_ q) (fun _ q=>q) (fun _ _ q=>q) fun _ _ _ q=>q) I.bare
 rcases hc with z|z;rw[z];exact l b u e;exact l c _ z
end
section
variable{prog:aI}{w:aT}{A:bu}{E:qV}{s:ak}
theorem zrJ{t:Bool}{a:ah}{xs:Array af}{Q:qV}(h:SQB t a s.heap xs)(o:Q (.ref s.heap.objs.size) { s with heap:=s.heap.push { cls:=.type (itN t),data:=.fields #[.ref a,.int 0 0] } }):wpAny (model prog w) A (pyIter (.ref a)) Q E s:=by cases t;exact gx h o;exact mi h o
theorem SQB.push{t:Bool}{a:ah}{xs:Array af}{h:bt}(x:SQB t a h xs)(o:Obj):SQB t a (h.push o) xs:=by cases t;exact yi x o;exact xq x o
abbrev zA(h:bt)(t:Bool)(a:ah):bt:=h.push { cls:=.type (itN t),data:=.fields #[.ref a,.int 0 0] }
abbrev zB(h:bt)(t u:Bool)(a b:ah):bt:=(zA h t a).push { cls:=.type (itN u),data:=.fields #[.ref b,.int 0 0] }
abbrev zC(h:bt)(t u:Bool)(a b:ah):bt:=(zB h t u a b).push { cls:=.type "tuple",data:=.seq #[.ref h.objs.size,.ref (zA h t a).objs.size] }
abbrev zD(h:bt)(t u:Bool)(a b:ah):bt:=(zC h t u a b).push { cls:=.type "tuple",data:=.seq #[.none,.none] }
abbrev zE(h:bt)(t u:Bool)(a b:ah):bt:=(zD h t u a b).push { cls:=.type "zip",data:=.fields #[.none,.bool false,.bool false,.ref (zB h t u a b).objs.size,.ref (zC h t u a b).objs.size] }
theorem zmF(t u:Bool)(a b:ah)(xs C:Array af) :
  Meets (iq.«zip.__new__» ⟨[.type "zip",.ref a,.ref b],[]⟩) (fun _ R s=>SQB t a s.heap xs/\SQB u b s.heap C/\R (.ok (.ret (.ref (zD s.heap t u a b).objs.size))) { s with heap:=zE s.heap t u a b }) :=
 .of_wp fun prog w A R s h=>by obtain⟨G,g,d,x,os⟩:=s;obtain⟨L,J,h⟩:=h;have v:=sub_zip;have I:SQB t a (uN ⟨G,g,d,x,os⟩) xs:=L;have L2:SQB u b (uN ⟨G.push { cls:=.type (itN t),data:=.fields #[.ref a,.int 0 0] },g,d,x,os⟩) C:=SQB.push J _;wp_walk using zrJ I,zrJ L2;exact⟨_,rfl,h⟩
theorem ITB.new{t:Bool}{i a:ah}{h:bt}(e:h.get? i=some { cls:=.type (itN t),data:=.fields #[.ref a,.int 0 0] }):ITB t i a 0 h:=by cases t;exact⟨_,e,rfl,rfl⟩;exact⟨_,e,rfl,rfl⟩
theorem zpB{t u:Bool}{a b:ah}{xs G:Array af}{Q:qV}(N:SQB t a s.heap xs)(J:SQB u b s.heap G)
  (h:∀h',ZSt (s.heap.objs.size+4) (s.heap.objs.size+2) (s.heap.objs.size+3) s.heap.objs.size (s.heap.objs.size+1) (ITB t s.heap.objs.size a) (ITB u (s.heap.objs.size+1) b) .none 0 h'->h'.objs.size=s.heap.objs.size+5 ->
   (∀c o,s.heap.get? c=some o->h'.get? c=some o)->Q (.ref (s.heap.objs.size+4)) { s with heap:=h' }) :
  wpAny (model prog w) A (call (.type "zip") [.ref a,.ref b]) Q E s:=by
 refine callType_new F.called_zip (by decide) (F.typeCall_zip_2 _ _) (F.newCall_zip_2 _ _) (fun obj=>F.args_object_init_3 obj _ _) F.entry_zip_new (zmF t u a b xs G) ⟨N,J,?_⟩;have n1:(zA s.heap t a).objs.size=s.heap.objs.size+1:=dX ..;have n2:(zB s.heap t u a b).objs.size=s.heap.objs.size+2:=by rw[dX,n1]
 have v:(zC s.heap t u a b).objs.size=s.heap.objs.size+3:=by rw[dX,n2]
 have l:(zD s.heap t u a b).objs.size=s.heap.objs.size+4:=by rw[dX,v]
 have L:(zE s.heap t u a b).objs.size=s.heap.objs.size+5:=by rw[dX,l]
 have C:(zE s.heap t u a b).get? (zD s.heap t u a b).objs.size=some _:=aB _ rfl;have I:(zE s.heap t u a b).get? (zC s.heap t u a b).objs.size=some _:=ai _ (aB _ rfl);have g3:(zE s.heap t u a b).get? (zB s.heap t u a b).objs.size=some _:=ai _ (ai _ (aB _ rfl));have g2:(zE s.heap t u a b).get? (zA s.heap t a).objs.size=some _:=ai _ (ai _ (ai _ (aB _ rfl)));have g1:(zE s.heap t u a b).get? s.heap.objs.size=some _:=ai _ (ai _ (ai _ (ai _ (aB _ rfl))));show _/\_;rw[n2,v,l]at C;rw[n1,n2]at g3;rw[v]at I;rw[n1]at g2;rw[l];refine⟨⟨_,C,rfl⟩,h _ ⟨C,g3,⟨_,_,I⟩,.new g1,.new g2⟩ L fun c o x=>?_⟩;iterate 5 refine ai _ ?_
 exact x
end
def Itz(t u:Bool)(K:qF)(a b:ah):It :=
 ⟨fun i H=>∃xs l x y,SqB t K H a xs/\SqB u K H b l/\xs[i]?=some x/\l[i]?=some y,
  fun i H v o=>∃p x y,H p=none/\v=.ref p/\(∀xs,SqB t K H a xs->xs[i]?=some x)/\(∀l,SqB u K H b l->l[i]?=some y)/\o=upd H p (.tup [x,y]),
  fun i H=>∃xs l,SqB t K H a xs/\SqB u K H b l/\(xs.length<=i\/l.length<=i)⟩
theorem zlU{P:aI}{w:aT}{K:qF}{S:List aO}{x1:_}{pos:Pos}{t u:Bool}{z TI TO i1 C a b:ah}(D:ZAp z TI TO i1 C a b) :
  Turn P w K (.Tuple S x1 pos) (Itz t u K a b) [z,TI,TO,i1,C] z (fun i h=>ZSt z TI TO i1 C (ITB t i1 a) (ITB u C b) .none i h) where
 mem:=by simp
 obj:=fun i h st c hc=>by obtain⟨L,ti,⟨R,U,to⟩,j1,j2⟩:=st;simp only[aq,av,or_false]at hc;rcases hc with rfl|rfl|rfl|rfl|rfl;exact⟨_,L,fun v y=>by cases y⟩;exact⟨_,ti,fun v y=>by cases y⟩;exact⟨_,to,fun v y=>by cases y⟩;exact(nx_B (prog:=P) (w:=w) t).rcd _ _ j1;exact(nx_B (prog:=P) (w:=w) u).rcd _ _ j2
 keep:=fun i h h' st k=>by obtain⟨L,ti,⟨R,U,to⟩,j1,j2⟩:=st;exact⟨k _ (by simp) _ L,k _ (by simp) _ ti,⟨R,U,k _ (by simp) _ to⟩,(nx_B (prog:=P) (w:=w) t).keep _ _ _ j1 (k _ (by simp)),(nx_B (prog:=P) (w:=w) u).keep _ _ _ j2 (k _ (by simp))⟩
 item:=by
  intro X hP hw hK hc i pins s σ H E I hf st hg;subst hP hw hK;obtain⟨xs,ys,x,y,q1,q2,hx,hy⟩:=hg;obtain⟨Z,r1,p1,z1⟩:=I.seqB q1;obtain⟨jts,r2,p2,z2⟩:=I.seqB q2;obtain⟨G,hux,rux⟩:=r1.get hx;obtain⟨J,huy,ruy⟩:=r2.get hy;refine zpS D (nx_B t) (nx_B u) st p1 p2 (x:=G) (y:=J) (by simpa using hux) (by simpa using huy) fun h' N pr sz kp=>?_;refine⟨_,rfl,?_⟩;refine wpAny_letOwnedTupleGo_zip (s:={ s with heap:=h' }) N.zip fun h2 z2' sb=>?_;obtain⟨⟨d1,d2,d3,d4,d5,d6,d7,d8,d9,d10⟩,_,_⟩:=zje D;have big:∀c∈[z,TI,TO,i1,C],c<s.heap.objs.size:=fun c hc=>by obtain⟨L,ti,⟨R,U,to⟩,j1,j2⟩:=st;simp only[aq,av,or_false]at hc;rcases hc with rfl|rfl|rfl|rfl|rfl;exact ax L;exact ax ti;exact ax to;obtain⟨o,e,_⟩:=(nx_B (prog:=X.prog) (w:=X.w) t).rcd _ _ j1;exact ax e;obtain⟨o,e,_⟩:=(nx_B (prog:=X.prog) (w:=X.w) u).rcd _ _ j2;exact ax e
  have hp:H s.heap.objs.size=none:=I.hok.fresh (aw _);have I1:Inv X pins σ (upd H s.heap.objs.size (.tup [x,y])) { s with heap:=s.heap.push { cls:=.type "tuple",data:=.seq #[G,J] } } :=
   I.laid (t':=s.toks) (fun b o e=>ai _ e) (aw _) (show JE X.prog X.w _ _ _ (.tup [x,y]) from⟨by show 2<=sizeLine;decide,[G,J],.cons rux (.cons ruy .nil),IsTD.new _ _⟩)
  have HW:∀c∈[z,TI,TO,i1,C],c≠s.heap.objs.size:=fun c hc=>aN (big c hc);have fu:∀c∈[z,TI,TO,i1,C],upd H s.heap.objs.size (.tup [x,y]) c=none:=fun c hc=>by rw[Je (HW c hc)];exact(hf c hc).1
  refine⟨.ref s.heap.objs.size,upd H s.heap.objs.size (.tup [x,y]),?_,rfl,⟨_,x,y,hp,rfl,fun xs' h=>by rw[I.injB h q1];exact hx,fun ys' h=>by rw[I.injB h q2];exact hy,rfl⟩,?_,fu⟩;refine Inv.turnedL (s:={ s with heap:=s.heap.push { cls:=.type "tuple",data:=.seq #[G,J] } }) (t':=s.toks) [z,TO,i1,C] I1 (fun c o hc e=>?_) fun c hc=>?_;simp only[aq,av,or_false,not_or]at hc;refine sb.extBut _ _ hc.1 ?_;by_cases y:c=s.heap.objs.size;subst y;have Y:(s.heap.push { cls:=.type "tuple",data:=.seq #[G,J] }).get? s.heap.objs.size=some _:=aB _ rfl;have e2:some o=some _:=e.symm.trans Y;cases e2;exact pr;have Y:s.heap.get? c=some o:=by have e3:(s.heap.push { cls:=.type "tuple",data:=.seq #[G,J] }).get? c=some o:=e;rwa [cR _ _ _ y]at e3
  exact kp c o hc.1 hc.2.1 hc.2.2.1 hc.2.2.2 Y;have m:c∈[z,TI,TO,i1,C]:=by simp only[aq,av,or_false]at hc ⊢;rcases hc with h|h|h|h <;> simp[h]
  exact⟨fu c m,(hf c m).2⟩;obtain⟨L,ti,⟨R,U,to⟩,j1,j2⟩:=N;exact⟨z2',sb.extBut _ _ d1.symm ti,⟨R,U,sb.extBut _ _ d2.symm to⟩,(nx_B (prog:=X.prog) (w:=X.w) t).keep _ _ _ j1 fun o e=>sb.extBut _ _ d3.symm e,(nx_B (prog:=X.prog) (w:=X.w) u).keep _ _ _ j2 fun o e=>sb.extBut _ _ d4.symm e⟩
 done:=by intro X hP hw hK hc i pins s σ H E I hf st hg;subst hP hw hK;obtain⟨xs,ys,q1,q2,hx⟩:=hg;obtain⟨Z,r1,p1,z1⟩:=I.seqB q1;obtain⟨jts,r2,p2,z2⟩:=I.seqB q2;have l1:=r1.length;have l2:=r2.length;refine zpR (I.ok.hd hc) D (nx_B t) (nx_B u) st p1 p2 (by rcases hx with h|h;exact .inl (by simp;omega);exact .inr (by simp;omega)) fun h' kp=>⟨rfl,?_⟩;refine Inv.turnedL (t':=s.toks) [z,TO,i1,C] I (fun c o hc e=>?_) fun c hc=>hf c ?_;simp only[aq,av,or_false,not_or]at hc;exact kp c o hc.1 hc.2.1 hc.2.2.1 hc.2.2.2 e;simp only[aq,av,or_false]at hc ⊢;rcases hc with h|h|h|h <;> simp[h]
 self:=fun _ _ _ _ _ st h=>nt st.zip h
section
variable{X:Cx}{a b:aO}{elts:List aO}{x1:Nat}{p p' pos:Pos}
def iZip(K:qF)(v:TA):TI:=fun σ H R=>v σ H fun x l=>∃(t u:Bool) (c d:ah) (xs o:List V),x=[.ref c,.ref d]/\SqB t K l c xs/\SqB u K l d o/\R (Itz t u K c d) l
theorem SQB.lt{t:Bool}{c:ah}{xs:Array af}{h:bt}(x:SQB t c h xs):c<h.objs.size:=by cases t;obtain⟨o,e,_⟩:=x;exact ax e;obtain⟨o,e,_⟩:=x;exact ax e
theorem zn5{n:Nat}{c d:ah}(v:c<n)(u:d<n):ZAp (n+4) (n+2) (n+3) n (n+1) c d:=by
 have ne:∀(e:ah) (k:Nat),e<n->e≠n+k:=fun e k h=>aN (au h (bL _ _));refine⟨by simp,fun e o=>?_⟩;have l:e<n:=by simp only[aq,av,or_false]at o;rcases o with rfl|rfl;exact v;exact u
 simp only[aq,av,or_false,not_or];exact⟨ne e 4 l,ne e 2 l,ne e 3 l,aN l,ne e 1 l⟩
theorem zqz{S:TA}(hg:Gl X "zip") (Z:X.mg "zip" = none) (ha:PA X [a,b] S) (hs:starEach [a,b] X.env=[(false,eval a X.env),(false,eval b X.env)]) (v:starEach [b] X.env=[(false,eval b X.env)]) :
  PI X (.Tuple elts x1 p') (.Call (.Name "zip" p) [a,b] [] pos) (iZip X.K S):=by
 intro pins s σ H R I h;refine Call_ (UG I hg Z boot_zip (cL (thn (ha pos pins s σ H _ I h) fun us s1 ⟨vs,H1,o,r1,q1⟩=>?_) (by rw[hs,v]) (by rw[v];rfl)));obtain⟨t,u,c,d,xs,ys,rfl,x,J,q⟩:=q1;cases r1 with
 | cons r G =>
  cases G with
  | cons r' G =>
   cases G;cases r;cases r';obtain⟨its,_,Y,_⟩:=o.seqB x;obtain⟨jts,_,L,_⟩:=o.seqB J;refine zpB Y L fun h' st sz kp=>?_;refine nt (s:={ s1 with heap:=h' }) st.zip ?_;refine⟨_,_,_,_,H1,rfl,o.kept (t':=s1.toks) kp,zlU (zn5 Y.lt L.lt),st,fun e U=>?_,q⟩;have ge:s1.heap.objs.size<=e:=by simp only[aq,av,or_false]at U;rcases U with rfl|rfl|rfl|rfl|rfl;exact bL _ _;exact bL _ _;exact bL _ _;exact aw _;exact bL _ _
   exact o.fpOk ge (o.hok.fresh ge)
theorem srcB{K:qF}{hd:Option ah}{P O:ah->Prop}{H:Hp}{v:V}{t:ae}{ts:qD}(R:∀a,¬O a->P a)(r:Rep K hd O H v t)(h:t=.tuple ts\/t=.list ts) :
  ∃(k:Bool) (q:ah) (x:List V),v=.ref q/\SqB k K H q x/\∀(G:ah->Prop) (C:Hp),(∀a o,H a=some o->P a->C a=some o)->(∀a o,H a=some o->¬O a->¬G a)->SqB k K C q x/\Reps K hd G C x ts:=by
 have N:∀x,Reps K hd O H x ts->∀(G:ah->Prop) (C:Hp),(∀a o,H a=some o->P a->C a=some o)->(∀a o,H a=some o->¬O a->¬G a)->Reps K hd G C x ts:=fun x r G C I J =>
  r.mono (fun a o ha z=>cX fun no=>J a o ha no z) fun a o no ha=>I a o ha (R a no)
 rcases h with rfl|rfl;cases r with
 | @tup q x ds h o r=>exact⟨true,q,x,rfl,.inl (.inl h),fun G C I J=>⟨.inl (.inl (I q _ h (R q o))),N x r G C I J⟩⟩
 | @tupS q x ds h r=>exact⟨true,q,x,rfl,h.sq,fun G C I J=>⟨h.sq,N x r G C I J⟩⟩
 obtain⟨q,x,rfl,L,no,r⟩:=r.lstI;exact⟨false,q,x,rfl,SqL.of L,fun G C I J=>⟨SqL.of (I q _ L (R q no)),N x r G C I J⟩⟩
def zipD(xs o:qD):List ae:=(xs.zip o).map fun q=>.tuple [q.1,q.2]
def dZip(u db:DTE):DTA:=fun l n R=>u l n fun x n1=>db l n1 fun y n2=>Qn x fun xs=>Qn y fun o=>R (zipD xs o) n2
theorem zil{t:ae}{R:List ae->Prop}(h:Qn t R):∃ts,(t=.tuple ts\/t=.list ts)/\R ts:=by
 cases t with
 | list ts=>exact⟨ts,.inr rfl,h⟩
 | tuple ts=>exact⟨ts,.inl rfl,h⟩
 | _=>exact h.elim
theorem zk5{da db:DTE}(hm:X.mg "zip" = none) (h:DE X a da) (h':DE X b db) (hg:Gl X "zip":=by rfl) (hs:starEach [a,b] X.env=[(false,eval a X.env),(false,eval b X.env)]:=by rfl) (G:starEach [b] X.env=[(false,eval b X.env)]:=by rfl) :
  DI X (.Tuple elts x1 p') (.Call (.Name "zip" p) [a,b] [] pos) (dZip da db):=by
 obtain⟨ta,pa,h⟩:=h;obtain⟨tb,pb,h'⟩:=h';refine⟨_,zqz hg hm (J3 pa (J3 pb Qy G) (by rw[hs,G])) hs G,fun C ρ σ H n Q R S hd hq=>?_⟩;refine h C ρ σ H n _ _ S hd fun x n1 v H1 r1 e1 hn1 q1=>?_;have S1:=S.on e1 hn1;refine h' C ρ σ H1 n1 _ _ S1 r1 fun y n2 w H2 Y e2 hn2 q2=>?_;have q1':=e2.rep S.hx q1;obtain⟨xs,hx,Y⟩:=zil Y;obtain⟨ys,hy,Y⟩:=zil Y;obtain⟨k1,c,vs,rfl,s1,f1⟩:=srcB (P:=fun a=>¬Own C ρ σ a) (fun _ z=>z) q1' hx;obtain⟨k2,d,ws,rfl,s2,f2⟩:=srcB (P:=fun a=>¬Own C ρ σ a) (fun _ z=>z) q2 hy;refine⟨k1,k2,c,d,vs,ws,rfl,s1,s2,hq _ n2 _ H2 Y (e1.trans e2) hn2 ?_⟩;intro O2 H3 h1 h2 h3;obtain⟨g1,Z⟩:=f1 O2 H3 h1 h2;obtain⟨g2,J⟩:=f2 O2 H3 h1 h2;refine⟨fun i t I=>?_,?_⟩;unfold zipD at I;rw[aU]at I;cases ez:(xs.zip ys)[i]? with
 | none=>rw[ez]at I;cases I
 | some q =>rw[ez]at I;cases I;obtain⟨ex,ey⟩:=List.getElem?_zip_eq_some.mp ez;obtain⟨vx,L,rx⟩:=Z.get ex;obtain⟨vy,U,ry⟩:=J.get ey;refine⟨⟨vs,ws,vx,vy,g1,g2,L,U⟩,fun v H4 hyd=>?_⟩;obtain⟨pp,x',y',hp,rfl,hx',hy',rfl⟩:=hyd;have e1:x'=vx:=aQ ((hx' vs g1).symm.trans L);have e2:y'=vy:=aQ ((hy' ws g2).symm.trans U);subst e1 e2;exact⟨JP hp,.newT (fun z=>h3 pp z hp) hp (.cons rx (.cons ry .nil))⟩
 refine⟨vs,ws,g1,g2,?_⟩;have:=Z.length;have:=J.length;unfold zipD;simp only[aJ,nW];omega
end
section
variable{d da db:DTE}{dlo dhi:DTO}{ρ:En}{n:Nat}{R:qN}{Ro:Option Int->Nat->Prop}{Rl:List ae->Nat->Prop}{xs ys:qD}{lo hi:Option Int}{Q:ae->Prop}{Ql:List ae->Prop}
theorem zkL(h:Ro none n):zhK ρ n Ro:=h
theorem zo8(h:d ρ n fun t l=>lInt t fun i=>Ro (some i) l):zpt d ρ n Ro:=h
theorem zrU(h:da ρ n fun x n1=>db ρ n1 fun y n2=>Qn x fun xs=>Qn y fun ys=>Rl (zipD xs ys) n2):dZip da db ρ n Rl:=h
end
theorem zeS{cs:qD}{tg:DTG}{tt:DTT}{d:DTE}{ρ0:En}{n:Nat}{Rl:List ae->Nat->Prop}(F:ae->ae)(o:cs.length<=16777216)
  (step:∀b∈cs,∀(K:qN) (X:Nat->Prop),K (F b) n->tg b ρ0 fun l=>tt l n fun c n2=>if c=true then d l n2 K else X n2) (fin:Rl (cs.map F) n):QJ tg tt d ρ0 cs [] n Rl:=by
 have:=Qr (cs:=cs) (D:=fun t=>t) (tg:=tg) (tt:=tt) (d:=d) (ρ0:=ρ0) (n:=n) (Rl:=Rl) F o step fin;simpa using this
theorem zng{ts:qD}:cutD ts (some 1) none=ts.tail:=by
 unfold cutD;rw[HT.ze3,show(some (1:Int))=some ((1:Nat):Int) from rfl,HT.zg7];cases ts with
 | nil=>simp
 | cons a l =>
  have:min 1 (a::l).length=1:=by simp
  rw[this];simp
theorem zpQ{bs:qB}:zipD (pD bs) (pD bs).tail=(bs.zip bs.tail).map fun q=>.tuple [prD q.1,prD q.2]:=by unfold zipD pD;rw[<- List.map_tail,List.zip_map];simp
theorem ziA{bits:Int}{bs:qB}:(∀q∈bs.zip bs.tail,eB q.1<=q.2.1)↔bs.Pairwise fun a b=>eB a<=b.1:=by
 induction bs with
 | nil=>simp
 | cons a l o =>
  cases l with
  | nil=>simp
  | cons b l =>simp only[List.tail_cons,iH,lH]at o ⊢;rw[o];constructor;rintro⟨v,u⟩;refine iP.mpr ⟨fun c hc=>?_,u⟩;rcases aq.mp hc with rfl|hc;exact v;have:=(iP.mp u).1 c hc;have:=zkY b;omega;intro h;have h':=iP.mp h;exact⟨h'.1 b (.head _),h'.2⟩
class Stp (P:Prop)(Q:outParam Prop):Prop where
 go:Q->P
section
variable{t u tb:DTS}{D:JO}{ρ ρ0:En}{n i j m:Nat}{d da db dc d1 d2:DTE}{ds di:DTA}{c c' tt:DTT}{g:G2}{g':G2}{gc:GC}{gd:GD}{tg:DTG}{tgs:DTGs}{R:qN}{Rb:Bool->Nat->Prop}{Rl:List ae->Nat->Prop}{Re:En->Prop}{x y:ae}{xs ys acc:qD}{f:Int->Int->Int}{fb:ae->Bool}{k:Bool}{capt:List Nat}
instance zsQ :Stp (sSeq t u D ρ n) ((t { D with nx:=u D } ρ n)):=⟨fun h=>zrN h⟩
instance zqe :Stp (ZM D ρ n) ((D.nx ρ n)):=⟨fun h=>zo3 h⟩
instance zsR :Stp (sRet d D ρ n) ((d ρ n fun t n'=>D.rt t n')):=⟨fun h=>zrO h⟩
instance ztS :Stp (sIf c t u D ρ n) ((c ρ n fun b n1=>if b=true then t D ρ n1 else u D ρ n1)):=⟨fun h=>zuF h⟩
instance zsT :Stp (sAsg d tg D ρ n) ((d ρ n fun t n'=>tg t ρ fun ρ'=>D.nx ρ' n')):=⟨fun h=>zrQ h⟩
instance zsS :Stp (sFor di tg tb D ρ n) ((di ρ n fun ts n1=>forP tg tb D ts ρ n1)):=⟨fun h=>zrP h⟩
instance zva :Stp (dC x ρ n R) ((R x n)):=⟨fun h=>i_dC h⟩
instance ztU :Stp (dOp g da db ρ n R) ((da ρ n fun x n1=>db ρ n1 fun y n2=>g x y fun z=>R z n2)):=⟨fun h=>zuI h⟩
instance zs3 :Stp (dNew ds ρ n R) ((ds ρ n fun ts n'=>R (.list ts) n')):=⟨fun h=>zr1 h⟩
instance zsY :Stp (dTup ds ρ n R) ((ds ρ n fun ts n1=>R (.tuple ts) n1)):=⟨fun h=>zrW h⟩
instance zs2 :Stp (dNil ρ n Rl) ((Rl [] n)):=⟨fun h=>zr0 h⟩
instance zqk :Stp (JG d ds ρ n Rl) ((d ρ n fun t n1=>ds ρ n1 fun ts n2=>Rl (t::ts) n2)):=⟨fun h=>zo_ h⟩
instance ztV :Stp (dFn gd ds ρ n R) ((ds ρ n fun ts n1=>gd ts n1 R)):=⟨fun h=>zuJ h⟩
instance zs8 :Stp (dFnL gd ds ρ n R) ((ds ρ n fun ts n1=>gd ts n1 fun t n2=>QQ t=true/\R t n2)):=⟨fun h=>zr6 h⟩
instance zpP :Stp (YT gc ds ρ n R) ((ds ρ n fun ts n1=>gc ts fun z=>R z n1)):=⟨fun h=>zm2 h⟩
instance zsV :Stp (isiD fb d ρ n R) ((d ρ n fun t n1=>lIsi fb t fun z=>R z n1)):=⟨fun h=>zrT h⟩
instance zs_ :Stp (dAnd c c' ρ n Rb) ((c ρ n fun b n1=>if b=true then c' ρ n1 Rb else Rb false n1)):=⟨fun h=>zr8 h⟩
instance ztT :Stp (dOr c c' ρ n Rb) ((c ρ n fun b n1=>if b=true then Rb true n1 else c' ρ n1 Rb)):=⟨fun h=>zuH h⟩
instance zs1 :Stp (dNot c ρ n Rb) ((c ρ n fun b n1=>Rb (!b) n1)):=⟨fun h=>zrZ h⟩
instance zql :Stp (zpy da db ρ n R) ((da ρ n fun t n1=>bolD t fun b=>if b=true then db ρ n1 R else R (.bool false) n1)):=⟨fun h=>zpb h⟩
instance zs0 :Stp (dOrV da db ρ n R) ((da ρ n fun t n1=>bolD t fun b=>if b=true then R (.bool true) n1 else db ρ n1 R)):=⟨fun h=>zrY h⟩
instance zqj :Stp (zpu da ρ n R) ((da ρ n fun t n1=>bolD t fun b=>R (.bool (!b)) n1)):=⟨fun h=>zo9 h⟩
instance zs7 :Stp (dIfE c da db ρ n R) ((c ρ n fun b n1=>if b=true then da ρ n1 R else db ρ n1 R)):=⟨fun h=>zr5 h⟩
instance zsZ :Stp (dTru d ρ n Rb) ((d ρ n fun t n'=>truD t fun b=>Rb b n')):=⟨fun h=>zrX h⟩
instance zsX :Stp (dYes ρ n Rb) ((Rb true n)):=⟨fun h=>zrV h⟩
instance zqc :Stp (Qd tgs (.tuple xs) ρ Re) ((tgs xs ρ Re)):=⟨fun h=>zo1 h⟩
instance zqd :Stp (Qc [] ρ Re) ((Re ρ)):=⟨fun h=>zo2 h⟩
instance zpN :Stp (JB tg tgs (x::xs) ρ Re) ((tg x ρ fun ρ'=>tgs xs ρ' Re)):=⟨fun h=>zmZ h⟩
instance zqf :Stp (J5 d ρ n Rb) ((d ρ n fun t n'=>bolD t fun b=>Rb b n')):=⟨fun h=>zo5 h⟩
instance zs9 :Stp (dCat da db ρ n Rl) ((da ρ n fun x n1=>db ρ n1 fun y n2=>lCat x y fun zs=>Rl zs n2)):=⟨fun h=>zr7 h⟩
instance zs6 :Stp (dItL d ρ n Rl) ((d ρ n fun t n'=>lLst t fun ts=>Rl ts n')):=⟨fun h=>zr4 h⟩
instance zs5 :Stp (dItT d ρ n Rl) ((d ρ n fun t n'=>lTup t fun ts=>Rl ts n')):=⟨fun h=>zr3 h⟩
instance zqh :Stp (Yk d ρ n Rl) ((d ρ n fun t n'=>lInt t fun j=>(-(2 ^ 62)<=j/\j<2 ^ 62)/\Rl (QM 0 j.toNat) n')):=⟨fun h=>zo7 h⟩
instance zs4 :Stp (dNeg d ρ n R) ((d ρ n fun t n'=>lInt t fun i=>R (.int (-i)) n')):=⟨fun h=>zr2 h⟩
instance zpO :Stp (UZ g g' da db dc ρ n R) ((da ρ n fun x n1=>db ρ n1 fun y n2=>g x y fun z=>bolD z fun b=>if b=true then dc ρ n2 fun w n3=>g' y w fun z=>R z n3 else R (.bool false) n2)):=⟨fun h=>zm1 h⟩
instance zsU {A B:Prop}:Stp (if (!b)=true then A else B) ((if b=true then B else A)):=⟨fun h=>zrR h⟩
end
section
variable{C:Int->Int->Prop}{f:Int->Int->Int}{fb:Int->Int->Bool}{i j k:Int}{R:ae->Prop}{Rb:Bool->Prop}{xs ys:qD}{s t:Str}{a b:Bool}{u v x y:ae}{Rn:qN}{n:Nat}
instance zsP :Stp (oAdd (.int i) (.int j) R) ((R (.int (i+j)))):=⟨fun h=>zrF h⟩
instance zsO :Stp (oAdd (.str s) (.str t) R) (((s.length+t.length<=16777216/\R (.str (s++t))))):=⟨fun h=>zrE h⟩
instance ztN :Stp (oEq (.int i) (.int j) R) ((R (.bool (decide (i=j))))):=⟨fun h=>zuA h⟩
instance ztO :Stp (oEq (.bool a) (.bool b) R) ((R (.bool (decide (a=b))))):=⟨fun h=>zuB h⟩
instance ztL :Stp (oEq (.str s) (.str t) R) ((R (.bool (decide (s=t))))):=⟨fun h=>zuy h⟩
instance ztK :Stp (oEq (.tuple xs) (.tuple ys) R) (((Okd (.tuple xs)/\Okd (.tuple ys)/\R (.bool (dh (.tuple xs) (.tuple ys)))))):=⟨fun h=>zux h⟩
instance ztM :Stp (oEq (.list xs) (.list ys) R) (((Okd (.list xs)/\Okd (.list ys)/\R (.bool (dh (.list xs) (.list ys)))))):=⟨fun h=>zuz h⟩
instance zty :Stp (oNe (.int i) (.int j) R) ((R (.bool (!decide (i=j))))):=⟨fun h=>zuk h⟩
instance ztz :Stp (oNe (.bool a) (.bool b) R) ((R (.bool (!decide (a=b))))):=⟨fun h=>zul h⟩
instance ztw :Stp (oNe (.str s) (.str t) R) ((R (.bool (!decide (s=t))))):=⟨fun h=>zui h⟩
instance ztx :Stp (oNe (.list xs) (.list ys) R) (((Okd (.list xs)/\Okd (.list ys)/\R (.bool (!PyData.eqv (.list xs) (.list ys)))))):=⟨fun h=>zuj h⟩
instance ztI :Stp (oIs u .none R) ((R (.bool (isNone u)))):=⟨fun h=>zuv h⟩
instance zpK :Stp (YS u (.tuple xs) R) (((Okd u/\(∀t∈xs,Okd t)/\R (.bool (!xs.any fun t=>t.eqv u))))):=⟨fun h=>zmT h⟩
instance ztE :Stp (oLtA (.int i) (.int j) R) ((R (.bool (decide (i<j))))):=⟨fun h=>zuq h⟩
instance ztH :Stp (oLeA (.int i) (.int j) R) ((R (.bool (decide (i<=j))))):=⟨fun h=>zut h⟩
instance ztG :Stp (oLeA (.str s) (.str t) R) ((R (.bool (!decide (t.cps.toList<s.cps.toList))))):=⟨fun h=>zus h⟩
instance zsK :Stp (oIx (.tuple (u::xs)) (.int 0) R) ((R u)):=⟨fun h=>zrA h⟩
instance zsJ :Stp (oIx (.tuple (u::v::xs)) (.int 1) R) ((R v)):=⟨fun h=>zrz h⟩
instance zsL :Stp (oIx (.list (u::xs)) (.int 0) R) ((R u)):=⟨fun h=>zkF h⟩
instance zsF :Stp (truD (.bool a) Rb) ((Rb a)):=⟨fun h=>zru h⟩
instance zsE :Stp (truD (.int i) Rb) ((Rb (decide (i≠0)))):=⟨fun h=>zrt h⟩
instance ztQ :Stp (bolD (.bool a) Rb) ((Rb a)):=⟨fun h=>zuD h⟩
instance zsI :Stp (bLen [.list xs] R) ((R (.int xs.length))):=⟨fun h=>zry h⟩
instance zsG :Stp (bLen [.tuple xs] R) ((R (.int xs.length))):=⟨fun h=>zrw h⟩
instance zsH :Stp (bLen [.str s] R) (((s.length<=16777216/\R (.int s.length)))):=⟨fun h=>zrx h⟩
instance zpL :Stp (bLen [SCR ns] R) ((R (.int ns.length))):=⟨fun h=>zmU h⟩
instance ztC :Stp (bMin [.int i,.int j] R) ((R (.int (if j<i then j else i)))):=⟨fun h=>zuo h⟩
instance ztD :Stp (bMax [.int i,.int j] R) ((R (.int (if j > i then j else i)))):=⟨fun h=>zup h⟩
instance zsM :Stp (bInt [.bool a] R) ((R (.int (if a then 1 else 0)))):=⟨fun h=>zrC h⟩
instance ztt :Stp (bStr [.int i] R) (((i.natAbs<2 ^ 1920/\R (.str (toString i))))):=⟨fun h=>zuf h⟩
instance zpJ :Stp (ZV [.list xs] R) ((R (.tuple xs))):=⟨fun h=>zmS h⟩
instance zpM :Stp (Qn (.tuple xs) Rl) ((Rl xs)):=⟨fun h=>zmV h⟩
instance ztP :Stp (lCat (.list xs) (.list ys) Q) (((xs.length+ys.length<=16777216/\Q (xs++ys)))):=⟨fun h=>zuC h⟩
instance ztF :Stp (lLst (.list xs) Q) ((Q xs)):=⟨fun h=>zur h⟩
instance ztr :Stp (lTup (.tuple xs) Q) ((Q xs)):=⟨fun h=>zud h⟩
instance ztJ :Stp (lInt (.int i) Q) ((Q i)):=⟨fun h=>zuw h⟩
instance ztA :Stp (oMul (.int i) (.int j) R) ((CMul i j)/\(R (.int (i*j)))):=⟨fun h=>zum h.1 h.2⟩
instance ztB :Stp (oMod (.int i) (.int j) R) ((0<j)/\(R (.int (i % j)))):=⟨fun h=>zun h.1 h.2⟩
instance zsN :Stp (Ux (.int i) (.int j) R) ((Yl i j)/\(R (.int (i / j)))):=⟨fun h=>zrD h.1 h.2⟩
instance ztv :Stp (oShl (.int i) (.int j) R) ((CPow i j)/\(R (.int (i*2 ^ j.toNat)))):=⟨fun h=>zuh h.1 h.2⟩
instance ztu :Stp (oShr (.int i) (.int j) R) ((0<=j)/\(R (.int (i / 2 ^ j.toNat)))):=⟨fun h=>zug h.1 h.2⟩
instance zts :Stp (oSub (.int i) (.int j) R) ((R (.int (i - j)))):=⟨fun h=>zue h⟩
instance ztq :Stp (oXor (.int i) (.int j) R) ((R (.int (eR i j)))):=⟨fun h=>zuc h⟩
instance ztR :Stp (oAnd (.int i) (.int j) R) ((R (.int (fJ i j)))):=⟨fun h=>zuE h⟩
instance zu7 :Stp (gB fb (.int i) (.int j) R) ((R (.bool (fb i j)))):=⟨fun h=>j_gB h⟩
instance zl5 :Stp (lIsi isInt (.int i) R) ((R (.bool true))):=⟨fun h=>zhy h⟩
instance zlO :Stp (lIsi isInt (.bool a) R) ((R (.bool true))):=⟨fun h=>zgC h⟩
instance zl4 :Stp (lIsi isInt (.str s) R) ((R (.bool false))):=⟨fun h=>zhx h⟩
instance zjB :Stp (lIsi isInt (.tuple xs) R) ((R (.bool false))):=⟨fun h=>zfr h⟩
instance zlM :Stp (lIsi isInt (.list xs) R) ((R (.bool false))):=⟨fun h=>zgA h⟩
instance zlL :Stp (lIsi isInt (.none) R) ((R (.bool false))):=⟨fun h=>zgz h⟩
instance zlN :Stp (lIsi isInt (.dict []) R) ((R (.bool false))):=⟨fun h=>zgB h⟩
instance zlP :Stp (lIsi isBool (.int i) R) ((R (.bool false))):=⟨fun h=>zgD h⟩
instance zjC :Stp (lIsi isBool (.bool a) R) ((R (.bool true))):=⟨fun h=>zfs h⟩
instance zl1 :Stp (lIsi isTup (.int i) R) ((R (.bool false))):=⟨fun h=>zhu h⟩
instance zlG :Stp (lIsi isTup (.bool a) R) ((R (.bool false))):=⟨fun h=>zgu h⟩
instance zl0 :Stp (lIsi isTup (.str s) R) ((R (.bool false))):=⟨fun h=>zht h⟩
instance zjz :Stp (lIsi isTup (.tuple xs) R) ((R (.bool true))):=⟨fun h=>zfp h⟩
instance zlE :Stp (lIsi isTup (.list xs) R) ((R (.bool false))):=⟨fun h=>zgs h⟩
instance zlD :Stp (lIsi isTup (.none) R) ((R (.bool false))):=⟨fun h=>zgr h⟩
instance zlF :Stp (lIsi isTup (.dict []) R) ((R (.bool false))):=⟨fun h=>zgt h⟩
instance zl3 :Stp (lIsi isStr (.int i) R) ((R (.bool false))):=⟨fun h=>zhw h⟩
instance zlK :Stp (lIsi isStr (.bool a) R) ((R (.bool false))):=⟨fun h=>zgy h⟩
instance zl2 :Stp (lIsi isStr (.str s) R) ((R (.bool true))):=⟨fun h=>zhv h⟩
instance zjA :Stp (lIsi isStr (.tuple xs) R) ((R (.bool false))):=⟨fun h=>zfq h⟩
instance zlI :Stp (lIsi isStr (.list xs) R) ((R (.bool false))):=⟨fun h=>zgw h⟩
instance zlH :Stp (lIsi isStr (.none) R) ((R (.bool false))):=⟨fun h=>zgv h⟩
instance zlJ :Stp (lIsi isStr (.dict []) R) ((R (.bool false))):=⟨fun h=>zgx h⟩
end
section
variable{d da db:DTE}{dlo dhi:DTO}{ρ:En}{n:Nat}{R:qN}{Ro:Option Int->Nat->Prop}{Rl:List ae->Nat->Prop}{xs ys:qD}{lo hi:Option Int}{Q:ae->Prop}{Ql:List ae->Prop}
instance zoh :Stp (zhK ρ n Ro) ((Ro none n)):=⟨fun h=>zkL h⟩
instance zqi :Stp (zpt d ρ n Ro) ((d ρ n fun t n'=>lInt t fun i=>Ro (some i) n')):=⟨fun h=>zo8 h⟩
instance zsW :Stp (dZip da db ρ n Rl) ((da ρ n fun x n1=>db ρ n1 fun y n2=>Qn x fun xs=>Qn y fun ys=>Rl (zipD xs ys) n2)):=⟨fun h=>zrU h⟩
end
section
instance zqg {d:DTE}{ρ:En}{n:Nat}{Rl:List ae->Nat->Prop}:Stp (zps d ρ n Rl) ((d ρ n fun t n1=>YD t fun ts=>Rl ts n1)):=⟨fun h=>zo6 h⟩
end
section
variable{R:ae->Prop}{b:Bool}{A B:Prop}
instance zu8:Stp (if true=true then A else B) A:=⟨fun h=>iteT h⟩
instance zu9:Stp (if false=true then A else B) B:=⟨fun h=>iteF h⟩
end
class GetN (ρ:En)(i:Nat)(c:outParam (Option Cell)):Prop where
 e:ρ[i]?=some c
class SetN (ρ:En)(i:Nat)(c:Option Cell)(ρ':outParam En):Prop where
 e:ρ.set i c=ρ'
instance{a0:Option Cell}{as:En}:GetN (a0::as) 0 a0:=⟨rfl⟩
instance{a0 c:Option Cell}{as:En}:SetN (a0::as) 0 c (c::as):=⟨rfl⟩
instance{a0 a1:Option Cell}{as:En}:GetN (a0::a1::as) 1 a1:=⟨rfl⟩
instance{a0 a1 c:Option Cell}{as:En}:SetN (a0::a1::as) 1 c (a0::c::as):=⟨rfl⟩
instance{a0 a1 a2:Option Cell}{as:En}:GetN (a0::a1::a2::as) 2 a2:=⟨rfl⟩
instance{a0 a1 a2 c:Option Cell}{as:En}:SetN (a0::a1::a2::as) 2 c (a0::a1::c::as):=⟨rfl⟩
instance{a0 a1 a2 a3:Option Cell}{as:En}:GetN (a0::a1::a2::a3::as) 3 a3:=⟨rfl⟩
instance{a0 a1 a2 a3 c:Option Cell}{as:En}:SetN (a0::a1::a2::a3::as) 3 c (a0::a1::a2::c::as):=⟨rfl⟩
instance{a0 a1 a2 a3 c:Option Cell}{as:En}{i:Nat}[h:GetN as i c]:GetN (a0::a1::a2::a3::as) (i+4) c:=⟨h.e⟩
instance{a0 a1 a2 a3 c:Option Cell}{as bs:En}{i:Nat}[h:SetN as i c bs]:SetN (a0::a1::a2::a3::as) (i+4) c (a0::a1::a2::a3::bs):=⟨by rw[<- h.e];rfl⟩
class NormE (ρ:En)(ρ':outParam En):Prop where
 e:ρ=ρ'
instance{a:Option Cell}{as:En}:NormE (a::as) (a::as):=⟨rfl⟩
instance{ρ ρ1 ρ2:En}{i:Nat}{c:Option Cell}[h:NormE ρ ρ1][k:SetN ρ1 i c ρ2]:NormE (ρ.set i c) ρ2:=⟨by rw[h.e];exact k.e⟩
class NoneN (as:En)(nn:outParam En):Prop where
 e:bM as.length none=nn
instance:NoneN [] []:=⟨rfl⟩
instance{a:Option Cell}{as nn:En}[h:NoneN as nn]:NoneN (a::as) (none::nn):=⟨by rw[aF,bT,h.e]⟩
class StartN (N:List Str)(ts:qD)(ρ:outParam En):Prop where
 e:J0 N ts=ρ
instance:StartN [] [] []:=⟨rfl⟩
instance{x:Str}{N:List Str}{ρ:En}[h:StartN N [] ρ]:StartN (x::N) [] (none::ρ):=⟨by have:=h.e;simp only[J0,fP,cV,bO,mX]at this ⊢;rw[aF,bT,this]⟩
instance{x:Str}{N:List Str}{t:ae}{ts:qD}{ρ:En}[h:StartN N ts ρ]:StartN (x::N) (t::ts) (some (.val t)::ρ):=⟨by have:=h.e;simp only[J0]at this ⊢;rw[aK,aF,aF,cA,Nat.add_sub_add_right,this]⟩
theorem ziI{d:DTS}{D:JO}{n:Nat}{N:List Str}{ts:qD}{l:En}[e:StartN N ts l](h:d D l n):d D (J0 N ts) n:=e.e.symm▸h
class CapN (is:List Nat)(ρ:En)(out:outParam En):Prop where
 e:(is.map fun i=>capV (ρ.getD i none))=out
class CapC (c:Option Cell)(c':outParam (Option Cell)):Prop where
 e:capV c=c'
instance{d:ae}:CapC (some (.val d)) (some (.val d)):=⟨rfl⟩
instance{d:qD}:CapC (some (.own d)) none:=⟨rfl⟩
instance:CapC none none:=⟨rfl⟩
instance{ρ:En}:CapN [] ρ []:=⟨rfl⟩
instance{i:Nat}{is:List Nat}{ρ out:En}{c c':Option Cell}[g:GetN ρ i c][k:CapC c c'][h:CapN is ρ out]:CapN (i::is) ρ (c'::out):=⟨by have ge:=g.e;rw[aK,h.e,bg,ge,fQ,k.e]⟩
class CompN (m:Nat)(capt:List Nat)(ρ:En)(ρ':outParam En):Prop where
 e:JQ m capt ρ=ρ'
instance{x:Str}{capt:List Nat}{ρ out:En}[h:CapN capt ρ out]:CompN (eI [x]) capt ρ (none::out):=⟨by unfold JQ;rw[h.e];rfl⟩
instance{x y:Str}{capt:List Nat}{ρ out:En}[h:CapN capt ρ out]:CompN (eI [x,y]) capt ρ (none::none::out):=⟨by unfold JQ;rw[h.e];rfl⟩
instance{x y z:Str}{capt:List Nat}{ρ out:En}[h:CapN capt ρ out]:CompN (eI [x,y,z]) capt ρ (none::none::none::out):=⟨by unfold JQ;rw[h.e];rfl⟩
instance{x y z u:Str}{capt:List Nat}{ρ out:En}[h:CapN capt ρ out]:CompN (eI [x,y,z,u]) capt ρ (none::none::none::none::out):=⟨by unfold JQ;rw[h.e];rfl⟩
def SetK(i:Nat)(c:Option Cell)(K:En->Nat->Prop)(l:En)(n:Nat):Prop:=K (l.set i c) n
section
variable{t u:DTS}{D:JO}{ρ ρ0 ρ':En}{n i j m:Nat}{d dj:DTE}{ds di:DTA}{tt:DTT}{tg:DTG}{R:qN}{Rl:List ae->Nat->Prop}{Re:En->Prop}{x:ae}{xs:qD}{f:Int->Int->Int}{capt:List Nat}{c:Option Cell}{K:En->Nat->Prop}{q:Int}
instance zvg [h:SetN ρ i c ρ']:Stp (SetK i c K ρ n) (K ρ' n):=⟨fun k=>by unfold SetK;rw[h.e];exact k⟩
instance zuZ:Stp (sSet i d D ρ n) (d ρ n fun t n'=>SetK i (some (.val t)) D.nx ρ n'):=⟨fun h=>h⟩
instance zu0:Stp (sOwn i ds D ρ n) (ds ρ n fun t n'=>SetK i (some (.own t)) D.nx ρ n'):=⟨fun h=>h⟩
instance zsB [h:SetN ρ i (some (.val x)) ρ']:Stp (Jv i x ρ Re) (Re ρ'):=⟨fun k=>by unfold Jv;rw[h.e];exact k⟩
instance zvd [h:GetN ρ i (some (.val x))]:Stp (dVar i ρ n R) (R x n):=⟨fun k=>znP h.e k⟩
instance zve [h:GetN ρ i (some (.own xs))]:Stp (dOwn i ρ n R) (R (.list xs) n):=⟨fun k=>znQ h.e k⟩
instance ztd [h:GetN ρ i (some (.own xs))]:Stp (U7 i d D ρ n) (d ρ n fun t n'=>xs.length<16777216/\SetK i (some (.own (xs++[t]))) D.nx ρ n'):=⟨fun k=>ziq h.e k⟩
instance zta [h:GetN ρ i (some (.own xs))][h':SetN ρ i (some (.val (.list xs))) ρ']:Stp (Y6 i t D ρ n) (t D ρ' n):=⟨fun k=>zin h.e (by rw[h'.e];exact k)⟩
instance zvk [h:GetN ρ i (some (.val (.int q)))]:Stp (sAug i f d D ρ n) (d ρ n fun t n'=>lInt t fun k=>SetK i (some (.val (.int (f q k)))) D.nx ρ n'):=⟨fun k=>zuK h.e k⟩
instance zvf [h:CompN m capt ρ ρ0]:Stp (dComp m capt di tg tt d ρ n Rl) (di ρ n fun ts n1=>QJ tg tt d ρ0 ts [] n1 Rl):=⟨fun k=>zpa (by rw[h.e];exact k)⟩
end
theorem UQ{l:En}{i:Nat}:l.set i (l.getD i none)=l:=by apply mP;intro j;by_cases h:i=j;subst h;by_cases hl:i<l.length;rw[eZ hl,bg,aC hl];rfl;rw[cc (by simp;omega),cc (by omega)];rw[bQ h]
section
variable{g:DTG}{tb:DTS}{D:JO}{ts:qD}{ρ:En}{n:Nat}
theorem znW(C i1:Nat)(Inv:Nat->Option Cell->Option Cell->Nat->Prop){u:Option Cell->Option Cell->En}[N:∀l a1,NormE ((ρ.set C l).set i1 a1) (u l a1)](h0:Inv 0 (ρ.getD C none) (ρ.getD i1 none) n)
  (turn:∀(k:Nat) (t:ae) (l a1:Option Cell) (m:Nat) (K:En->Nat->Prop) (L:qN) (J:En->Nat->Prop),ts[k]?=some t->Inv k l a1 m->(∀v x G,Inv (k+1) v x G->K (u v x) G)->(∀t m,D.rt t m->L t m)->(∀ρ m,D.nx ρ m->J ρ m)->g t (u l a1) fun o=>tb { nx:=K,rt:=L,bk:=J,ct:=K,xr:=D.xr } o m)
  (fin:∀l a1 m,Inv ts.length l a1 m->D.nx (u l a1) m):forP g tb D ts ρ n:=by
 refine Zn (fun k o m=>∃l a1,o=((ρ.set C l).set i1 a1)/\Inv k l a1 m) ⟨_,_,?_,h0⟩ ?_ ?_;rw[UQ,UQ];rintro k t o m K e ⟨l,a1,rfl,I⟩ hK;rw[(N l a1).e];exact turn k t l a1 m K D.rt D.nx e I (fun v x G h=>(N v x).e▸hK _ _ ⟨v,x,rfl,h⟩) (fun _ _ h=>h) (fun _ _ h=>h);rintro o m ⟨l,a1,rfl,I⟩;rw[(N l a1).e];exact fin l a1 m I
theorem zsg(S i1 U Z R:Nat)(Inv:Nat->Option Cell->Option Cell->Option Cell->Option Cell->Option Cell->Nat->Prop){x:Option Cell->Option Cell->Option Cell->Option Cell->Option Cell->En}[N:∀l a1 a2 o u,NormE (((((ρ.set S l).set i1 a1).set U a2).set Z o).set R u) (x l a1 a2 o u)](h0:Inv 0 (ρ.getD S none) (ρ.getD i1 none) (ρ.getD U none) (ρ.getD Z none) (ρ.getD R none) n)
  (turn:∀(k:Nat) (t:ae) (l a1 a2 o u:Option Cell) (m:Nat) (K:En->Nat->Prop) (RT:qN) (BK:En->Nat->Prop),ts[k]?=some t->Inv k l a1 a2 o u m->(∀C I G J L Y,Inv (k+1) C I G J L Y->K (x C I G J L) Y)->(∀t m,D.rt t m->RT t m)->(∀ρ m,D.nx ρ m->BK ρ m)->g t (x l a1 a2 o u) fun v=>tb { nx:=K,rt:=RT,bk:=BK,ct:=K,xr:=D.xr } v m)
  (fin:∀l a1 a2 o u m,Inv ts.length l a1 a2 o u m->D.nx (x l a1 a2 o u) m):forP g tb D ts ρ n:=by
 refine Zn (fun k v m=>∃l a1 a2 o u,v=(((((ρ.set S l).set i1 a1).set U a2).set Z o).set R u)/\Inv k l a1 a2 o u m) ⟨_,_,_,_,_,?_,h0⟩ ?_ ?_;rw[UQ,UQ,UQ,UQ,UQ];rintro k t v m K e ⟨l,a1,a2,o,u,rfl,hI⟩ hK;rw[(N l a1 a2 o u).e];exact turn k t l a1 a2 o u m K D.rt D.nx e hI (fun C I G J L Y h=>(N C I G J L).e▸hK _ _ ⟨C,I,G,J,L,rfl,h⟩) (fun _ _ h=>h) (fun _ _ h=>h);rintro v m ⟨l,a1,a2,o,u,rfl,hI⟩;rw[(N l a1 a2 o u).e];exact fin l a1 a2 o u m hI
theorem zm0{i j:Nat}{u:DTS}{D:JO}{I nn G C:En}{n:Nat}{ns:List Int}{k:Int}[ej:GetN (some (.val (SCR ns))::I) j (some (.val (.int k)))][e1:NoneN I nn][e2:SetN (some (.val (SCR ns))::nn) j (some (.val (.int k))) G][e3:SetN G i (some (.val HAND)) C](S:ns.length<=63)(Y:0<=k)(U:k<=100)
  (h:∀(N:En->Nat->Prop) (L:qN) (J R:En->Nat->Prop),(∀x m,D.nx (JH x) n->N x m)->(∀b m,D.rt (.bool b) n->L (.bool b) m)->(∀x m,D.bk (JH x) n->J x m)->(∀x m,D.ct (JH x) n->R x m) ->
   u { nx:=N,rt:=L,bk:=J,ct:=R } C 0):UV i j u D (some (.val (SCR ns))::I) n:=by
 refine zo4 (ρd:=some (.val (SCR ns))::nn) rfl ej.e S Y U ?_ ?_;show some (Cell.val (SCR ns))::bM (eI (some (Cell.val (SCR ns))::I) - 1) none=_;rw[aF,Nat.add_sub_cancel,e1.e];rw[e2.e,e3.e];exact h _ _ _ _ (fun _ _ h=>h) (fun b _ h=>⟨b,rfl,h⟩) (fun _ _ h=>h) (fun _ _ h=>h)
theorem zn7{c:DTT}{tb:DTS}{D:JO}{ρ:En}{n:Nat}(Inv:Nat->En->Nat->Prop){m:Nat}(h0:Inv m ρ n)
  (turn:∀m ρ n (K:En->Nat->Prop) (x:qN) (v:En->Nat->Prop),Inv m ρ n->(∀o l u,o<m->Inv o l u->K l u)->(∀t m,D.rt t m->x t m)->(∀ρ m,D.nx ρ m->v ρ m) ->
   c ρ n fun b n1=>if b=true then tb { nx:=K,rt:=x,bk:=v,ct:=K,xr:=D.xr } ρ n1 else v ρ n1):zjD c tb D ρ n :=
 zjg Inv h0 fun m ρ n h=>turn m ρ n (fun l u=>∃o,o<m/\Inv o l u) D.rt D.nx h (fun o _ _ a b=>⟨o,a,b⟩) (fun _ _ h=>h) (fun _ _ h=>h)
end
open Builtin Builtin.Str
def cutS(x:Str)(lo hi:Option Int):Str:=⟨((x.cps.toList.drop (HT.sIx x.length 0 lo)).take (HT.sIx x.length x.length hi - HT.sIx x.length 0 lo)).toArray⟩
theorem Y7(n d:Nat)(i:Int):((HT.sIx n d (some i):Nat):Int)=max 0 (min (if i<0 then i+(n:Int) else i) (n:Int)):=by simp only[HT.sIx];by_cases h:i<0;simp only[h,if_true] <;> lia;simp only[h,if_false] <;> lia
theorem zp4(lo hi:Option Int)(n:Nat):strSliceIndices lo hi 1 n=sliceRange ((HT.sIx n 0 lo:Nat):Int) ((HT.sIx n n hi:Nat):Int) 1:=by
 have l:((HT.sIx n 0 none:Nat):Int)=0:=by simp[HT.sIx]
 have o:((HT.sIx n n none:Nat):Int)=n:=by simp[HT.sIx]
 cases lo with
 | none =>
  cases hi with
  | none=>rw[l,o];rfl
  | some j=>rw[l,Y7];rfl
 | some i =>
  cases hi with
  | none=>rw[o,Y7];rfl
  | some j=>rw[Y7,Y7];rfl
theorem zjs(x:Str)(lo hi:Option Int):nu x lo hi=cutS x lo hi:=by
 have e:strSliceIndices lo hi 1 x.length=(cg (HT.sIx x.length x.length hi - HT.sIx x.length 0 lo)).map (HT.sIx x.length 0 lo+·):=by rw[zp4,sliceRange_one]
 have o:(strSliceIndices lo hi 1 x.length).filterMap (x.cps[·]?)=(x.cps.toList.drop (HT.sIx x.length 0 lo)).take (HT.sIx x.length x.length hi - HT.sIx x.length 0 lo):=by rw[e,pick_run]
 unfold nu;split;rename_i h;have u:(strSliceIndices lo hi 1 x.length).length=x.length:=by simpa using h
 rw[e,aJ,fI]at u;unfold cutS;have v:HT.sIx x.length x.length hi<=x.length:=by
  cases hi with
  | none=>simp[HT.sIx]
  | some i=>simp only[HT.sIx];split <;> lia
 have z:HT.sIx x.length 0 lo=0\/x.length=0:=by lia
 have:(x.cps.toList.drop (HT.sIx x.length 0 lo)).take (HT.sIx x.length x.length hi - HT.sIx x.length 0 lo)=x.cps.toList:=by
  have sz:x.cps.toList.length=x.length:=by simp[gn]
  rcases z with z|z;rw[z,iQ,cQ (by lia)];have:x.cps.toList=[]:=dM.mp (by lia);rw[this];simp
 rw[this];rw[o];rfl
section
variable{X:Cx}
theorem zeM{v:af}{p:Option Int}(h:i5 v p):∃l:Option (Int×Tok),v=partValue l/\l.map (·.1)=p:=by
 cases h with
 | none=>exact⟨none,rfl,rfl⟩
 | int i t=>exact⟨some (i,t),rfl,rfl⟩
def rSlS:V->Option Int->Option Int->Hp->VK->Prop:=fun x lo hi H Q=>∃z,x=.str z/\z.length<=sizeLine/\Q (.str (cutS z lo hi)) H
theorem zp8:SlR X rSlS:=by intro pins s σ H x v S R lo hi sl Q I L J pl G h;obtain⟨z,rfl,N,q⟩:=h;obtain⟨t,rfl⟩:=L;obtain⟨l,rfl,rfl⟩:=zeM pl;obtain⟨u,rfl,rfl⟩:=zeM G;have C:s.heap.IsSlice sl l u none:=J;refine⟨"str",_,F.slot_str_getitem.lookup,gQ _ _ _,wpAny_getItem_str_slice (l:=l) (u:=u) (st:=none) C rfl (post_val_or_str ?_)⟩;have e:(if (((none:Option (Int×Tok)).map (·.1)).getD 1 == 1&&(slicePicked z l u none).length == z.length)=true then z else⟨((slicePicked z l u none).filterMap (z.cps[·]?)).toArray⟩)=nu z (l.map (·.1)) (u.map (·.1)):=rfl;rw[e];refine⟨aH (Txt.slice_le z _ _) N,fun t' k=>⟨.str (nu z (l.map (·.1)) (u.map (·.1))),H,I.tok _,⟨_,rfl⟩,?_⟩⟩;rw[zjs];exact q
def oSlA(t:ae)(lo hi:Option Int)(R:ae->Prop):Prop:=match t with
 | .tuple ts=>R (.tuple (cutD ts lo hi))
 | .str x=>x.length<=16777216/\R (.str (cutS x lo hi))
 | _=>False
def dSlA(d:DTE)(dl o:DTO):DTE:=fun l n R=>d l n fun t n1=>dl l n1 fun lo n2=>o l n2 fun hi u=>oSlA t lo hi fun z=>R z u
variable{e a b iter tg:aO}{d da db:DTE}{lo hi:Option aO}{dlo dhi:DTO}{pos p2:Pos}
theorem VF(h:DL X e d)(U:DP X lo dlo)(hu:DP X hi dhi):DE X (.Subscript e (.Slice lo hi none p2) pos) (dSlA d dlo dhi):=by
 obtain⟨ta,pa,h⟩:=h;obtain⟨tl,pl,U⟩:=U;obtain⟨tu,pu,hu⟩:=hu;refine⟨_,zmm (SlR.or (SlR.or zp7 zob) zp8) pa pl pu,fun C Z σ H n Q R S hd Y=>?_⟩;refine h C Z σ H n _ _ S hd fun t n1 v H1 r1 e1 h1 q1=>?_;have S1:=S.on e1 h1;refine U C Z σ H1 n1 _ _ S1 r1 fun lo n2 H2 r2 e2 h2=>?_;have S2:=S1.on e2 h2;refine hu C Z σ H2 n2 _ _ S2 r2 fun hi N H3 x G I=>?_;have S3:=S2.on G I;have L:=(e2.trans G).repT S.hx q1;cases t with
 | tuple ts =>obtain⟨a,o,rfl,hs,rs⟩:=L.tupI;by_cases w:HT.sIx o.length 0 lo=0/\HT.sIx o.length o.length hi=o.length;refine .inl (.inr ⟨a,o,rfl,hs,w,Y _ N _ H3 x (e1.trans (e2.trans G)) I ?_⟩);rw[zi9 (by rw[<- rs.length];exact w)];exact L.rep (by intro _ z;cases z);refine .inl (.inl ⟨a,o,rfl,hs,w,fun p J=>Y _ N _ _ x (e1.trans (e2.trans (G.trans (ExtE.new J)))) (I.same (JP J)) ?_⟩);exact .newT (S3.free J) J (znh rs lo hi)
 | str z =>rw[L.strI];exact .inr ⟨z,rfl,x.1,Y _ N _ H3 x.2 (e1.trans (e2.trans G)) I (.str _)⟩
 | _=>exact x.elim
def repS(x:Str)(n:Int):Str:=⟨(bM n.toNat x.cps.toList).flatten.toArray⟩
theorem zgH(x:Array Nat):∀(n:Nat) (u:Array Nat),(bM n x).foldl (·++·) u=(u.toList++(bM n x.toList).flatten).toArray
 | 0,u=>by simp
 | n+1,u=>by rw[bT,fw,zgH x n,bT,gJ];simp
theorem zoD:OpR X (binaryOp .Mult) (fun x y H Q=>∃i j,x=.str i/\y=.int j/\-100000<=j/\j<=100000/\i.length<=100/\Q (.str (repS i j)) H):=by
 intro pins s σ H x y v u Q I L R h;obtain⟨i,j,rfl,rfl,Z,j1,hi,q⟩:=h;obtain⟨t,rfl⟩:=L;obtain⟨t',rfl⟩:=R;have N:decide (j < -(2 ^ 63:Int))=false:=decide_eq_false (by lia);have e1:decide (j>=2 ^ 63)=false:=decide_eq_false (by lia);have C:∀n:Nat,n<=100000->i.length*n<=10000000:=fun n J=>Nat.mul_le_mul hi J;refine P.mul_str (by rw[N,e1];rfl) (fun S _ h2=>?_) (fun S _=>?_) ?_;have Y:(100:Int)<=(2 ^ 63 - 1) / j:=by apply Int.le_ediv_of_mul_le (by lia);lia
 lia;have:=C j.toNat (by lia);unfold tooLong;exact decide_eq_false (by have:sizeLine=16777216:=rfl;lia);by_cases c1:j<1;rw[if_pos c1];have e:repS i j=fB:=by unfold repS;rw[show j.toNat=0 by lia];rfl
 rw[e]at q;exact⟨by decide,.str fB,H,I.tok _,⟨_,rfl⟩,q⟩;rw[if_neg c1];by_cases c2:(j == 1||i.length == 0)=true;rw[if_pos c2];have e:repS i j=i:=by
  unfold repS;rw[hW,beq_iff_eq,beq_iff_eq]at c2;rcases c2 with c2|c2;subst c2;simp;have z:i.cps.toList=[]:=dM.mp (by simpa[gn] using c2);have G:i.cps=#[]:=by have:=congrArg List.toArray z;simpa using this
  rw[z];have:(bM j.toNat ([]:List Nat)).flatten=[]:=by simp
  rw[this,<- G]
 rw[e]at q;exact⟨.str i,H,I,⟨_,rfl⟩,q⟩;rw[if_neg c2];have e:repS i j=⟨(bM j.toNat i.cps).foldl (·++·) #[]⟩:=by unfold repS;rw[zgH];simp
 rw[e]at q;refine⟨?_,.str _,H,I.tok _,⟨_,rfl⟩,q⟩;have:=C j.toNat (by lia);show(⟨(bM j.toNat i.cps).foldl (·++·) #[]⟩:Str).length<=sizeLine;rw[<- e];unfold repS gn;rw[ay,List.length_flatten,List.map_replicate,List.sum_replicate_nat,aP];have e3:sizeLine=16777216:=rfl;have U:j.toNat*i.cps.size=i.length*j.toNat:=by rw[Nat.mul_comm];rfl
 lia
def Zv:G2
 | .int i,.int j,R=>CMul i j/\R (.int (i*j))
 | .str i,.int j,R=>-100000<=j/\j<=100000/\i.length<=100/\R (.str (repS i j))
 | _,_,_=>False
theorem zoE:OpR X (binaryOp .Mult) (fun x y H Q=>(rI CMul fun i j=>.int (i*j)) x y H Q\/∃i j,x=.str i/\y=.int j/\-100000<=j/\j<=100000/\i.length<=100/\Q (.str (repS i j)) H):=OpR.or QW zoD
theorem zpd:Gp2 X (fun x y H Q=>(rI CMul fun i j=>.int (i*j)) x y H Q\/∃i j,x=.str i/\y=.int j/\-100000<=j/\j<=100000/\i.length<=100/\Q (.str (repS i j)) H) Zv:=by intro hd O H x y t u Q R dom v C g o;unfold Zv at g;split at g;rw[v.intI,C.intI];exact .inl ⟨_,_,rfl,rfl,g.1,o _ _ H g.2 (Same.refl _) (.int _)⟩;rw[v.strI,C.intI];exact .inr ⟨_,_,rfl,rfl,g.1,g.2.1,g.2.2.1,o _ _ H g.2.2.2 (Same.refl _) (.str _)⟩;exact g.elim
theorem zlc(ha:DL X a da)(hb:DL X b db):DE X (.BinOp a .Mult b pos) (dOp Zv da db):=QO zoE zpd ha hb
end
def Its(z:Str):It:=⟨fun i _=>i<z.cps.size,fun i H x l=>l=H/\∃c,z.cps[i]?=some c/\x=.str ⟨#[c]⟩,fun i _=>z.cps.size<=i⟩
theorem zlV{P:aI}{w:aT}{K:qF}{tg:aO}(z:Str)(t:Tok)(it:ah)(T:String)(L:T = "str_ascii_iterator" \/ T = "str_iterator"):Turn P w K tg (Its z) [it] it (fun i h=>h.IsStrIter it T z t i) where
 mem:=by simp
 obj:=fun i h st b hb=>by
  have e:b=it:=by simpa using hb
  subst e;obtain⟨o,e,c,d⟩:=st;exact⟨o,e,fun v z=>by rw[d]at z;cases z⟩
 keep:=fun i h h' st k=>by obtain⟨o,e,r⟩:=st;exact⟨o,k it (by simp) o e,r⟩
 item:=by
  intro X S hw Z hc i pins s σ H E I hf st C;subst S hw Z;obtain⟨f0,f1,f2,N,f4,R⟩:=hf it (by simp);have C:i<z.cps.size:=C;have G:z.cps[i]?=some z.cps[i]:=by simp[C]
  have fin:∀h',h'.IsStrIter it T z t (i+1)->fN it s.heap h'->∃u,some (ke ⟨#[z.cps[i]]⟩ s.toks)=some u /\
    wpAny (model X.prog X.w) X.A (letOwnedTupleGo tg (.ref it) u) (fun _ s2=>∃x Y,Inv X pins σ Y s2/\RelV x u/\(Its z).yld i H x Y/\s2.heap.IsStrIter it T z t (i+1)/\∀b∈[it],Y b=none) E { s with heap:=h',toks:=s.toks+1 }:=by
   intro h' J sb;have I1:Inv X pins σ H { s with heap:=h',toks:=s.toks+1 }:=I.turned (t':=s.toks+1) (fun b o hb e=>(sb.2 b hb).trans e) f0 f1 N f4 R;obtain⟨o,e,c,d⟩:=id J;have ne:(T = "enumerate")=False:=by rcases L with rfl|rfl <;> decide
   refine⟨_,rfl,YC (s:={ s with heap:=h',toks:=s.toks+1 }) (n:=T) e c d (by rcases L with rfl|rfl <;> decide) ⟨.str ⟨#[z.cps[i]]⟩,H,I1,⟨_,rfl⟩,⟨rfl,_,G,rfl⟩,J,fun b hb=>(hf b hb).1⟩⟩
  rcases L with rfl|rfl;exact wpAny_pyNext_ascii_item st G fin;exact wpAny_pyNext_wide_item st G fin
 done:=by
  intro X S hw Z hc i pins s σ H E I hf st C;subst S hw Z;obtain⟨f0,f1,f2,N,f4,R⟩:=hf it (by simp);have C:z.cps.size<=i:=C;have G:z.cps[i]?=none:=by simp[C]
  rcases L with rfl|rfl;exact wpAny_pyNext_ascii_end (I.ok.hd hc) st G fun h' U=>⟨rfl,I.turned (t':=s.toks) (fun b o hb e=>U b o hb e) f0 f1 N f4 R⟩;exact wpAny_pyNext_wide_end (I.ok.hd hc) st G fun h' U=>⟨rfl,I.turned (t':=s.toks) (fun b o hb e=>U b o hb e) f0 f1 N f4 R⟩
 self:=fun _ _ _ _ _ st h=>by rcases L with rfl|rfl;exact wpAny_pyIter_striter_ascii st h;exact wpAny_pyIter_striter_wide st h
section
variable{X:Cx}{tg iter:aO}{d:DTE}
def iStr(l:TE):TI:=fun σ H R=>l σ H fun x o=>∃z,x=.str z/\R (Its z) o
theorem zqB{l:aO}{G:TE}(L:PE X l G):PI X tg l (iStr G):=by
 intro pins s σ H R I h;refine thn (L pins s σ H _ I h) fun v s1 C=>?_;obtain⟨x,J,u,N,q1⟩:=C;obtain⟨z,rfl,q⟩:=q1;obtain⟨t,rfl⟩:=N;have key:∀T,(T = "str_ascii_iterator" \/ T = "str_iterator")->PIE X pins σ tg R (.ref s1.heap.objs.size) { s1 with heap:=s1.heap.push { cls:=.type T,data:=.fields #[.str z t,.int 0 0] } }:=by
  intro T S;refine⟨s1.heap.objs.size,[s1.heap.objs.size],_,_,J,rfl,u.kept (t':=s1.toks) fun b o e=>ai _ e,zlV z t _ T S,⟨_,aB _ rfl,rfl,rfl⟩,fun b hb=>?_,q⟩;have e:b=s1.heap.objs.size:=by simpa using hb
  subst e;exact u.fpOk (aw _) (u.hok.fresh (aw _))
 cases ha:z.cps.all (·<128);exact wpAny_pyIter_wide ha (key _ (.inr rfl));exact wpAny_pyIter_ascii ha (key _ (.inl rfl))
def sgnD(z:Str):List ae:=z.cps.toList.map fun c=>.str ⟨#[c]⟩
theorem zrM{K:qF}{hd:Option ah}{P O:ah->Prop}{H:Hp}{z:Str}:ItOk K hd P O H (Its z) (sgnD z):=by
 intro N R _ _ _;have sz:z.cps.toList.length=z.cps.size:=by simp
 refine⟨fun i t o=>?_,by show z.cps.size<=(sgnD z).length;unfold sgnD;rw[aJ];lia⟩;unfold sgnD at o;rw[aU]at o;cases ec:z.cps.toList[i]? with
 | none=>rw[ec]at o;cases o
 | some c =>
  rw[ec]at o;cases o;obtain⟨hi,G⟩:=aL.mp ec;have u:i<z.cps.size:=by lia
  have v:z.cps[i]?=some c:=by rw[<- bN];exact ec
  refine⟨u,fun x L I=>?_⟩;obtain⟨rfl,J,C,rfl⟩:=I;rw[v]at C;cases C;exact⟨Same.refl _,.str _⟩
def lStr:ae->(Str->Prop)->Prop
 | .str z,R=>R z
 | _,_=>False
def dItS(d:DTE):DTA:=fun o n R=>d o n fun t l=>lStr t fun z=>R (sgnD z) l
theorem zk6(h:DE X iter d):DI X tg iter (dItS d):=by
 obtain⟨I,pa,h⟩:=h;refine⟨_,zqB pa,fun C x σ H n Q R S hd o=>?_⟩;refine h C x σ H n _ _ S hd fun t G v u r e1 l q=>?_;cases t with
 | str z =>rw[q.strI];exact⟨z,rfl,o _ G _ u r e1 l zrM⟩
 | _=>exact r.elim
end
section
variable{X:Cx}{a b:aO}{rest:List aO}{ta tb:TE}{da db:DTE}{pos:Pos}
theorem zne{x:Str}{i:Int}(l:∃t,X.mg x=some (.int i t))(u:Gl X x:=by rfl)(hd:Ndb x:=by rfl):DE X (.Name x pos) (dC (.int i)):=by obtain⟨t,l⟩:=l;refine⟨tC (.int i),fun pins s σ H Q I h=>zkj I u l ⟨.int i,H,I,⟨_,rfl⟩,h⟩ hd,fun _ _ _ H n _ _ S h o=>o _ n _ H h ExtE.refl S.hnd (.int i)⟩
end
section
variable{ρ:En}{n:Nat}{d da db:DTE}{dlo dhi:DTO}{R:qN}{Rl:List ae->Nat->Prop}{Q:ae->Prop}{xs:qD}{lo hi:Option Int}{x:Str}{i j:Int}{Ql:List ae->Prop}
instance zvh:Stp (dSlA d dlo dhi ρ n R) (d ρ n fun t n1=>dlo ρ n1 fun lo n2=>dhi ρ n2 fun hi n3=>oSlA t lo hi fun z=>R z n3):=⟨fun h=>h⟩
instance zuX:Stp (oSlA (.tuple xs) lo hi Q) (Q (.tuple (cutD xs lo hi))):=⟨fun h=>h⟩
instance zuY:Stp (oSlA (.str x) lo hi Q) (x.length<=16777216/\Q (.str (cutS x lo hi))):=⟨fun h=>h⟩
instance zu3:Stp (Zv (.str x) (.int j) Q) (-100000<=j/\j<=100000/\x.length<=100/\Q (.str (repS x j))):=⟨fun h=>h⟩
instance zvi:Stp (dItS d ρ n Rl) (d ρ n fun t n'=>lStr t fun z=>Rl (sgnD z) n'):=⟨fun h=>h⟩
instance zu4 {Rs:Str->Prop}:Stp (lStr (.str x) Rs) (Rs x):=⟨fun h=>h⟩
end
mutual
def plnD:ae->Bool
 | .dict []=>true
 | .dict _=>false
 | .tuple ts=>decide (ts.length<=1000000)&&UU ts
 | .list ts=>decide (ts.length<=1000000)&&UU ts
 | .str x=>decide (x.length<=1000000)
 | _=>true
def UU:List ae->Bool
 | []=>true
 | t::ts=>plnD t&&UU ts
end
def PlnD(d:ae):Prop:=plnD d=true
theorem zd4:∀{ts:qD},UU ts=true↔∀t∈ts,PlnD t
 | []=>by simp[UU]
 | t::ts=>by rw[UU,aZ,zd4 (ts:=ts)];constructor;rintro⟨a,b⟩ u l;rcases aq.mp l with rfl|l;exact a;exact b u l;intro h;exact⟨h t (by simp),fun u l=>h u (by simp[l])⟩
theorem PlnD.tup{ts:qD}(h:PlnD (.tuple ts)):ts.length<=1000000/\∀t∈ts,PlnD t:=by unfold PlnD plnD at h;rw[aZ,decide_eq_true_iff,zd4]at h;exact h
theorem PlnD.str{x:Str}(h:PlnD (.str x)):x.length<=1000000:=by unfold PlnD plnD at h;exact decide_eq_true_iff.mp h
theorem Zj{ts:qD}(l:ts.length<=1000000)(h:∀t∈ts,PlnD t):PlnD (.tuple ts):=by unfold PlnD plnD;rw[aZ,decide_eq_true_iff,zd4];exact⟨l,h⟩
theorem zib{x:Str}(h:x.length<=1000000):PlnD (.str x):=by unfold PlnD plnD;exact decide_eq_true h
theorem zfc{i:Int}:PlnD (.int i):=by unfold PlnD plnD;rfl
theorem zfb:∀t∈([]:qD),PlnD t:=fun t h=>nomatch h
theorem UN{x:ae}{xs:qD}(h:PlnD x)(h':∀t∈xs,PlnD t):∀t∈x::xs,PlnD t:=fun t l=>by rcases aq.mp l with rfl|l;exact h;exact h' t l
theorem PlnD.pln{d:ae}(h:PlnD d):Pln d:=by
 cases d with
 | dict l =>
  cases l with
  | nil=>exact Uv
  | cons a b=>cases a with|mk x y=>simp[PlnD,plnD]at h
 | none=>exact Ut
 | bool=>exact Ud
 | int=>exact Q1
 | str=>exact Ug
 | list=>exact Us
 | tuple=>exact Uu
def IsNm(s:Str):Prop:=1<=s.length/\s.length<=8/\∀c∈s.cps.toList,97<=c/\c<=122
def nmS(s:Str):Bool:=decide (1<=s.length)&&decide (s.length<=8)&&s.cps.toList.all fun c=>decide (97<=c)&&decide (c<=122)
theorem zhm{s:Str}:nmS s=true↔IsNm s:=by unfold nmS IsNm;simp only[aZ,decide_eq_true_iff,bw,and_assoc]
def nmD:ae->Bool
 | .str s=>nmS s
 | _=>false
theorem JV(s:Str):s.cps.toList.length=s.length:=by simp[gn]
theorem zj6{a b:Nat}:(([a]:List Nat)<[b])↔a<b:=by
 constructor;intro h;cases h with
 | rel h=>exact h
 | cons h=>cases h
 intro h;exact .rel h
theorem zoT{a c:Nat}:(!decide (([c]:List Nat)<[a]))=decide (a<=c):=by rw[<- decide_not];exact decide_eq_decide.mpr (by rw[zj6];lia)
theorem Q0(a b:Str):(a++b).cps.toList=a.cps.toList++b.cps.toList:=by show(a.cps++b.cps).toList=_;simp
theorem Str.ext'{a b:Str}(h:a.cps.toList=b.cps.toList):a=b:=by
 cases a with|mk a =>
 cases b with|mk b =>
 have:a=b:=Array.toList_inj.mp h;rw[this]
theorem zoX{x:Str}{i:Int}{k c:Nat}{R:ae->Prop}(l:x.length<=16777216)(hi:i=(k:Int))(e:x.cps.toList[k]?=some c)(h:R (.str ⟨#[c]⟩)):oIx (.str x) (.int i) R:=by subst hi;have a:atI x.cps.toList (k:Int)=some c:=Bd.zfH (by lia) (by simpa using e);show x.length<=16777216/\(match atI x.cps.toList (k:Int) with|some c=>R (.str ⟨#[c]⟩)|none=>False);rw[a];exact⟨l,h⟩
theorem letters{k:Nat}(h:k<26):(aa "abcdefghijklmnopqrstuvwxyz").cps.toList[k]?=some (97+k):=by
 have:∀i:Fin 26,(aa "abcdefghijklmnopqrstuvwxyz").cps.toList[i.val]?=some (97+i.val):=by decide +kernel
 exact this ⟨k,h⟩
theorem zei{x:Str}{i:Int}{k:Nat}(h:i=(k:Int)):(cutS x none (some i)).cps.toList=x.cps.toList.take k:=by subst h;unfold cutS;rw[HT.ze3,HT.zg7];simp only[iQ,mX];rw[<- JV x];simp[List.take_eq_take_iff]
theorem zgN{x:Str}{i:Int}{k:Nat}(h:i=(k:Int))(l:k<=x.length):(cutS x (some i) none).cps.toList=x.cps.toList.drop k:=by subst h;unfold cutS;rw[HT.ze3,HT.zg7,eF l];show(ym _ (yn k x.cps.toList))=_;rw[cQ (by rw[de,JV];lia)]
def OkK(k:Nat)(t:ae):Prop:=t.canLay0=true/\t.depth<=k
theorem OkK.okd{k:Nat}{t:ae}(h:OkK k t)(l:k<=60:=by decide):Okd t:=⟨h.1,aH h.2 l⟩
theorem zoJ{i:Int}:OkK 0 (.int i):=⟨by simp[cn],by simp[fc]⟩
theorem okK_str{s:Str}(h:cn (.str s)=true):OkK 0 (.str s):=⟨h,by simp[fc]⟩
theorem OkK.mono{k o:Nat}{t:ae}(h:OkK k t)(l:k<=o):OkK o t:=⟨h.1,aH h.2 l⟩
theorem zhk{k:Nat}:∀{ts:qD},(∀t∈ts,OkK k t)->bW ts=true/\cU ts<=k
 | [],_=>⟨by simp[bW],by simp[cU]⟩
 | t::ts,h=>by obtain⟨a,b⟩:=zhk (ts:=ts) fun u l=>h u (by simp[l]);have c:=h t (by simp);refine⟨by simp[bW,c.1,a],?_⟩;have:=c.2;simp only[cU];lia
theorem zj_{k:Nat}{ts:qD}(h:∀t∈ts,OkK k t):OkK (k+1) (.tuple ts):=by obtain⟨a,b⟩:=zhk h;exact⟨by simpa only[cn] using a,by simp only[fc];lia⟩
theorem zoI{k:Nat}{ts:qD}(h:∀t∈ts,OkK k t):OkK (k+1) (.list ts):=by obtain⟨a,b⟩:=zhk h;exact⟨by simpa only[cn] using a,by simp only[fc];lia⟩
theorem zq2{b:Int×Int}:OkK 1 (prD b):=zj_ fun t l=>by simp only[aq,av,or_false]at l;rcases l with rfl|rfl <;> exact zoJ
theorem zt8{s:Str}(h:IsNm s):OkK 0 (.str s):=okK_str (by simp only[cn];show(s.cps.all (·<0x110000))=true;rw[<- Array.all_toList,bw];intro c hc;have:=h.2.2 c hc;exact decide_eq_true (by lia))
theorem zm7{xs:qD}:dh (.list xs) (.list [])=xs.isEmpty:=by
 cases xs with
 | nil=>rfl
 | cons a b=>rfl
theorem zej{α:Type}{cs:List α}{D:α->ae}{tg:DTG}{tt:DTT}{d:DTE}{ρ0:En}{n:Nat}{Rl:List ae->Nat->Prop}(p:α->Bool)(F:α->ae)(J:cs.length<=16777216)
  (step:∀b∈cs,∀(K:qN) (X:Nat->Prop),(p b=true->K (F b) n)->(p b=false->X n)->tg (D b) ρ0 fun v=>tt v n fun c n2=>if c=true then d v n2 K else X n2) (fin:Rl ((cs.filter p).map F) n):QJ tg tt d ρ0 (cs.map D) [] n Rl:=by
 refine zll (fun j o m=>m=n/\o=((cs.take j).filter p).map F) ⟨rfl,rfl⟩ ?_ ?_;rintro j x o m K u ⟨rfl,rfl⟩ hK;rw[aU]at u;cases eb:cs[j]? with
 | none=>rw[eb]at u;cases u
 | some b =>
  rw[eb]at u;cases u;obtain⟨I,e2⟩:=aL.mp eb;have G:cs.take (j+1)=cs.take j++[b]:=by rw[dZ,eb];rfl
  refine step b (aX eb) _ _ (fun C=>⟨?_,hK _ _ ⟨rfl,?_⟩⟩) (fun C=>hK _ _ ⟨rfl,?_⟩);have:=k6 p (cs.take j);simp at this ⊢;lia;rw[G,mC,dO];simp[C];rw[G,mC,dO];simp[C]
 rintro o m ⟨rfl,rfl⟩;rw[aJ,eU];exact fin
theorem zmb{x:Str}{n:Int}:(repS x n).cps.toList=(bM n.toNat x.cps.toList).flatten:=rfl
abbrev Run:=Int×Int
end L2
namespace Bd
open PySem L2
def ppD(xs:List (ae×ae)):List ae:=xs.map fun p=>.tuple [p.1,p.2]
def oD(os:List ((Int×Int)×Str)):List ae:=os.map fun p=>.tuple [prD p.1,.str p.2]
theorem Q8{os:List ((Int×Int)×Str)}:(oD os).length=os.length:=by simp[oD]
def Shr(bits:Int)(os:List ((Int×Int)×Str)):Prop:=Ptc bits (os.map (·.1))/\∀p∈os,IsNm p.2
def IsSh(bits:Int)(d:ae):Prop:=∃os,d=.tuple (oD os)/\Shr bits os
theorem zq3(os:List ((Int×Int)×Str)):oD os=ppD (os.map fun p=>(prD p.1,.str p.2)):=by unfold oD ppD;rw[cx];rfl
theorem zg_:∀{xs l:List (ae×ae)},ppD xs=ppD l->xs=l
 | [],[],_=>rfl
 | [],_::_,h=>by cases h
 | _::_,[],h=>by cases h
 | (a,b)::xs,(c,d)::l,h=>by simp only[ppD,aK,fv,iR,and_true]at h;obtain⟨⟨rfl,rfl⟩,h⟩:=h;rw[zg_ h]
def apB(a b:Int×Int):Prop:=eB a<=b.1\/eB b<=a.1
def okPr(p q:(Int×Int)×Str):Prop:=p.2=q.2\/apB p.1 q.1
def Agr(os l:List ((Int×Int)×Str)):Prop:=∀p∈os,∀q∈l,okPr p q
theorem zq4{os:List ((Int×Int)×Str)}{k:Nat}{p:(Int×Int)×Str}(h:os[k]?=some p):(oD os)[k]?=some (.tuple [.tuple [.int p.1.1,.int p.1.2],.str p.2]):=by unfold oD;rw[aU,h];rfl
theorem zsw{bits:Int}{a b:Int×Int}(A:IsBk bits a.1 a.2)(B:IsBk bits b.1 b.2):(!hldD a.1 a.2 b.1 b.2&&!hldD b.1 b.2 a.1 a.2)=true↔apB a b:=by rw[zsv A B,decide_eq_true_iff];unfold apB eB;omega
abbrev Deal:=Int×List ((Int×Int)×Str)×List ((Int×Int)×Str)
def dlD(d:Deal):ae:=.tuple [.int d.1,.tuple (oD d.2.1),.tuple (oD d.2.2)]
def Dl(d:Deal):Prop:=1<=d.1/\d.1<=64/\Shr d.1 d.2.1/\Shr d.1 d.2.2/\Agr d.2.1 d.2.2
def IsDl(x:ae):Prop:=∃d:Deal,x=dlD d/\Dl d
theorem dl3{a b c:ae}{d:Deal}(e:cG [a,b,c]=dlD d):a=.int d.1/\b=.tuple (oD d.2.1)/\c=.tuple (oD d.2.2):=by unfold dlD at e;simpa using e
theorem zkb:∀{os l:List ((Int×Int)×Str)},oD os=oD l->os=l
 | [],[],_=>rfl
 | [],_::_,h=>by cases h
 | _::_,[],h=>by cases h
 | ((a,b),c)::os,((a',b'),c')::l,h=>by simp only[oD,aK,fv,iR,nv,PyData.str.injEq,and_true]at h;obtain⟨⟨⟨rfl,rfl⟩,rfl⟩,h⟩:=h;rw[zkb h]
def nD(l:List Str):List ae:=l.map .str
end Bd
namespace L2
open PySem PySem.Spec PyProof.Rows
def Ite(K:qF)(a:ah):It :=
 ⟨fun i H=>∃xs x,SqL K H a xs/\xs[i]?=some x,
  fun i H v l=>∃p x,H p=none/\v=.ref p/\(∀xs,SqL K H a xs->xs[i]?=some x)/\l=upd H p (.tup [.int (i:Int),x]),
  fun i H=>∃xs,SqL K H a xs/\xs.length<=i⟩
theorem zjk{P:aI}{w:aT}{K:qF}{L:List aO}{x1:_}{pos:Pos}{e it a:ah}(J:e≠it)(hae:a≠e)(hai:a≠it) :
  Turn P w K (.Tuple L x1 pos) (Ite K a) [e,it] e (fun i h=>∃old,IsEnum h e it (i:Int) old/\h.IsListIter it a i) where
 mem:=by simp
 obj:=fun i h st c hc=>by obtain⟨old,C,o,hi,hi2,hi3⟩:=st;simp only[aq,av,or_false]at hc;rcases hc with rfl|rfl;exact⟨_,C,fun v y=>by cases y⟩;exact⟨_,hi,fun v y=>by rw[hi3]at y;cases y⟩
 keep:=fun i h h' st k=>by obtain⟨old,C,hi⟩:=st;exact⟨old,k _ (by simp) _ C,hi.at (k _ (by simp))⟩
 item:=by
  intro X N hw hK hc i pins s σ H E I hf st S;subst N hw hK;obtain⟨xs,x,q1,hx⟩:=S;obtain⟨its,Z,p1,z1⟩:=I.list q1;obtain⟨G,hux,R⟩:=Z.get hx;obtain⟨old,C,hi⟩:=st;refine wpAny_pyNext_enum_item C hi p1.isList (x:=G) (by simpa using hux) J fun h' Y hit pr sz kp=>?_;refine⟨_,rfl,?_⟩;refine wpAny_letOwnedTupleGo_enum (s:={ s with heap:=h',toks:=s.toks+1 }) Y fun h2 he2 sb=>?_;have big:∀c∈[e,it],c<s.heap.objs.size:=fun c hc=>by simp only[aq,av,or_false]at hc;rcases hc with rfl|rfl;exact ax C;obtain⟨o,e1,_⟩:=hi;exact ax e1
  have hp:H s.heap.objs.size=none:=I.hok.fresh (aw _);have I1:Inv X pins σ (upd H s.heap.objs.size (.tup [.int (i:Int),x])) { s with heap:=s.heap.push { cls:=.type "tuple",data:=.seq #[.int (i:Int) s.toks,G] } } :=
   I.laid (t':=s.toks) (fun b o e=>ai _ e) (aw _) (show JE X.prog X.w _ _ _ (.tup [.int (i:Int),x]) from⟨by show 2<=sizeLine;decide,[.int (i:Int) s.toks,G],.cons ⟨_,rfl⟩ (.cons R .nil),IsTD.new _ _⟩)
  have HW:∀c∈[e,it],c≠s.heap.objs.size:=fun c hc=>aN (big c hc);have fu:∀c∈[e,it],upd H s.heap.objs.size (.tup [.int (i:Int),x]) c=none:=fun c hc=>by rw[Je (HW c hc)];exact(hf c hc).1
  refine⟨.ref s.heap.objs.size,upd H s.heap.objs.size (.tup [.int (i:Int),x]),?_,rfl,⟨_,x,hp,rfl,fun xs' h=>by rw[I.list_inj h q1];exact hx,rfl⟩,?_,fu⟩;refine Inv.turnedL (s:={ s with heap:=s.heap.push { cls:=.type "tuple",data:=.seq #[.int (i:Int) s.toks,G] } }) (t':=s.toks+1) [e,it] I1 (fun c o hc e=>?_) fun c hc=>⟨fu c hc,(hf c hc).2⟩;simp only[aq,av,or_false,not_or]at hc;refine sb.extBut _ _ hc.1 ?_;by_cases y:c=s.heap.objs.size;subst y;have U:(s.heap.push { cls:=.type "tuple",data:=.seq #[.int (i:Int) s.toks,G] }).get? s.heap.objs.size=some _:=aB _ rfl;have e2:some o=some _:=e.symm.trans U;cases e2;exact pr;have U:s.heap.get? c=some o:=by have e3:(s.heap.push { cls:=.type "tuple",data:=.seq #[.int (i:Int) s.toks,G] }).get? c=some o:=e;rwa [cR _ _ _ y]at e3
  exact kp c o hc.1 hc.2 U;refine⟨G,?_,hit.at fun o e=>sb.extBut _ _ J.symm e⟩;have:((i+1:Nat):Int)=(i:Int)+1:=by push_cast;rfl
  rw[this];exact he2
 done:=by intro X N hw hK hc i pins s σ H E I hf st S;subst N hw hK;obtain⟨xs,q1,hx⟩:=S;obtain⟨its,Z,p1,z1⟩:=I.list q1;have l1:=Z.length;obtain⟨old,C,hi⟩:=st;refine wpAny_pyNext_enum_end (I.ok.hd hc) C hi p1.isList (by simp;omega) fun h' kp=>⟨rfl,?_⟩;refine Inv.turnedL (t':=s.toks) [e,it] I (fun c o hc e=>?_) fun c hc=>hf c hc;simp only[aq,av,or_false,not_or]at hc;exact kp c o hc.2 e
 self:=fun _ _ _ _ _ st h=>by obtain⟨old,C,hi⟩:=st;exact mY C h
section
variable{X:Cx}{a b:aO}{elts:List aO}{x1:Nat}{p p' pos:Pos}
def zuP(K:qF)(o:TA):TI:=fun σ H R=>o σ H fun u l=>∃(c:ah) (xs:List V),u=[.ref c]/\SqL K l c xs/\R (Ite K c) l
theorem zov{J:TA}(Y:Gl X "enumerate") (S:X.mg "enumerate" = none) (ha:PA X [a] J) (hs:starEach [a] X.env=[(false,eval a X.env)]) :
  PI X (.Tuple elts x1 p') (.Call (.Name "enumerate" p) [a] [] pos) (zuP X.K J):=by
 intro pins s σ H R I h;refine Call_ (UG I Y S boot_enumerate (cL (thn (ha pos pins s σ H _ I h) fun us s1 ⟨vs,U,x,Z,q1⟩=>?_) (by rw[hs];rfl) (by rfl)));obtain⟨c,xs,rfl,G,q⟩:=q1;cases Z with
 | cons r rr =>
  cases rr;cases r;obtain⟨its,_,L,_⟩:=x.list G;have lt:c<s1.heap.objs.size:=by obtain⟨o,e,_⟩:=L.isList;exact ax e
  refine call_enumerate_list L.isList fun h' v hi sz kp=>?_;refine mY (s:={ s1 with heap:=h' }) v ?_;refine⟨_,_,_,_,U,rfl,x.kept (t':=s1.toks) kp,zjk (by simp) (aN (mT lt)) (aN lt),⟨_,v,hi⟩,fun e v=>?_,q⟩;have ge:s1.heap.objs.size<=e:=by simp only[aq,av,or_false]at v;rcases v with rfl|rfl;exact bL _ _;exact aw _
  exact x.fpOk ge (x.hok.fresh ge)
def UD(xs:qD):List ae:=xs.zipIdx.map fun q=>.tuple [.int (q.2:Int),q.1]
def lLs1(t:ae)(R:List ae->Prop):Prop:=match t with|.list ts=>R ts|_=>False
def zpx(l:DTE):DTA:=fun o n R=>l o n fun x n1=>lLs1 x fun xs=>R (UD xs) n1
theorem zpm{da:DTE}(hm:X.mg "enumerate" = none) (h:DE X a da) (hg:Gl X "enumerate":=by rfl) (hs:starEach [a] X.env=[(false,eval a X.env)]:=by rfl) :
  DI X (.Tuple elts x1 p') (.Call (.Name "enumerate" p) [a] [] pos) (zpx da):=by
 obtain⟨ta,pa,h⟩:=h;refine⟨_,zov hg hm (J3 pa Qy hs) hs,fun C ρ σ H n Q R S hd hq=>?_⟩;refine h C ρ σ H n _ _ S hd fun x n1 v H1 Z e1 hn1 q1=>?_;cases x with
 | list xs =>
  have Z:R (UD xs) n1:=Z;obtain⟨k1,c,vs,rfl,s1,f1⟩:=srcB (P:=fun a=>¬Own C ρ σ a) (fun _ z=>z) q1 (.inr rfl:lA xs=.tuple xs\/lA xs=.list xs);obtain⟨q,I,eq,U,no,rr⟩:=q1.lstI;cases eq;refine⟨c,I,rfl,SqL.of U,hq _ n1 _ H1 Z e1 hn1 ?_⟩;intro O2 H3 h1 h2 h3;have G:SqL X.K H3 c I:=SqL.of (h1 c _ U no);have Y:Reps X.K C.hd O2 H3 I xs:=rr.mono (fun a o ha z=>cX fun no=>h2 a o ha no z) fun a o no ha=>h1 a o ha no;refine⟨fun i t J=>?_,?_⟩;unfold UD at J;rw[aU]at J;cases ez:xs.zipIdx[i]? with
  | none=>rw[ez]at J;cases J
  | some q =>
   rw[ez]at J;cases J;rw[List.getElem?_zipIdx]at ez;cases ey:xs[i]? with
   | none=>rw[ey]at ez;cases ez
   | some y =>rw[ey]at ez;cases ez;obtain⟨vx,L,rx⟩:=Y.get ey;refine⟨⟨I,vx,G,L⟩,fun v H4 hyd=>?_⟩;obtain⟨pp,x',hp,rfl,hx',rfl⟩:=hyd;have e1:x'=vx:=aQ ((hx' I G).symm.trans L);subst e1;refine⟨JP hp,.newT (fun z=>h3 pp z hp) hp (.cons ?_ (.cons rx .nil))⟩;simpa using Rep.int _
  refine⟨I,G,?_⟩;have:=Y.length;unfold UD;simp only[aJ,List.length_zipIdx];omega
 | _=>exact Z.elim
end
end L2
namespace L2
open PySem
section
variable{ρ:En}{n:Nat}{da:DTE}{R:List ae->Nat->Prop}{Rl:List ae->Prop}{xs:qD}
instance ztX:Stp (zpx da ρ n R) (da ρ n fun x n1=>lLs1 x fun xs=>R (UD xs) n1):=⟨fun h=>h⟩
instance zu5:Stp (lLs1 (.list xs) Rl) (Rl xs):=⟨fun h=>h⟩
end
end L2
namespace L2
open PySem PySem.Spec PyProof PyProof.Rows PySem.W
section
variable{X:Cx}{e a b c:aO}{x:Str}{pos:Pos}{d:DTE}{ds:DTA}
def Vm(i:Nat)(d:DTE):DTS:=fun D l n=>match l[i]? with
 | some (some (.own ts))=>d l n fun t u=>lLst t fun us=>ts.length+us.length<=16777216/\D.nx (l.set i (some (.own (ts++us)))) u
 | _=>False
theorem zgJ(i:Nat){J R o:Pos}(h:DE X e d)(hN:X.N[i]?=some x:=by rfl)(hv:Vis X.env.scope x:=by walk_at "V")(hd:Ndb x:=by rfl)
  (hcd:Ncd x:=by rfl) (hs:swapsWith (.Call (.Attribute (.Name x J) "extend" R) [e] [] o) none pos.line X.env=pure false:=by rfl)
  (E2:attributeBase (.Name x J) "extend" X.env (eval (.Name x J) X.env)=eval (.Name x J) X.env:=by rfl)
  (Hk:((backTo o (starEach [e] X.env)).all (fun x=>!x.1)&&(backToKw o (keywordEach [] X.env)).all (fun x=>x.1.isSome)
   && decide ([e].length+([]:List e8).length+(if ([]:List e8).isEmpty then 0 else 1)<30))=true:=by rfl)
  (E3:(R.endLine == o.line)=true:=by rfl) (I:starEach [e] X.env=[(false,eval e X.env)]:=by rfl):DS X (.Expr (.Call (.Attribute (.Name x J) "extend" R) [e] [] o) pos) (Vm i d):=by
 obtain⟨ta,pa,h⟩:=h;refine⟨_,zg9 (Uz gv PySem.F.slot_list_extend PySem.F.type_list_extend zke (Qg hN hv hd hcd) (J3 pa Qy I) E2 Hk E3 I rfl) hs,fun C ρ σ H n D D' S hd g=>?_⟩;unfold Vm at hd;split at hd;rename_i ts et;obtain⟨p,vs,Y,h2,h3,h4⟩:=S.own i ts et;refine⟨.ref p,Y,.inl ⟨rfl,_,SqL.of h2⟩,?_⟩;refine h C ρ σ H n _ _ S hd fun t n' v H' r e1 hn q=>?_;cases t with
 | list us =>have S1:=S.on e1 hn;obtain⟨p',Z,L,U,G,h4'⟩:=S1.own i ts et;rw[Y]at L;cases L;obtain⟨b,ws,rfl,hb,_,q⟩:=q.lstI;refine⟨p,b,Z,ws,rfl,rfl,U,hb,by rw[G.length,q.length];exact r.1,?_⟩;obtain⟨S2,k2⟩:=S1.chg et Y (G.append q);exact g.nx _ _ _ n' r.2 S2 (e1.keep.trans k2)
 | _=>exact r.elim
 exact hd.elim
instance ztb {i:Nat}{ρ:En}{n:Nat}{D:JO}{xs:qD}[h:GetN ρ i (some (.own xs))]:Stp (Vm i d D ρ n) (d ρ n fun t n'=>lLst t fun us=>xs.length+us.length<=16777216/\SetK i (some (.own (xs++us))) D.nx ρ n'):=⟨fun k=>by unfold Vm;rw[h.e];exact k⟩
end
end L2
namespace L2
open PySem Bd
variable{as bs cs:List Run}{a b:Nat}
end L2
namespace L2
open PySem PySem.Spec PyProof.Rows
abbrev KT(H:Hp):List (List Key×V)->List (List Key×ah×af)->Prop:=gm fun p q=>p.1=q.1/\H q.2.1=some (.tup (p.1.map kV))/\RelV p.2 q.2.2
def NoSl(i:aO):Prop:=∀l o,subscripted i false l o=operate [l,o] (getItem l o)
theorem zn9{prog:aI}{w:aT}{A:bu}{E:qV}{s:ak}{env:Env}{value slice:aO}{pos:Pos}{T id:String}{Q:qV}
  (R:typeLookup (.type T) "__getitem__" = pure (some (.builtin id))) (U:NoSl slice)
  (h:wpAny (model prog w) A (eval value env) (fun o I=>wpAny (model prog w) A (eval slice env) (fun i v=>v.TypeIs o T/\wpAny (model prog w) A (getItem o i) Q E v) E I) E s) :
  wpAny (model prog w) A (eval (.Subscript value slice pos) env) Q E s:=by
 refine ow (cH h (fun o I J=>cH J (fun i v C=>?_) fun _ _ x=>x) fun _ _ x=>x);obtain⟨N,C⟩:=C;unfold subscriptTail;refine ab ?_;rw[getitemInPython_of_ne N.not_modules];refine ab (nX N R ?_);have fin:wpAny (model prog w) A (subscripted slice false o i) (fun r G=>wpAny (model prog w) A (letTemporaryGo value o r >>= fun _=>pure r) Q E G) E v:=by rw[U o i];exact wpAny_operating (cH C (fun r G L=>ab (wpAny_letTemporaryGo (aj L))) fun _ _ x=>x)
 first
  | exact aj (ab fin)
  | exact ab (aj (ab fin))
  | exact ab fin
end L2
namespace L2
open PySem PySem.Spec PyProof PyProof.Rows
abbrev KD:=List (Key×ae)
section
variable{D:JO}{ρ ρ':En}{n i j:Nat}{d dk dv:DTE}{R:qN}{ks:KD}
instance{ks:KD}:CapC (some (.dct ks)) (some (.rdo ks)):=⟨rfl⟩
instance{ks:KD}:CapC (some (.rdo ks)) (some (.rdo ks)):=⟨rfl⟩
end
def Itrs(lo c:Int)(n:Nat):It:=⟨fun i _=>i<n,fun i H x l=>l=H/\x=.int (lo+i*c),fun i _=>n<=i⟩
theorem zg4{P:aI}{w:aT}{K:qF}{tg:aO}(it:ah)(lo c:Int)(n:Nat):Turn P w K tg (Itrs lo c n) [it] it (fun i h=>lh h it (lo+(i:Nat)*c) ((n:Int) - (i:Nat)) c) where
 mem:=by simp
 obj:=fun i h st b hb=>by
  have e:b=it:=by simpa using hb
  subst e;exact⟨_,st,fun v z=>by have S:uj _=xJ v:=z;cases S⟩
 keep:=fun i h h' st k=>k it (by simp) _ st
 item:=by intro X u hw J hc i pins s σ H E I hf st x;subst u hw J;obtain⟨f0,f1,f2,C,f4,G⟩:=hf it (by simp);have W:=uk (prog:=X.prog) (w:=X.w) (I.ok.hd hc) it lo c n;refine W.item i s _ _ x st fun v h' L U l N=>?_;obtain⟨t,rfl⟩:=U;have R:Inv X pins σ H { s with heap:=h',toks:=L }:=I.turned (fun b o hb e=>N b o (by simpa using hb) e) f0 f1 C f4 G;exact⟨_,rfl,YC (s:={ s with heap:=h',toks:=L }) (n:="range_iterator") l rfl rfl (by decide) ⟨.int (lo+i*c),H,R,⟨t,rfl⟩,⟨rfl,rfl⟩,l,fun b hb=>(hf b hb).1⟩⟩
 done:=by intro X u hw J hc i pins s σ H E I hf st x;subst u hw J;obtain⟨f0,f1,f2,C,f4,G⟩:=hf it (by simp);exact kI (I.ok.hd hc) st (by have:n<=i:=x;lia) fun h' Y=>⟨rfl,I.turned (t':=s.toks) (fun b o hb e=>Y b o hb e) f0 f1 C f4 G⟩
 self:=fun _ _ _ _ _ st h=>kJ st h
def rngN(a b c:Int):Nat:=(bU a b c).toNat
def U4(a c:Int)(n:Nat):List ae:=(cg n).map fun(i:Nat)=>cI (a+(i:Int)*c)
theorem zdn{a b c:Int}:0<=bU a b c:=by unfold bU;split;split;have:=eG (a:=b - a - 1) (b:=c) (by lia) (by lia);lia;lia;split;have:=eG (a:=a - b - 1) (b:=-c) (by lia) (by lia);lia;lia
theorem ziJ{a b c:Int}(G:-(2 ^ 60)<=a)(x:a<2 ^ 60)(C:-(2 ^ 60)<=b)(l:b<2 ^ 60)(v:-(2 ^ 29)<=c)(u:c<2 ^ 29)(h0:c≠0):lV a b c=true:=by
 have o:bU a b c<2 ^ 62:=by unfold bU;split;split;have:=kD (a:=b - a - 1) c (by lia);lia;lia;split;have:=kD (a:=a - b - 1) (-c) (by lia);lia;lia
 have I:=zdn (a:=a) (b:=b) (c:=c);unfold lV;simp only[n9,aZ,hW,decide_eq_true_eq,beq_iff_eq];split <;> simp only[aZ,decide_eq_true_eq] <;> lia
section
variable{X:Cx}{tg:aO}{a b c:aO}{ta tb tc:TE}{da db dc:DTE}{p pos:Pos}
def zuM(ta:TA):TI:=fun σ H R=>ta σ H fun o l=>∃i j k:Int,o=[.int i,.int j,.int k]/\(-(2 ^ 60)<=i/\i<2 ^ 60/\-(2 ^ 60)<=j/\j<2 ^ 60/\-(2 ^ 29)<=k/\k<2 ^ 29/\k≠0)/\R (Itrs i k (rngN i j k)) l
theorem zjU{ta:TA}(hg:Gl X "range") (Z:X.mg "range" = none) (ha:PA X [a,b,c] ta) (hs:starEach [a,b,c] X.env=[(false,eval a X.env),(false,eval b X.env),(false,eval c X.env)]) (x:starEach [b,c] X.env=[(false,eval b X.env),(false,eval c X.env)]) :
  PI X tg (.Call (.Name "range" p) [a,b,c] [] pos) (zuM ta):=by
 intro pins s σ H R I h;refine Call_ (UG I hg Z boot_range (cL (thn (ha pos pins s σ H _ I h) fun us s1 ⟨vs,S,I1,r1,q1⟩=>?_) (by rw[hs,x]) (by rw[x];rfl)));obtain⟨lo,hi,k,e,⟨q1,q2,q3,q4,Y,q6,U⟩,q⟩:=q1;subst e;cases r1 with
 | cons r G =>
  cases G with
  | cons r' G =>
   cases G with
   | cons J G =>
    cases G;obtain⟨t,rfl⟩:=r;obtain⟨u,rfl⟩:=r';obtain⟨v,rfl⟩:=J;refine call_range_3 U ?_ (.inl (PyProof.noPylong_small (by lia)));refine mj (um ..) (ziJ q1 q2 q3 q4 Y q6 U) ?_;have L:Inv X pins σ S { s1 with heap:=s1.heap.push { cls:=.type "range",data:=.fields #[.int lo t,.int hi u,.int k v] },toks:=s1.toks }:=I1.kept fun b o e=>ai _ e;refine⟨(s1.heap.push { cls:=.type "range",data:=.fields #[.int lo t,.int hi u,.int k v] }).objs.size,[(s1.heap.push { cls:=.type "range",data:=.fields #[.int lo t,.int hi u,.int k v] }).objs.size],_,_,S,rfl,
     L.kept (t':=s1.toks) fun b o e=>ai _ e,zg4 _ lo k (rngN lo hi k),?_,fun b hb=>?_,q⟩
    have e1:lo+((0:Nat):Int)*k=lo:=by simp
    have e2:((rngN lo hi k:Nat):Int) - ((0:Nat):Int)=bU lo hi k:=by have:=zdn (a:=lo) (b:=hi) (c:=k);unfold rngN;lia
    show lh _ _ (lo+((0:Nat):Int)*k) (((rngN lo hi k:Nat):Int) - ((0:Nat):Int)) k;rw[e1,e2];exact aB _ rfl;have e:b=(s1.heap.push { cls:=.type "range",data:=.fields #[.int lo t,.int hi u,.int k v] }).objs.size:=by simpa using hb
    subst e;exact L.fpOk (aw _) (L.hok.fresh (aw _))
theorem zkH{K:qF}{hd:Option ah}{P O:ah->Prop}{H:Hp}{lo c:Int}{m:Nat}:ItOk K hd P O H (Itrs lo c m) (U4 lo c m):=by intro G C _ _ _;refine⟨fun i t o=>?_,by show m<=(U4 lo c m).length;simp[U4]⟩;unfold U4 at o;rw[aU]at o;by_cases hi:i<m;rw[ig hi]at o;cases o;refine⟨hi,fun x v u=>?_⟩;obtain⟨rfl,rfl⟩:=u;exact⟨Same.refl _,.int _⟩;rw[cc (by simp;lia)]at o;cases o
def zsq(C G o:DTE):DTA:=fun l n R=>C l n fun t n1=>G l n1 fun u n2=>o l n2 fun v x=>lInt t fun i=>lInt u fun j=>lInt v fun k=>(-(2 ^ 60)<=i/\i<2 ^ 60/\-(2 ^ 60)<=j/\j<2 ^ 60/\-(2 ^ 29)<=k/\k<2 ^ 29/\k≠0)/\R (U4 i k (rngN i j k)) x
theorem zk7(hm:X.mg "range" = none) (h:DE X a da) (h':DE X b db) (o:DE X c dc) (hg:Gl X "range":=by rfl) (Z:starEach [a,b,c] X.env=[(false,eval a X.env),(false,eval b X.env),(false,eval c X.env)]:=by rfl) (x:starEach [b,c] X.env=[(false,eval b X.env),(false,eval c X.env)]:=by rfl) (I:starEach [c] X.env=[(false,eval c X.env)]:=by rfl) :
  DI X tg (.Call (.Name "range" p) [a,b,c] [] pos) (zsq da db dc):=by
 obtain⟨ta,pa,h⟩:=h;obtain⟨tb,pb,h'⟩:=h';obtain⟨tc,pc,o⟩:=o;refine⟨_,zjU hg hm (J3 pa (J3 pb (J3 pc Qy I) (by rw[x,I])) (by rw[Z,x])) Z x,fun C L σ H n Q R S hd hq=>?_⟩;refine h C L σ H n _ _ S hd fun t n' v H' r e1 hn q=>?_;have Y:=S.on e1 hn;refine h' C L σ H' n' _ _ Y r fun u n2 w H2 r2 e2 J q2=>?_;have S2:=Y.on e2 J;refine o C L σ H2 n2 _ _ S2 r2 fun y n3 w H3 G e3 U q3=>?_;cases t with
 | int i =>
  cases u with
  | int j =>
   cases y with
   | int k =>rw[q.intI,q2.intI,q3.intI];exact⟨i,j,k,rfl,G.1,hq _ n3 _ H3 G.2 (e1.trans (e2.trans e3)) U zkH⟩
   | _=>exact G.elim
  | _=>exact G.elim
 | _=>exact G.elim
instance zu1 {d1 d2 d3:DTE}{ρ:En}{n:Nat}{R:List ae->Nat->Prop}:Stp (zsq d1 d2 d3 ρ n R) (d1 ρ n fun t n1=>d2 ρ n1 fun u n2=>d3 ρ n2 fun v n3=>lInt t fun i=>lInt u fun j=>lInt v fun k=>(-(2 ^ 60)<=i/\i<2 ^ 60/\-(2 ^ 60)<=j/\j<2 ^ 60/\-(2 ^ 29)<=k/\k<2 ^ 29/\k≠0)/\R (U4 i k (rngN i j k)) n3):=⟨fun h=>h⟩
end
end L2
namespace Bd
open PySem L2
def Dq(K:qF)(mg:qM)(x:Str)(st:cN)(ps:List Str):Prop:=∃f fd,Def K mg x st ps f fd
def Fq(P:aI)(w:aT)(K:qF)(mg:qM)(base:bt)(x:Str)(st:cN)(ps:List Str)(k:Nat)(l:Sp):Prop:=∃f fd,Def K mg x st ps f fd/\FnOk P w K mg base CX0 k f fd ps l
end Bd
namespace L2
open PySem PySem.Spec PyProof.Rows
section
variable{X:Cx}{x:Str}{st:cN}{ps:List Str}{k n m:Nat}{g:GD}{e:aO}{es:List aO}{ds:DTA}{p pos:Pos}
theorem Jd(F:Bd.Fq X.prog X.w X.K X.mg X.base x st ps k (spD X.K m g))(u:Room n X.A)(h:DB X (e::es) ds)(I:k<=n:=by decide)(v:(e::es).length=m:=by rfl)(J:Gl X x:=by rfl)
  (o:Ndb x:=by rfl):DE X (.Call (.Name x p) (e::es) [] pos) (dFn g ds):=by
 obtain⟨f,fd,D,G⟩:=F;exact zuU D G (u.mono I) h v J o
theorem zsn(F:Bd.Fq X.prog X.w X.K X.mg X.base x st ps k (spD X.K m g))(u:Room n X.A)(h:DBL X (e::es) ds)(I:k<=n:=by decide)(v:(e::es).length=m:=by rfl)(J:Gl X x:=by rfl)
  (o:Ndb x:=by rfl):DE X (.Call (.Name x p) (e::es) [] pos) (dFnL g ds):=by
 obtain⟨f,fd,D,G⟩:=F;exact zso D G (u.mono I) h v J o
end
section
variable{X:Cx}{hx s kx x:Str}{st:cN}{ps:List Str}{k n:Nat}{p p1 p2 p3 pos pos':Pos}{sts:List cN}{u:DTS}
theorem zk0{i j:Nat}(F:Bd.Fq X.prog X.w X.K X.mg X.base hx st ps k (Z5 X.K))(hr:Room n X.A)(hN:X.N.Nodup)(hi:X.N[i]?=some x)(o:Loc X.env.scope x)(hu:DSs X sts u)(hk:k<=n:=by decide)(S:i≠0:=by decide)(I:j≠0:=by decide)(J:j≠i:=by decide)
  (h0:X.N[0]?=some s:=by rfl) (hj:X.N[j]?=some kx:=by rfl) (v:Vis X.env.scope s:=by walk_at "V") (U:Vis X.env.scope kx:=by walk_at "V")
  (L:Ndb s:=by rfl) (HS:Ncd s:=by rfl) (R:Ndb kx:=by rfl) (HU:Ncd kx:=by rfl) (Z:Gl X hx:=by rfl) (Y:Ndb hx:=by rfl)
  (hs:swapsWith (.Call (.Name hx p) [.Name s p1,.Name kx p2] [] p3) (some (.Name x pos')) pos.line X.env=pure false:=by rfl) (hf:Fnl X x:=by walk_at "F") :
  DSs X (.Assign [.Name x pos'] (.Call (.Name hx p) [.Name s p1,.Name kx p2] [] p3) pos::sts) (UV i j u):=by
 obtain⟨f,fd,D,G⟩:=F;exact zm_ D G (hr.mono hk) hN hi o hu S I J h0 hj v U L HS R HU Z Y hs hf
end
end L2
namespace Bd
open PySem L2
section
variable{K:qF}{h:bt}{mg:qM}{x:Str}{st:cN}{ps:List Str}
abbrev BndA(x:Str)(st:cN)(ps:List Str):Prop:=∀(kV doc pm:af) (an:Option ah) (cdv ct:af) (us:List af),us.length=ps.length->bindArgs (cP x x (QB st) (J9 st) (JC st) .none kV doc pm an cdv ct) ⟨us,[]⟩=pure (ps.zip us)
theorem lenS{us:List af}{n:Nat}(h:us.length=n+1):∃a t,us=a::t/\t.length=n:=by
 cases us with
 | nil=>cases h
 | cons a t=>exact⟨a,t,rfl,sW h⟩
theorem len1{us:List af}(h:us.length=1):∃a,us=[a]:=by obtain⟨a,t,rfl,e⟩:=lenS h;exact⟨a,by rw[List.eq_nil_of_length_eq_zero e]⟩
theorem len2{us:List af}(h:us.length=2):∃a b,us=[a,b]:=by obtain⟨a,t,rfl,e⟩:=lenS h;obtain⟨b,rfl⟩:=len1 e;exact⟨a,b,rfl⟩
theorem len3{us:List af}(h:us.length=3):∃a b c,us=[a,b,c]:=by obtain⟨a,t,rfl,e⟩:=lenS h;obtain⟨b,c,rfl⟩:=len2 e;exact⟨a,b,c,rfl⟩
theorem len4{us:List af}(h:us.length=4):∃a b c d,us=[a,b,c,d]:=by obtain⟨a,t,rfl,e⟩:=lenS h;obtain⟨b,c,d,rfl⟩:=len3 e;exact⟨a,b,c,d,rfl⟩
end
end Bd
namespace L2
open PySem PySem.Spec PyProof PyProof.Rows
section
variable{X:Cx}{a b e:aO}{d da db:DTE}{pos p2 p3:Pos}
theorem zfI:∀{ss:List Str}{us:List af},Vals (ss.map V.str) us->∃l:List (Str×Tok),strValues l=us/\l.map (·.1)=ss
 | [],_,r=>by cases r;exact⟨[],rfl,rfl⟩
 | x::ss,_,r=>by
  cases r with
  | cons o u =>obtain⟨t,rfl⟩:=o;obtain⟨l,e1,e2⟩:=zfI u;exact⟨(x,t)::l,by simp[strValues]at e1 ⊢;exact e1,by simp[e2]⟩
def rJoin(K:qF):V->List V->Hp->VK->Prop:=fun x xs H Q=>∃(sep:Str) (l:ah) (ss:List Str),x=.str sep/\xs=[.ref l]/\SqL K H l (ss.map V.str)/\oM sep ss=true/\Q (.str (eV sep ss)) H
theorem zoQ:MtR X "str.join" (rJoin X.K):=by
 intro pins s σ H x xs v us Q I N rs h;obtain⟨sep,l,ss,rfl,rfl,u,ok,q⟩:=h;obtain⟨t,rfl⟩:=N;cases rs with
 | cons C L =>cases L;cases(show _=cu l from C);obtain⟨G,o,p,_⟩:=I.list u;obtain⟨J,e1,e2⟩:=zfI o;exact SC.join (l:=J) (texts:=ss) (by rw[e1];exact p.isList) e2 ok fun t' k=>⟨.str _,H,I.tok _,⟨_,rfl⟩,q⟩
theorem zfV{K:qF}{hd:Option ah}{O:ah->Prop}{H:Hp}:∀{ss:List Str}{l:List V},Reps K hd O H l (ss.map bH)->l=ss.map V.str
 | [],_,r=>by cases r;rfl
 | x::ss,_,r=>by
  cases r with
  | cons o u=>rw[o.strI,zfV u];rfl
def zpv(da db:DTE):DTE:=fun l n R=>da l n fun t n1=>lStr t fun sep=>db l n1 fun u n2=>lLst u fun ts=>∃ss:List Str,ts=ss.map bH/\oM sep ss=true/\R (.str (eV sep ss)) n2
theorem Y4(h:DL X a da)(h':DE X b db)(E2:attributeBase a "join" X.env (eval a X.env)=eval a X.env:=by rfl)
  (L:((backTo p3 (starEach [b] X.env)).all (fun x=>!x.1)&&(backToKw p3 (keywordEach [] X.env)).all (fun x=>x.1.isSome)
   && decide ([b].length+([]:List e8).length+(if ([]:List e8).isEmpty then 0 else 1)<30))=true:=by rfl) (E3:(p2.endLine == p3.line)=true:=by rfl) (o:starEach [b] X.env=[(false,eval b X.env)]:=by rfl):DE X (.Call (.Attribute a "join" p2) [b] [] p3) (zpv da db):=by
 obtain⟨ta,pa,h⟩:=h;obtain⟨tb,pb,h'⟩:=h';refine⟨_,Uz fk PySem.F.slot_str_join PySem.F.type_str_join zoQ pa (J3 pb Qy o) E2 L E3 o rfl,fun C I σ H n Q R S hd hq=>?_⟩;refine h C I σ H n _ _ S hd fun t n1 v Z r e1 h1 q1=>?_;cases t with
 | str sep =>
  rw[q1.strI];have U:=S.on e1 h1;refine⟨rfl,h' C I σ Z n1 _ _ U r fun u n2 w H2 J e2 h2 q2=>?_⟩;cases u with
  | list ts =>obtain⟨ss,rfl,ok,Y⟩:=J;obtain⟨p,vs,rfl,G,_,N⟩:=q2.lstI;rw[zfV N]at G;exact⟨sep,p,ss,rfl,rfl,SqL.of G,ok,hq _ n2 _ H2 Y (e1.trans e2) h2 (.str _)⟩
  | _=>exact J.elim
 | _=>exact r.elim
theorem zoR:MtR X "str.endswith" (fun x xs H Q=>∃z y,x=.str z/\xs=[.str y]/\Q (.bl (gK z y)) H):=by
 intro pins s σ H x xs v us Q I G rs h;obtain⟨z,y,rfl,rfl,q⟩:=h;obtain⟨t,rfl⟩:=G;cases rs with
 | cons o C =>cases C;obtain⟨u,rfl⟩:=o;exact SC.endswith ⟨.bl _,H,I,rfl,q⟩
def Zu(da db:DTE):DTE:=fun v n R=>da v n fun t n1=>lStr t fun z=>db v n1 fun u n2=>lStr u fun y=>R (.bool (gK z y)) n2
theorem zpr(h:DL X a da)(h':DE X b db)(Z:attributeBase a "endswith" X.env (eval a X.env)=eval a X.env:=by rfl)
  (J:((backTo p3 (starEach [b] X.env)).all (fun x=>!x.1)&&(backToKw p3 (keywordEach [] X.env)).all (fun x=>x.1.isSome)
   && decide ([b].length+([]:List e8).length+(if ([]:List e8).isEmpty then 0 else 1)<30))=true:=by rfl) (E3:(p2.endLine == p3.line)=true:=by rfl) (o:starEach [b] X.env=[(false,eval b X.env)]:=by rfl):DE X (.Call (.Attribute a "endswith" p2) [b] [] p3) (Zu da db):=by
 obtain⟨ta,pa,h⟩:=h;obtain⟨tb,Y,h'⟩:=h';refine⟨_,Uz fk PySem.F.slot_str_endswith PySem.F.type_str_endswith zoR pa (J3 Y Qy o) Z J E3 o rfl,fun C G σ H n Q R S hd hq=>?_⟩;refine h C G σ H n _ _ S hd fun t n1 v N r e1 U q1=>?_;cases t with
 | str z =>
  rw[q1.strI];have L:=S.on e1 U;refine⟨rfl,h' C G σ N n1 _ _ L r fun u n2 w H2 I e2 h2 q2=>?_⟩;cases u with
  | str y =>rw[q2.strI];exact⟨z,y,rfl,rfl,hq _ n2 _ H2 I (e1.trans e2) h2 (.bl _)⟩
  | _=>exact I.elim
 | _=>exact r.elim
def zqr:List V->Hp->VK->Prop:=fun xs H Q=>∃z n,xs=[.str z]/\dE z=some n/\z.length<=640/\Q (.int n) H
theorem zgS:JU X (.type "int") zqr:=by intro pins s σ H xs us Q I r h;obtain⟨z,n,rfl,l,o,q⟩:=h;obtain⟨u,rfl,v⟩:=r.one;obtain⟨t,rfl⟩:=v;exact tX l o ⟨.int n,H,I.tok _,⟨_,rfl⟩,q⟩
def Yj:GC
 | [.str z],R=>z.length<=640/\∃n,dE z=some n/\R (.int n)
 | _,_=>False
theorem zkQ:GpC X zqr Yj:=by
 intro hd O H C ts Q R dom rs g l;unfold Yj at g;split at g;obtain⟨o,n,x,r⟩:=g;cases rs with
 | cons u v =>cases v;rw[u.strI];exact⟨_,n,rfl,x,o,l _ _ H r (Same.refl H) (.int _)⟩
 exact g.elim
end
section
variable{ρ:En}{n i:Nat}{d da db:DTE}{R:qN}{Q:ae->Prop}{x y z w t:Str}
instance zu6:Stp (zpv da db ρ n R) (da ρ n fun t n1=>lStr t fun sep=>db ρ n1 fun u n2=>lLst u fun ts=>∃ss:List Str,ts=ss.map bH/\oM sep ss=true/\R (.str (eV sep ss)) n2):=⟨fun h=>h⟩
instance zvc:Stp (Zu da db ρ n R) (da ρ n fun t n1=>lStr t fun z=>db ρ n1 fun u n2=>lStr u fun y=>R (.bool (gK z y)) n2):=⟨fun h=>h⟩
end
end L2
namespace Bd
open PySem L2
open Builtin Builtin.Str
def mkS(l:List Nat):Str:=⟨l.toArray⟩
theorem JW{l:List Nat}:(mkS l).cps.toList=l:=by simp[mkS]
theorem Ve{a b:List Nat}:mkS a++mkS b=mkS (a++b):=L2.Str.ext' (by rw[Q0,JW,JW,JW])
theorem Qs{l:List Nat}:(mkS l).length=l.length:=by rw[<- JV,JW]
theorem zjy:aa "*" = mkS [42]:=by decide +kernel
theorem ZI:aa "" = mkS []:=by decide +kernel
theorem s_0:aa "0" = mkS [48]:=by decide +kernel
theorem s_1:aa "1" = mkS [49]:=by decide +kernel
def figs(cs:List Nat):Prop:=∀c∈cs,c=48\/c=49
instance zte {cs:List Nat}:Decidable (figs cs):=by unfold figs;infer_instance
theorem zkX{x:Str}:gK x (aa "*")=decide (x.cps.toList.getLast?=some 42):=by
 rw[zjy];unfold gK;have l1:(mkS [42]).length=1:=rfl;rw[l1];by_cases h:x.length=0;have:x.cps.toList=[]:=dM.mp (by rw[JV];exact h);rw[this,h];rfl;have e:subAt x (mkS [42]) (x.length - 1)=decide (x.cps.toList.getLast?=some 42):=by have:=StrLaws.subAt_one x 42 (x.length - 1);rw[List.getLast?_eq_getElem?,JV];rw[eE,decide_eq_true_eq];constructor;intro z;exact this.mp ⟨by show x.length - 1+1<=x.length;lia,z⟩;intro z;exact(this.mpr z).2
 rw[e];have:decide (0+1<=x.length)=true:=decide_eq_true (by lia);rw[this,gi]
theorem zcX:∀(rest:List Str) (u:Array Nat),(rest.foldl (fun u p=>u++(mkS []).cps++p.cps) u).toList=u.toList++(rest.map (·.cps.toList)).flatten
 | [],u=>by simp
 | p::r,u=>by rw[fw,zcX r];simp[mkS]
theorem join_nil(ss:List Str):eV (aa "") ss=mkS (ss.map (·.cps.toList)).flatten:=by
 rw[ZI];refine L2.Str.ext' ?_;rw[JW];cases ss with
 | nil=>rfl
 | cons p r =>show(r.foldl (fun u p=>u++(mkS []).cps++p.cps) p.cps).toList=_;rw[zcX];simp
theorem joinOk_of{sep:Str}{ss:List Str}{k:Nat}(o:∀s∈ss,s.length<=k)(C:ss.length*(k+sep.length)<=16777216):oM sep ss=true:=by
 have key:∀(l:List Str) (a:Nat),(∀s∈l,s.length<=k)->l.foldl (fun x1 u=>x1+u.length+sep.length) a<=a+l.length*(k+sep.length):=by
  intro l;induction l with
  | nil=>intro a _;simp
  | cons x r v =>intro a h;have I:=h x (by simp);have G:=v (a+x.length+sep.length) fun s o=>h s (by simp[o]);rw[fw,aF,Nat.add_mul,nB];lia
 unfold oM tooLong;rw[eJ,decide_eq_false_iff_not];have:=key ss 0 o;have e:sizeLine=16777216:=rfl;rw[List.foldl_toArray];lia
def figL(k:Nat)(a:Int):List Nat:=(cg k).map fun j=>48+((a / 2 ^ (k - 1 - j)) % 2).toNat
theorem U8{k:Nat}{a:Int}:(figL k a).length=k:=by simp[figL]
theorem zkU{k:Nat}{a:Int}:figL (k+1) a=(48+((a / 2 ^ k) % 2).toNat)::figL k a:=by unfold figL;rw[List.range_succ_eq_map,aK,cx];congr 1;refine ie fun j l=>?_;show 48+((a / 2 ^ (k+1 - 1 - (j+1))) % 2).toNat=_;rw[show k+1 - 1 - (j+1)=k - 1 - j by lia]
theorem VH{k:Nat}{a:Int}:figs (figL k a):=fun c hc=>by
 obtain⟨j,_,rfl⟩:=aY.mp hc;have:(a / 2 ^ (k - 1 - j)) % 2=0\/(a / 2 ^ (k - 1 - j)) % 2=1:=by lia
 rcases this with h|h <;> rw[h];exact .inl rfl;exact .inr rfl
def valF(v:Int)(cs:List Nat):Int:=cs.foldl (fun(v:Int) (c:Nat)=>2*v+((c:Int) - 48)) v
theorem zmA{a p:Int}(o:0<p):a % (p*2)=p*((a / p) % 2)+a % p:=by
 have u:=k7 a p;have x:=fz a (show p≠0 by lia);have C:=fo a o;generalize a / p=q at *;generalize a % p=r at *;have l:q % 2=0\/q % 2=1:=by lia
 have e:a=p*2*(q / 2)+(p*(q % 2)+r):=by
  have v:q=2*(q / 2)+q % 2:=(k7 q 2).symm;rw[<- u];conv=>lhs;rw[v]
  rw[Int.mul_add,<- eO];lia
 rw[e,Int.add_comm,Int.add_mul_emod_self_left];rcases l with l|l <;> rw[l] <;> exact mZ (by lia) (by lia)
theorem zhU:∀(k:Nat) (v a:Int),valF v (figL k a)=v*2 ^ k+a % 2 ^ k
 | 0,v,a=>by simp[figL,valF,Int.emod_one]
 | k+1,v,a=>by
  rw[zkU];show valF (2*v+(((48+((a / 2 ^ k) % 2).toNat:Nat):Int) - 48)) (figL k a)=_;rw[zhU k];have hb:0<=(a / 2 ^ k) % 2:=fz _ (by decide);have e:(((48+((a / 2 ^ k) % 2).toNat:Nat):Int) - 48)=(a / 2 ^ k) % 2:=by lia
  rw[e,fe,zmA (Qp k),eK,dw ((a / 2 ^ k) % 2),show 2*v*2 ^ k=v*(2 ^ k*2) from by rw[dw 2 v,eO,dw 2]];lia
def blkT(bits:Int)(cs:List Nat):Option (Int×Int) :=
 if cs.getLast?=some 42 then
  if 0<bits - ((cs.length:Int) - 1)/\figs cs.dropLast then some (valF 0 cs.dropLast*2 ^ (bits - ((cs.length:Int) - 1)).toNat,bits - ((cs.length:Int) - 1)) else none
 else if (cs.length:Int)=bits/\figs cs then some (valF 0 cs,0) else none
def bkD:Option (Int×Int)->ae
 | none=>.none
 | some b=>.tuple [.int b.1,.int b.2]
def begL(bits i h:Int):List Nat:=figL (bits - h).toNat (i / 2 ^ h.toNat)++if 0<h then[42] else[]
theorem znk{bits i h:Int}(C:0<=bits)(B:IsBk bits i h):blkT bits (begL bits i h)=some (i,h):=by
 have J:0<=h:=B.1;have g1:h<=bits:=B.2.1;have bd:=B.bounds C;have pg:=Qp h.toNat;obtain⟨_,_,x,I,u,G⟩:=id B;have v:i / 2 ^ h.toNat=x:=by rw[u];exact Int.mul_ediv_cancel _ (by lia)
 have mul:i=i / 2 ^ h.toNat*2 ^ h.toNat:=by rw[v];exact u
 have lt:i / 2 ^ h.toNat<2 ^ (bits - h).toNat:=by rw[v];exact G
 have nn:0<=i / 2 ^ h.toNat:=eG bd.1 (by lia);have val:valF 0 (figL (bits - h).toNat (i / 2 ^ h.toNat))=i / 2 ^ h.toNat:=by rw[zhU,Int.zero_mul,sY,mZ nn lt]
 unfold begL blkT;by_cases z:0<h;rw[if_pos z];have l:(figL (bits - h).toNat (i / 2 ^ h.toNat)++[42]).length=(bits - h).toNat+1:=by simp[U8]
 rw[if_pos (by simp),l,List.dropLast_concat,val];have e:bits - ((((bits - h).toNat+1:Nat):Int) - 1)=h:=by lia
 rw[e,if_pos ⟨z,VH⟩,<- mul];rw[if_neg z,cq];have h0:h=0:=by lia
 subst h0;have nl:(figL (bits - 0).toNat (i / 2 ^ (0:Int).toNat)).getLast?≠some 42:=fun y=>by have:=VH 42 (List.mem_of_getLast? y);rcases this with h|h <;> cases h
 rw[if_neg nl,U8,val,if_pos ⟨by lia,VH⟩];simp
end Bd
namespace L2
open PySem PySem.Spec PyProof PyProof.Rows
section
variable{X:Cx}{es:List aO}{pos:Pos}{t:TGs}
def zuR(K:qF)(n:Nat)(t:TGs):TG:=fun v σ H Q=>∃a xs,v=.ref a/\SqL K H a xs/\xs.length=n/\t xs σ H Q
theorem zow{k n:Nat}(hc:X.calm=true)(h:PGs X es t)(R:(assignEach es X.env).length=n:=by rfl)(G:(assignEach es X.env).findIdx? (·.1)=none:=by rfl):PG X (.Tuple es k pos) (zuR X.K n t):=by
 intro pins s σ H v u Q I r hw;obtain⟨a,xs,rfl,S,U,hw⟩:=hw;cases r;obtain⟨C,J,L,Y⟩:=I.list S;have le:=J.length;rw[assign_Tuple];refine ab (dU ?_);unfold unpack;rw[R,G];have e:n=C.toArray.size:=by rw[ay];lia
 rw[e];refine ab (cE (PySem.W.kun_itemsOf (I.ok.hd hc) L.isList fun h' hx=>?_));have N:Inv X pins σ H { s with heap:=h' }:=I.kept (t':=s.toks) fun b o e=>hx b o (aN (ax e)) e;exact h pins _ σ H xs _ Q N (by simpa using J) hw
end
end L2
namespace L2
open PySem
abbrev RL:=List ((Int×Int)×Int)
end L2
namespace Bd
open PySem PySem.W PySem.Calls L2 PyProof.Rows
structure ZZ where
 P:aI
 w:aT
 K:qF
 mg:Str->Option af
 base:bt
def FQ(Z:ZZ)(x:Str)(st:cN)(ps:List Str)(k:Nat)(l:Sp):Prop:=Fq Z.P Z.w Z.K Z.mg Z.base x st ps k l
theorem okQ{Z:ZZ}{x:Str}{st:cN}{ps N:List Str}{k m:Nat}{g:GD}(D:Dq Z.K Z.mg x st ps)(S:Uq N ps (JC st))(u:m=ps.length)
  (hb:∀(f:ah) (l:af) (A:bu) (outer:List Env) (s:ak) (H:Hp) (E:XK),Room k (A.deeper (envOfC x (JC st) s.heap.objs.size f l))->∃d,DSs (cxOf CX0 Z.P Z.w Z.K Z.mg Z.base N x (JC st) f l A outer s H E).nox (J9 st) d /\
   ∀ts n R,ts.length=m->g ts n R->d { nx:=fun _ C=>R .none C,rt:=R } (J0 N ts) n):FQ Z x st ps (k+1) (spD Z.K m g):=by
 obtain⟨f,fd,D⟩:=D;exact⟨f,fd,D,D.okD S u fun l A outer s H E v=>hb f l A outer s H E v⟩
theorem bnd1{x:Str}{st:cN}{a:Str}(h:∀(kV doc pm:af) (an:Option ah) (l ct u:af),bindArgs (cP x x (QB st) (J9 st) (JC st) .none kV doc pm an l ct) ⟨[u],[]⟩=pure [(a,u)]):BndA x st [a]:=fun _ _ _ _ _ _ us v=>by obtain⟨_,rfl⟩:=len1 v;exact h ..
theorem bnd2{x:Str}{st:cN}{a b:Str}(h:∀(kV doc pm:af) (an:Option ah) (l ct u v:af),bindArgs (cP x x (QB st) (J9 st) (JC st) .none kV doc pm an l ct) ⟨[u,v],[]⟩=pure [(a,u),(b,v)]):BndA x st [a,b]:=fun _ _ _ _ _ _ us C=>by obtain⟨_,_,rfl⟩:=len2 C;exact h ..
theorem bnd3{x:Str}{st:cN}{a b c:Str}(h:∀(kV doc pm:af) (an:Option ah) (l ct u v y:af),bindArgs (cP x x (QB st) (J9 st) (JC st) .none kV doc pm an l ct) ⟨[u,v,y],[]⟩=pure [(a,u),(b,v),(c,y)]):BndA x st [a,b,c]:=fun _ _ _ _ _ _ us C=>by obtain⟨_,_,_,rfl⟩:=len3 C;exact h ..
theorem bnd4{x:Str}{st:cN}{a b c d:Str}(h:∀(kV doc pm:af) (an:Option ah) (l ct u v y z:af),bindArgs (cP x x (QB st) (J9 st) (JC st) .none kV doc pm an l ct) ⟨[u,v,y,z],[]⟩=pure [(a,u),(b,v),(c,y),(d,z)]):BndA x st [a,b,c,d]:=fun _ _ _ _ _ _ us C=>by obtain⟨_,_,_,_,rfl⟩:=len4 C;exact h ..
def Qj(h:bt):qF:=(cg h.objs.size).filterMap fun a=>(h.get? a).map fun o=>(a,o)
theorem zkg{h:bt}:∀{x:List ah}{a:ah},a∈x->(x.filterMap fun a=>(h.get? a).map fun o=>(a,o)).lookup a=h.get? a\/h.get? a=none
 | [],_,m=>nomatch m
 | b::x,a,m=>by
  by_cases e:a=b;subst e;cases g:h.get? a with
  | none=>exact .inr rfl
  | some o=>exact .inl (by rw[cS];simp[g,cK])
  have C:a∈x:=(aq.mp m).resolve_left e;rcases zkg (h:=h) C with z|z;refine .inl ?_;rw[cS];cases g:h.get? b with
  | none=>exact z
  | some o =>
   have:(a == b)=false:=by simpa using e
   simp only[hY];rw[cK,this];exact z
  exact .inr z
theorem zcJ{h:bt}{a:ah}{o:Obj}(e:h.get? a=some o):(Qj h).lookup a=some o:=by have m:a∈cg h.objs.size:=dz.mpr (ax e);rcases zkg (h:=h) m with z|z;exact z.trans e;rw[e]at z;cases z
theorem zjf{h:bt}:(Qj h).In h:=fun a o e=>by
 have key:∀(v:List ah),(v.filterMap fun a=>(h.get? a).map fun o=>(a,o)).lookup a=some o->h.get? a=some o:=by
  intro v;induction v with
  | nil=>intro z;cases z
  | cons b v x =>
   intro z;rw[cS]at z;cases g:h.get? b with
   | none=>rw[g]at z;exact x z
   | some C =>
    rw[g]at z;simp only[hY,cK]at z;cases q:a == b with
    | true=>rw[q]at z;cases z;rw[eq_of_beq q];exact g
    | false=>rw[q]at z;exact x z
 exact key _ e
def ZQ:cN->Bool
 | .FunctionDef ..=>true
 | _=>false
def defName:cN->Str
 | .FunctionDef n _ _ _ _ _ _ _ _ _=>n
 | _=>aa ""
def zsk:cN->Pos
 | .FunctionDef _ _ _ _ _ _ _ _ _ p=>p
 | _=>⟨0,0,0,0⟩
def recD(st:cN):DefRec:=⟨defName st,QB st,J9 st,JC st,zsk st⟩
theorem getD_mem{l:List cN}{i:Nat}(h:ZQ (l.getD i (.Pass ⟨0,0,0,0⟩))=true):l.getD i (.Pass ⟨0,0,0,0⟩)∈l:=by
 rw[bg]at h ⊢;cases e:l[i]? with
 | none=>rw[e]at h;cases h
 | some s=>exact aX e
section
variable{q:aI}{loose:List Str}{HA:oa->Option af}{mg mb:qM}{h:bt}{x:Str}{st:cN}{ps:List Str}
theorem zlm{cd:af}{n:Str}(c:h.CodeRec cd n):gz (Qj h) cd n=true:=by
 obtain⟨a,o,l,t,rfl,g,d,e⟩:=c;unfold gz;dsimp only;rw[zcJ g];obtain⟨C,v,u,sl⟩:=o;cases(show u=_ from d);have l2:l.toList[1]?=some (.str n t):=by simpa using e
 dsimp only;match hv:l.toList,l2 with
 | [],l2=>simp at l2
 | [_],l2=>simp at l2
 | a::b::r,l2 =>
  have:b=.str n t:=by simpa using l2
  subst this;simp
theorem dq_g(T:Top q loose HA mg mb h)(hd:recD st∈recsOf q)(I:defName st=x)(hb:BndA x st ps):Dq (Qj h) mg x st ps:=by
 obtain⟨a,o,pm,cd,doc,G,N,C,v⟩:=T.fn _ hd;have G:mg (defName st)=some (.ref a):=G;have v:h.CodeRec cd (defName st):=v;rw[I]at G v;obtain⟨R,J,L,sl⟩:=o;have C:L=.func (docDef (defName st) (QB st) (J9 st) (JC st) pm cd doc):=C;rw[I]at C;have l:(Qj h).lookup a=some ⟨R,J,.func (cP x x (QB st) (J9 st) (JC st) .none .none doc pm none cd .none),sl⟩:=by rw[zcJ N,C];rfl
 have kp:gy (Qj h) (.ref a)=true:=by unfold gy;dsimp only;rw[l]
 exact⟨a,_,znV l (zlm v) kp,(znV l (zlm v) kp).binds hb,G⟩
end
theorem ztf{lw:PySem.W.OpenLaw}{q:aI}{loose:List Str}{S:(Str->Option af)->bt->Prop}{YP:aT->bt->Prop}{d:DefRec}{k:Nat}(hk:k<=60)(hn:lw.most=some 63)(J:d.params.defaults=[])
  (F:∀(w:aT) (s₀:ak) (mg L:qM) (C:ah) (h:bt),Ground q loose [] S w s₀ mg L h->mg d.name=some (.ref C) ->
   ∃fd:cJ,(∀(s:ak) (u:af),n0 s fd ⟨[u],[]⟩ [("_law_script",u)])/\∀base:bt,(Qj h).In base->base.Ns mainGlobals mg->FnOk lw.prog w (Qj h) mg base CX0 k C fd ["_law_script"] (zoa (Qj h))) :
  PySem.W.WalkO q loose S YP lw.row.toRowW d [] (fun f R=>wc f R):=by
 refine Att.attach_call hn J fun w s₀ U mg L C o pm cd doc a R ns G Y ho hd hcd N x v l hg=>?_;obtain⟨fd,hb,Z⟩:=F w s₀ mg L C _ G N;exact zmL zjf G.T.g G.T.b G.T.builtins G.T.nolimit hg x v (aH l (by decide)) ((show Room 60 callerA from⟨rfl,by decide,by decide,rfl⟩).mono hk) Z hb (fun H hO hS=>⟨a,ns,rfl,hS,l,fun _=>rfl⟩) fun H e s' z=>z
end Bd
namespace L2
open PySem PySem.Spec PyProof PyProof.Rows
abbrev BL:=List (Int×Int)
abbrev PR:=List ((Int×Int)×(Int×Int))
abbrev upH(b:Int×Int):Int×Int:=(eR b.1 (2 ^ (b.2 - 1).toNat),b.2 - 1)
abbrev loH(b:Int×Int):Int×Int:=(b.1,b.2 - 1)
abbrev NP:=(Int×Int)×Str
end L2
namespace Bd
open PySem L2
theorem zph{Z:ZZ}{x:Str}{st:cN}{ps:List Str}{k m:Nat}{g:GD}(D:Dq Z.K Z.mg x st ps)(h:∀ts n R,g ts n R->False):FQ Z x st ps k (spD Z.K m g):=by
 obtain⟨f,fd,D⟩:=D;have no:∀o H Q E,spD Z.K m g o H Q E->False:=fun o H Q E z=>by obtain⟨hd,O,ts,n,R,_,_,_,_,_,z,_⟩:=z;exact h ts n R z
 exact⟨f,fd,D,⟨fun o H Q E z=>(no o H Q E z).elim,fun A outer s H args us o Q E _ _ _ _ z=>(no o H Q E z).elim⟩⟩
end Bd
namespace L2
open PySem PySem.Spec PyProof.Rows
def ndup:List Str->Bool
 | []=>true
 | x::l=>!l.any (fun y=>decide (x=y))&&ndup l
theorem ndB{l:List Str}(h:ndup l=true):l.Nodup:=by
 induction l with
 | nil=>exact .nil
 | cons x l o =>simp only[ndup,aZ,eJ,iW,decide_eq_true_eq]at h;exact fq.mpr ⟨fun m=>h.1 x m rfl,o h.2⟩
def fnB(N P:List Str)(sc:eP):Bool:=(match sc.kind with|.function=>true|_=>false)&&!sc.isCoroutine&&!sc.isGenerator&&ndup N&&decide (N.take P.length=P)&&P.all (fun x=>decide (sc.names.lookup x=some .local\/sc.names.lookup x=some .cell))&&sc.names.all fun y=>decide (y.2≠.free)
theorem fnS{N P:List Str}{sc:eP}(h:fnB N P sc=true):Uq N P sc:=by simp only[fnB,aZ,eJ,decide_eq_true_eq,bw]at h;obtain⟨⟨⟨⟨⟨⟨a,b⟩,c⟩,d⟩,e⟩,f⟩,g⟩:=h;exact⟨(by cases q:sc.kind <;> rw[q]at a <;> first|rfl|(exact nomatch a)),b,c,ndB d,e,f,g⟩
section
variable{X:Cx}{x:Str}{e:aO}{es:List aO}{d:DTE}{ds:DTA}{pos pos':Pos}
theorem dlv(i:Nat)(u:X.N[i]?=some x:=by rfl)(o:Vis X.env.scope x:=by walk_at "V")(hd:Ndb x:=by rfl)
  (l:Ncd x:=by rfl):DL X (.Name x pos) (dVar i):=dl (Jk i u o hd l)
theorem dli{i j}:DL X (.Constant (.int i) j pos) (dC (.int i)):=dl Ji
theorem dbc(h:DE X e d)(l:DB X es ds)(o:starEach (e::es) X.env=(false,eval e X.env)::starEach es X.env:=by rfl):DB X (e::es) (JG d ds):=zle h l o
theorem dbv(i:Nat)(o:DB X es ds)(v:X.N[i]?=some x:=by rfl)(u:Vis X.env.scope x:=by walk_at "V")(hd:Ndb x:=by rfl)
  (l:Ncd x:=by rfl):DB X (.Name x pos::es) (JG (dVar i) ds):=zle (Jk i v u hd l) o rfl
theorem dsv(i:Nat)(o:X.N.Nodup)(h:DE X e d)(hi:X.N[i]?=some x:=by rfl)(hx:Loc X.env.scope x:=by first|exact dP rfl|exact Or.inr rfl)(l:swapsWith e (some (.Name x pos')) pos.line X.env=pure false:=by rfl)
  (hf:Fnl X x:=by walk_at "F"):DS X (.Assign [.Name x pos'] e pos) (sSet i d):=zsi o hi hx h l hf
theorem dgv(i:Nat)(l:X.N.Nodup)(hi:X.N[i]?=some x:=by rfl)(hx:Loc X.env.scope x:=by first|exact dP rfl|exact Or.inr rfl)(hf:Fnl X x:=by walk_at "F"):DG X (.Name x pos) [i] (Jv i):=zpn l hi hx hf
end
section
variable{X:Cx}{scope:eP}{iter elt:aO}{ifs:List aO}{tg:aO}{pos:Pos}{is:List Nat}{di:DTA}{g:DTG}{tt:DTT}{te:DTE}
theorem dnc(own:List Str)(capt:List Nat)(hi:DIL X tg iter di)(x:Fam X scope own capt fun Y=>DG Y tg is g)(v:Fam X scope own capt fun Y=>DE Y elt te)
  (hc:X.calm=true:=by rfl) (h:VE scope X.env.scope X.N capt=true:=by rfl) (l:∀i∈is,i<own.length:=by decide) (u:Fsi X iter:=by intro _;rfl):DN X (.ListComp elt [⟨tg,iter,[],0⟩] scope pos) (dComp own.length capt di g dYes te) :=
 zk3 hc (JD.of h) hi x l (fun _ _ _ _=>Va) v u
theorem dnf(own:List Str)(capt:List Nat)(hi:DIL X tg iter di)(G:Fam X scope own capt fun Y=>DG Y tg is g)(v:Fam X scope own capt fun Y=>DTs Y ifs tt)(x:Fam X scope own capt fun Y=>DE Y elt te)
  (hc:X.calm=true:=by rfl) (h:VE scope X.env.scope X.N capt=true:=by rfl) (l:∀i∈is,i<own.length:=by decide) (u:Fsi X iter:=by intro _;rfl):DN X (.ListComp elt [⟨tg,iter,ifs,0⟩] scope pos) (dComp own.length capt di g tt te) :=
 zk3 hc (JD.of h) hi G l v x u
end
end L2
namespace Bd
open PySem PySem.W PySem.Calls L2 PyProof.Rows
theorem okN{Z:ZZ}{x:Str}{st:cN}{ps:List Str}{k m:Nat}{g:GD}(N:List Str)(D:Dq Z.K Z.mg x st ps)
  (hb:∀{f:ah} {l:af} {A:bu} {outer:List Env} {s:ak} {H:Hp} {E:XK},Room k (A.deeper (envOfC x (JC st) s.heap.objs.size f l))->∃d,DSs (cxOf CX0 Z.P Z.w Z.K Z.mg Z.base N x (JC st) f l A outer s H E).nox (J9 st) d /\
   ∀ts n R,ts.length=m->g ts n R->d { nx:=fun _ C=>R .none C,rt:=R } (J0 N ts) n) (S:fnB N ps (JC st)=true:=by decide +kernel) (u:m=ps.length:=by rfl):FQ Z x st ps (k+1) (spD Z.K m g):=okQ D (fnS S) u fun _ _ _ _ _ _ _ v=>hb v
end Bd
namespace Bd
open PySem PySem.W PySem.Calls L2 PyProof.Rows
abbrev PLs:=List (Str×List (Str×List Str))
abbrev FLs:=List (Str×List Str)
end Bd
namespace L2
open PySem PySem.Spec PyProof.Rows
theorem zhG{X:Cx}{st:cN}:DS X st (fun _ _ _=>False):=⟨_,zmg,fun _ _ _ _ _ _ _ _ h _=>h.elim⟩
end L2
namespace Bd
open PySem PySem.W PySem.Calls L2 PyProof.Rows
def Y9(o:String->Option iq)(p:aI)(w:aT)(l:Nat)(ann:Option af):Nat->tj->Thread->Option tj
 | 0,_,_=>none
 | n+1,s,t=>match through t with
  | true=>some s
  | false=>match stepOk l ann t with
   | false=>none
   | true=>match stepT (denote o) p w s t with
    | some (s',t')=>Y9 o p w l ann n s' t'
    | none=>none
theorem zex{o:String->Option iq}{p:aI}{w:aT}{l:Nat}{ann:Option af}:∀{n:Nat}{s s':tj}{t:Thread},Y9 o p w l ann n s t=some s'->topRun o p w l ann n s.abs t=some s'.abs
 | 0,_,_,_,h=>by cases h
 | n+1,s,s',t,h=>by
  unfold Y9 at h;unfold topRun;cases he:through t with
  | true=>rw[he]at h;cases h;rfl
  | false =>
   rw[he]at h;cases hk:stepOk l ann t with
   | false=>rw[hk]at h;cases h
   | true =>
    rw[hk]at h;cases hs:stepT (denote o) p w s t with
    | none=>rw[hs]at h;cases h
    | some r=>obtain⟨u,v⟩:=r;rw[hs]at h;dsimp only at h ⊢;rw[stepT_spec hs];exact zex h
def znO:List Obj->Nat->BT->BT
 | [],_,t=>t
 | o::r,i,t=>znO r (i+1) (t.ins i o)
noncomputable def zpD (P:oz):BT:=znO (dq P).objs.toList 0 .nil
noncomputable def zpE (w:aT) (os:cM):tj:=⟨zpD w.params,11,(dq w.params).life,#[],kP,lL,os⟩
theorem boot_abs(P:oz):absHeap (zpD P) 11 (dq P).life=dq P:=by kernel_rfl
theorem zlr(P:oz):(dq P).objs.size=11:=by kernel_rfl
theorem zpC(P:oz):(dq P).isNs mainGlobals=true:=by kernel_rfl
def ZG(p:aI)(h₀:bt)(l:ak):Bool:=staticsOk (importedModules p.main.body) h₀ l.heap&&namesBound p l.heap&&gensDone l&&laidKept h₀ l.heap
theorem zki{p q:aI}{loose:List Str}{u:ak->Bool}{α:Type}{o:ak->α}{x:aT->α}{N:Nat}(e:opening p=plainProg p.main.scope.names)(G:Nat.ble 600 N=true)(J:∀s,fenceModules? p s=some s)
  (run:∀(w:aT) (os:cM),(Y9 treeTable p w 11 ((dq w.params).nsMap mainGlobals "__annotations__") N (zpE w os) (topStub p)).map (fun s=>(ZG p (dq w.params) s.abs,openSeen q loose (importedModules p.main.body) u true s.abs,o s.abs))=some (true,openGood q loose,x w)) :
  LeftO p q loose u o x N true:=fun w=>by
 obtain⟨⟨h,I,d,k,os⟩,e1,e2⟩:=kQ.mp (boot_open e G J w);obtain⟨rfl,rfl,rfl,rfl⟩:h=dq w.params/\I=#[]/\d=kP/\k=lL:=by simpa using e2
 obtain⟨v,r,l⟩:=kQ.mp (run w os);have L:(zpE w os).abs=⟨dq w.params,#[],kP,lL,os⟩:=by show(⟨absHeap (zpD w.params) 11 (dq w.params).life,#[],kP,lL,os⟩:ak)=_;rw[boot_abs]
 have r:=zex r;rw[L]at r;obtain⟨l1,l2⟩:=uT l;obtain⟨l2,C⟩:=uT l2;have t:topFrom treeTable p w N ⟨dq w.params,#[],kP,lL,os⟩=some v.abs:=by unfold topFrom;dsimp only;rw[zpC,zlr,r];show(match ZG p (dq w.params) v.abs with|true=>_|false=>_)=_;rw[l1]
 unfold openEnds;rw[e1];show(topFrom treeTable p w N _).map _=_;rw[t];exact congrArg some (uv l2 C)
theorem zq9{α T1 T2 T3 T4 T5 T6 T7 T8 T9 G I:Type}{o:Option α}{f1:α->T1}{f2:α->T2}{L:α->T3}{f4:α->T4}{S:α->T5}{J:α->T6}{R:α->T7}{f8:α->T8}{N:α->T9}{u:α->G}{l:α->I}{U:T1}{Z:T2}{v3:T3}{v4:T4}{v5:T5}{v6:T6}{v7:T7}{Y:T8}{v9:T9}{v:G}{C:I}
  (ha:o.map (fun s=>(f1 s,l s,L s,f8 s,u s,J s))=some (U,C,v3,Y,v,v6)) (hb:o.map f2=some Z) (hc:o.map f4=some v4) (hd:o.map S=some v5) (he:o.map R=some v7) (hf:o.map N=some v9) :
  o.map (fun s=>(f1 s,(f2 s,L s,f4 s,S s,J s,R s,f8 s,N s,u s),l s))=some (U,(Z,v3,v4,v5,v6,v7,Y,v9,v),C):=by
 cases o with
 | none=>cases hc
 | some x =>have a:(f1 x,l x,L x,f8 x,u x,J x)=(U,C,v3,Y,v,v6):=aQ ha;have b:f2 x=Z:=aQ hb;have e:R x=v7:=aQ he;have f:N x=v9:=aQ hf;have c:f4 x=v4:=aQ hc;have d:S x=v5:=aQ hd;simp only[l9]at a;show some (f1 x,(f2 x,L x,f4 x,S x,J x,R x,f8 x,N x,u x),l x)=_;rw[a.1,a.2.1,a.2.2.1,a.2.2.2.1,a.2.2.2.2.1,a.2.2.2.2.2,b,c,d,e,f]
theorem zjE{w:aT}{P:aT->Prop}(row:String)(h0:∀w:aT,P (w.withFollow row false))(l:∀w:aT,P (w.withFollow row true)):P w:=by have e:=World.withFollow_self w row;cases hb:w.params.followText row <;> rw[hb]at e;rw[<- e];exact h0 w;rw[<- e];exact l w
end Bd
namespace L2
open PySem PySem.Spec PyProof.Rows
abbrev GX:=List ae->Nat->(ae->Nat->Prop)->(Str->Nat->Prop)->Prop
theorem isiF{f:ae->Bool}{b:Bool}{t:ae}{R:ae->Prop}(p:Pln t)(e:f t=b)(h:R (.bool b)):lIsi f t R:=⟨p,e▸h⟩
theorem zmY{d:ae}(h:isTup d=true):∃ts,d=.tuple ts:=by
 cases d with
 | tuple ts=>exact⟨ts,rfl⟩
 | _=>cases h
theorem zt9{us:qD}(h:us.length=2):∃a b,us=[a,b]:=by
 cases us with
 | nil=>cases h
 | cons a t =>obtain⟨b,e⟩:=List.length_eq_one_iff.mp (sW h);exact⟨a,b,e▸rfl⟩
end L2
namespace L2
open PySem PySem.Spec PyProof PyProof.Rows
section
variable{prog:aI}{w:aT}{A:bu}{E:qV}{s:ak}
abbrev FB:=Int×(Int×Int)
end
end L2
namespace L2
open PySem PySem.Spec PyProof.Rows
section
variable{X:Cx}{c e:aO}{d:DTE}{dt:DTT}{u:DTS}{sa:List cN}{pos:Pos}{x:Str}
theorem QZ{l:En}{i j:Nat}{c:Cell}(h:(l.set i none)[j]?=some (some c)):j≠i/\l[j]?=some (some c):=by by_cases e:j=i;subst e;rw[fF]at h;split at h;split at h <;> cases h;rename_i z;exact absurd rfl z;rw[bQ (ip e)]at h;exact⟨e,h⟩
end
end L2
namespace L2
open PySem PySem.Spec PySem.W PyProof.Rows
def zoZ:ae->Bool|.list _=>true|_=>false
theorem zoV(y:String)(h:y∈["NoneType","bool","int","str","list","tuple","dict"]):kitB y "list" = some (decide (y = "list")):=by simp only[aq,av,or_false]at h;rcases h with rfl|rfl|rfl|rfl|rfl|rfl|rfl <;> decide +kernel
theorem zkN:∀t y,tyN t=some y->kitB y "list" = some (zoZ t):=fun t y e=>by rw[zoV y (Za e)];unfold tyN at e;split at e <;> cases e <;> rfl
theorem zeW:bootBuiltins "list" = some (.type "list"):=by decide +kernel
instance zog {i:Int}{R:ae->Prop}:Stp (lIsi zoZ (.int i) R) (R (.bool false)):=⟨fun h=>⟨Q1,h⟩⟩
section
variable{X:Cx}{e:aO}{d:DTE}{p p2 p3 p4 pos:Pos}
def isIS:ae->Option Bool|.int _=>some true|.str _=>some false|_=>none
theorem zi_:JU X (.builtin "isinstance") (fun xs H Q=>∃(v:V) (b:Bool) (p:ah),xs=[v,.ref p]/\((∃i,v=.int i/\b=true)\/∃s,v=.str s/\b=false)/\H p=some (.tup [.ty "bool",.ty "int"])/\Q (.bl b) H):=by
 intro pins s σ H xs us Q I r h;obtain⟨v,b,p,rfl,S,Z,q⟩:=h;cases r with
 | cons J r2 =>
  cases r2 with
  | cons R r4 =>
   cases r4;cases R;obtain⟨_,Y,o,⟨oc,od,dt,sl⟩,G,hc,⟨n,hd⟩,C⟩:=I.hok p _ Z;cases o with
   | cons N o =>
    cases o with
    | cons U o =>
     cases o;cases N;cases U;dsimp only at hc hd C;subst hc hd C;have L:∀(y:String) (t:ae) (e:tyN t=some y),kitAny X.K (.type y) [.type "bool",.type "int"]=some (isBool t||isInt t):=fun y t e=>by have e1:=(Uo X.K y "bool").trans (Vc t y e);have e2:=(Uo X.K y "int").trans (zkO t y e);unfold kitAny;rw[e1];cases isBool t;dsimp only;unfold kitAny;rw[e2];cases isInt t <;> rfl;rfl
     rcases S with⟨i,rfl,rfl⟩|⟨z,rfl,rfl⟩;obtain⟨x,rfl⟩:=J;exact kia_tup kitx_int I.kIn gP G (L "int" (.int 0) rfl) (fun z=>by cases z) fun x=>⟨.bl true,H,I.tok x,rfl,q⟩;obtain⟨x,rfl⟩:=J;exact kia_tup kitx_str I.kIn gP G (L "str" (.str (aa "")) rfl) (fun z=>by cases z) fun x=>⟨.bl false,H,I.tok x,rfl,q⟩
def ZB(t:ae)(R:ae->Prop):Prop:=∃b,isIS t=some b/\R (.bool b)
instance zsD {i:Int}{R:ae->Prop}:Stp (ZB (.int i) R) (R (.bool true)):=⟨fun h=>⟨_,rfl,h⟩⟩
instance zsC {s:Str}{R:ae->Prop}:Stp (ZB (.str s) R) (R (.bool false)):=⟨fun h=>⟨_,rfl,h⟩⟩
def zsr(d:DTE):DTE:=fun l n R=>d l n fun t n1=>ZB t fun z=>R z n1
instance zu_ {ρ:En}{n:Nat}{R:qN}:Stp (zsr d ρ n R) (d ρ n fun t n1=>ZB t fun z=>R z n1):=⟨fun h=>h⟩
theorem zpp(hm:X.mg "isinstance" = none) (Z:X.mg "bool" = none) (h2:X.mg "int" = none) (h:DE X e d) {k:_} (hs:starEach (e::[.Tuple [.Name "bool" p2,.Name "int" p3] k p4]) X.env=(false,eval e X.env)::starEach [.Tuple [.Name "bool" p2,.Name "int" p3] k p4] X.env)
  (J:starEach [.Tuple [.Name "bool" p2,.Name "int" p3] k p4] X.env=[(false,eval (.Tuple [.Name "bool" p2,.Name "int" p3] k p4) X.env)]:=by rfl) (x:starEach [.Name "bool" p2,.Name "int" p3] X.env=(false,eval (.Name "bool" p2) X.env)::starEach [.Name "int" p3] X.env:=by rfl) (G:starEach [.Name "int" p3] X.env=[(false,eval (.Name "int" p3) X.env)]:=by rfl)
  (hg:Gl X "isinstance":=by rfl) (Y:Gl X "bool":=by rfl) (U:Gl X "int":=by rfl) :
  DE X (.Call (.Name "isinstance" p) [e,.Tuple [.Name "bool" p2,.Name "int" p3] k p4] [] pos) (zsr d):=by
 obtain⟨ta,pa,h⟩:=h;refine⟨_,YH zi_ hm ziD (JX pa (JX (znH (J3 (Bd.zox Z Vz Y) (J3 (Bd.zox h2 boot_int U) Qy G) x)) Qo J) hs) hg,fun C ρ σ H n Q R S hd hq=>?_⟩;refine h C ρ σ H n _ _ S hd fun t n1 v H1 I e1 Z q1=>?_;obtain⟨b,L,I⟩:=I;refine⟨by show 2<=sizeLine;rw[lj];decide,fun q o=>?_⟩;refine⟨v,b,q,rfl,?_,JA,hq _ n1 _ _ I (e1.trans (ExtE.new o)) (Z.same (JP o)) (.bl _)⟩;cases t <;> first|(cases L;done)|skip
 cases L;exact .inl ⟨_,q1.intI,rfl⟩;cases L;exact .inr ⟨_,q1.strI,rfl⟩
instance zof {s:Str}{R:ae->Prop}:Stp (lIsi zoZ (.str s) R) (R (.bool false)):=⟨fun h=>⟨Ug,h⟩⟩
end
end L2
namespace L2
open PySem PySem.Spec PyProof PyProof.Rows
def lFmt:ae->(Str->Prop)->Prop
 | .str s,Q=>s.length<=1000000/\Q s
 | .int i,Q=>i.natAbs.log2<1920/\Q (toString i)
 | _,_=>False
def vFmt:V->(Str->Prop)->Prop
 | .str s,Q=>s.length<=1000000/\Q s
 | .int i,Q=>i.natAbs.log2<1920/\Q (toString i)
 | _,_=>False
def dFmt(d:DTE):DTE:=fun l n R=>d l n fun t n1=>lFmt t fun s=>R (.str s) n1
section
variable{X:Cx}{e a b:aO}{es:List aO}{d:DTE}{te:TE}{pos:Pos}
theorem zqI(h:PE X e te):PE X (.FormattedValue e (-1) none pos) fun σ H Q=>te σ H fun v C=>vFmt v fun s=>Q (.str s) C:=by
 intro pins s σ H Q I z;refine wpAny_FormattedValue_plain (cH (h _ _ _ _ _ I z) (fun u s1 ⟨v,C,G,J,q⟩=>?_) fun _ _ x=>x);cases v with
 | str y =>obtain⟨t,rfl⟩:=J;exact wpAny_formatField_str ⟨.str y,C,G,⟨_,rfl⟩,q.2⟩ ⟨.str y,C,G.tok _,⟨_,rfl⟩,q.2⟩ (aH q.1 (by decide))
 | int i =>obtain⟨t,rfl⟩:=J;exact wpAny_formatField_int q.1 ⟨.str (toString i),C,G.tok _,⟨_,rfl⟩,q.2⟩
 | _=>exact q.elim
theorem ZN(h:DE X e d):DE X (.FormattedValue e (-1) none pos) (dFmt d):=by obtain⟨te,p,h⟩:=h;refine⟨_,zqI p,fun C I σ H n Q R S hd G=>h C I σ H n _ _ S hd fun t n1 v J r e1 x q1=>?_⟩;unfold lFmt at r;split at r;rw[q1.strI];exact⟨r.1,G _ _ _ _ r.2 e1 x (.str _)⟩;rw[q1.intI];exact⟨r.1,G _ _ _ _ r.2 e1 x (.str _)⟩;exact r.elim
abbrev TJ:=Str->St->Hp->(Str->Hp->Prop)->Prop
abbrev DTJ:=Str->En->Nat->(Str->Nat->Prop)->Prop
def PJ(X:Cx)(es:List aO)(t:TJ):Prop:=∀(pins:qO) (s:ak) (σ:St) (H:Hp) (l:Str) (P:Str->Hp->Prop) (Q:Str->ak->Prop),Inv X pins σ H s->t l σ H P->(∀out o s',Inv X pins σ o s'->P out o->Q out s')->Joins (model X.prog X.w) X.A X.xe (evalEach es X.env) l Q s
def DJ(X:Cx)(es:List aO)(d:DTJ):Prop:=∃t,PJ X es t/\∀(C:Ctx) (v:En) (σ:St) (H:Hp) (n:Nat) (l:Str) (Q:Str->Hp->Prop) (R:Str->Nat->Prop),Stt X.K C v σ H n->d l v n R ->
 (∀out u o,R out u->ExtE C.hd H o->Hn X.K C.hd o u->Q out o)->t l σ H Q
def zpk:DTJ:=fun l _ n R=>R l n
def UE(d:DTE)(ds:DTJ):DTJ:=fun o u n R=>d u n fun t n1=>lStr t fun y=>(o++y).length<=1000000/\ds (o++y) u n1 R
theorem znY:DJ X [] zpk:=⟨fun l _ H P=>P l H,fun _ _ _ H l _ _ I h k=>k l H _ I h,fun _ _ _ H n l _ _ S h o=>o l n H h ExtE.refl S.hnd⟩
theorem UL{ds:DTJ}(h:DE X e d)(J:DJ X es ds):DJ X (e::es) (UE d ds):=by
 obtain⟨te,p,h⟩:=h;obtain⟨ts,ps,J⟩:=J;refine⟨fun o σ H P=>te σ H fun v G=>∃y,v=.str y/\(o++y).length<=1000000/\ts (o++y) σ G P,fun pins s σ H o P Q I z k=>?_,fun C L σ H n o Q R S hd Z=>?_⟩;refine cH (p _ _ _ _ _ I z) (fun u s1 ⟨v,G,U,N,y,ev,l,q⟩=>?_) fun _ _ x=>x;subst ev;obtain⟨t,rfl⟩:=N;exact⟨y,t,rfl,aH l (by decide),ps _ _ _ _ _ _ _ U q k⟩;refine h C L σ H n _ _ S hd fun t n1 v G r e1 Y q1=>?_;cases t with
 | str y =>rw[q1.strI];exact⟨y,rfl,r.1,J C L σ G n1 _ _ _ (S.on e1 Y) r.2 fun out n' H' r2 e2 h2=>Z out n' H' r2 (e1.trans e2) h2⟩
 | _=>exact r.elim
def zpw(d:DTJ):DTE:=fun o n R=>d (aa "") o n fun out l=>out.length<=1000000/\R (.str out) l
theorem zld{ds:DTJ}(h:DJ X (a::b::es) ds):DE X (.JoinedStr (a::b::es) pos) (zpw ds):=by obtain⟨ts,ps,h⟩:=h;refine⟨fun σ H Q=>ts (aa "") σ H fun out l=>out.length<=1000000/\Q (.str out) l,fun pins s σ H Q I z=>?_,fun C G σ H n Q R S hd x=>?_⟩;exact wpAny_JoinedStr (ps _ _ _ _ _ _ _ I z fun out l s' v q=>⟨aH q.1 (by decide),.str out,l,v.tok _,⟨_,rfl⟩,q.2⟩);exact h C G σ H n _ _ _ S hd fun out L l r e1 u=>⟨r.1,x _ _ _ _ r.2 e1 u (.str _)⟩
instance zvj {ρ:En}{n:Nat}{R:qN}:Stp (dFmt d ρ n R) (d ρ n fun t n1=>lFmt t fun s=>R (.str s) n1):=⟨fun h=>h⟩
instance ztp {i:Int}{Q:Str->Prop}:Stp (lFmt (.int i) Q) (i.natAbs.log2<1920/\Q (toString i)):=⟨fun h=>h⟩
instance zto {s:Str}{Q:Str->Prop}:Stp (lFmt (.str s) Q) (s.length<=1000000/\Q s):=⟨fun h=>h⟩
instance zvb {ds:DTJ}{ρ:En}{n:Nat}{R:qN}:Stp (zpw ds ρ n R) (ds (aa "") ρ n fun out n'=>out.length<=1000000/\R (.str out) n'):=⟨fun h=>h⟩
instance ztW {acc:Str}{ρ:En}{n:Nat}{R:Str->Nat->Prop}:Stp (zpk acc ρ n R) (R acc n):=⟨fun h=>h⟩
instance ztc {ds:DTJ}{acc:Str}{ρ:En}{n:Nat}{R:Str->Nat->Prop}:Stp (UE d ds acc ρ n R) (d ρ n fun t n1=>lStr t fun y=>(acc++y).length<=1000000/\ds (acc++y) ρ n1 R):=⟨fun h=>h⟩
end
open Builtin Builtin.Str
theorem zg3:∀{l:List (Str×Tok)},Vals ((l.map (·.1)).map V.str) (strValues l)
 | []=>.nil
 | (x,t)::l=>.cons ⟨t,rfl⟩ zg3
def zqq:V->List V->Hp->VK->Prop:=fun x xs H Q=>∃z y,x=.str z/\xs=[.str y]/\(y.length == 0)=false/\z.length<=1000000/\(cT z y).length<=100000/\∀p,H p=none->Q (.ref p) (upd H p (.lst ((cT z y).map V.str)))
section
variable{X:Cx}{a b e:aO}{d da db:DTE}{pos p2 p3:Pos}
theorem zmz:MtR X "str.split" zqq:=by
 intro pins s σ H x xs v us Q I R rs h;obtain⟨x,y,rfl,rfl,J,hx,G,q⟩:=h;obtain⟨t,rfl⟩:=R;cases rs with
 | cons L N =>
  cases N;obtain⟨u,rfl⟩:=L;have hsz:x.length<=sizeLine:=aH hx (by decide);have go:∀(l:List (Str×Tok)) (k:Nat),l.map (·.1)=cT x y->EP X pins σ Q (.ref s.heap.objs.size) { s with toks:=k,heap:=s.heap.push { cls:=.type "list",data:=.seq (strValues l).toArray } }:=fun l k e=>by refine⟨.ref s.heap.objs.size,_,I.laid (t':=k) (o:=.lst ((cT x y).map V.str)) (fun b o e=>ai _ e) (aw _) ?_,rfl,q _ (I.hok.fresh (aw _))⟩;refine⟨by rw[aJ];exact aH G (by decide),strValues l,_,?_,aB _ rfl⟩;rw[<- e];exact zg3
  have C:cT x y=if (decide (x.length<y.length)||decide (strKind x<strKind y))=true then[x] else if (occurrences x y 0 x.length (x.length+1)).isEmpty=true then[x] else partsBetween x (occurrences x y 0 x.length (x.length+1)) y.length:=rfl
  cases h1:(decide (x.length<y.length)||decide (strKind x<strKind y));rw[h1,if_neg (by decide)]at C;cases hf:(occurrences x y 0 x.length (x.length+1)).isEmpty;rw[hf,if_neg (by decide)]at C;rw[C]at G;refine iK kE (gQ _ _ _) iZ (iS _ _) (meets_str_split_sep x y t u h1 J hf hsz (aH G (by decide))) ?_;rw[strsFrom_eq];exact go _ _ ((numbered_texts _ _).trans C.symm);rw[hf,if_pos rfl]at C;exact iK kE (gQ _ _ _) iZ (iS _ _) (meets_str_split_not_found x y t u h1 J hf) (go [(x,t)] s.toks C.symm);rw[h1,if_pos rfl]at C;exact iK kE (gQ _ _ _) iZ (iS _ _) (meets_str_split_cannot_occur x y t u h1) (go [(x,t)] s.toks C.symm)
def QA(z y:Str):List Str:=match occurrences z y 0 z.length 1 with
 | i::_=>[strSub z 0 i,y,strSub z (i+y.length) z.length]
 | []=>[z,fB,fB]
def ztZ:V->List V->Hp->VK->Prop:=fun x xs H Q=>∃z y,x=.str z/\xs=[.str y]/\(y.length == 0)=false/\z.length<=1000000/\∀p,H p=none->Q (.ref p) (upd H p (.tup ((QA z y).map V.str)))
theorem zoP:MtR X "str.partition" ztZ:=by
 intro pins s σ H x xs v us Q I N rs h;obtain⟨x,y,rfl,rfl,J,hx,q⟩:=h;obtain⟨t,rfl⟩:=N;cases rs with
 | cons G L =>
  cases L;obtain⟨u,rfl⟩:=G;have hsz:x.length<=sizeLine:=aH hx (by decide);have C:(QA x y).length=3:=by unfold QA;split <;> rfl
  have go:∀(l:List (Str×Tok)) (k:Nat),l.map (·.1)=QA x y->EP X pins σ Q (.ref s.heap.objs.size) { s with toks:=k,heap:=s.heap.push { cls:=.type "tuple",data:=.seq (strValues l).toArray } }:=fun l k e=>by refine⟨.ref s.heap.objs.size,_,I.laid (t':=k) (o:=.tup ((QA x y).map V.str)) (fun b o e=>ai _ e) (aw _) ?_,rfl,q _ (I.hok.fresh (aw _))⟩;refine⟨by rw[aJ,C];decide,strValues l,?_,IsTD.new _ _⟩;rw[<- e];exact zg3
  refine iK F.slot_str_partition (gQ _ _ _) F.entry_str_partition (F.args_str_partition_2 _ _) (meets_str_partition x y t u J hsz) ?_;unfold QA at go;cases h1:occurrences x y 0 x.length 1 with
  | nil =>rw[h1]at go;exact go [(x,t),(fB,s.toks),(fB,s.toks)] _ rfl
  | cons i l =>rw[h1]at go;exact go [(strSub x 0 i,s.toks),(y,u),(strSub x (i+y.length) x.length,s.toks+1)] _ rfl
def zn1(da db:DTE):DTA:=fun o n R=>da o n fun t n1=>lStr t fun z=>db o n1 fun u n2=>lStr u fun y=>(y.length == 0)=false/\z.length<=1000000/\(cT z y).length<=100000/\R ((cT z y).map bH) n2
theorem ze8{K:qF}{hd:Option ah}{O:ah->Prop}{H:Hp}:∀{ss:List Str},Reps K hd O H (ss.map V.str) (ss.map bH)
 | []=>.nil
 | s::ss=>.cons (.str s) ze8
theorem ziv(h:DL X a da)(h':DE X b db)(E2:attributeBase a "split" X.env (eval a X.env)=eval a X.env:=by rfl)
  (N:((backTo p3 (starEach [b] X.env)).all (fun x=>!x.1)&&(backToKw p3 (keywordEach [] X.env)).all (fun x=>x.1.isSome)
   && decide ([b].length+([]:List e8).length+(if ([]:List e8).isEmpty then 0 else 1)<30))=true:=by rfl) (E3:(p2.endLine == p3.line)=true:=by rfl) (o:starEach [b] X.env=[(false,eval b X.env)]:=by rfl):DN X (.Call (.Attribute a "split" p2) [b] [] p3) (zn1 da db):=by
 obtain⟨ta,pa,h⟩:=h;obtain⟨tb,pb,h'⟩:=h';refine⟨_,Uz fk PySem.F.slot_str_split PySem.F.type_str_split zmz pa (J3 pb Qy o) E2 N E3 o rfl,fun C J σ H n Q R S hd hq=>?_⟩;refine h C J σ H n _ _ S hd fun t n1 v Z r e1 h1 q1=>?_;cases t with
 | str z =>
  rw[q1.strI];have U:=S.on e1 h1;refine⟨rfl,h' C J σ Z n1 _ _ U r fun u n2 w H2 L e2 I q2=>?_⟩;cases u with
  | str y =>rw[q2.strI];obtain⟨Y,r4,r5,r6⟩:=L;exact⟨z,y,rfl,rfl,Y,r4,r5,fun p G=>hq _ n2 p _ _ r6 ((e1.trans e2).trans (ExtE.new G)) (I.same (JP G)) (Vd (e1.trans e2) I G) JA ze8⟩
  | _=>exact L.elim
 | _=>exact r.elim
def zn2(da db:DTE):DTE:=fun o n R=>da o n fun t n1=>lStr t fun z=>db o n1 fun u n2=>lStr u fun y=>(y.length == 0)=false/\z.length<=1000000/\R (.tuple ((QA z y).map bH)) n2
theorem zpo(h:DL X a da)(h':DE X b db)(E2:attributeBase a "partition" X.env (eval a X.env)=eval a X.env:=by rfl)
  (U:((backTo p3 (starEach [b] X.env)).all (fun x=>!x.1)&&(backToKw p3 (keywordEach [] X.env)).all (fun x=>x.1.isSome)
   && decide ([b].length+([]:List e8).length+(if ([]:List e8).isEmpty then 0 else 1)<30))=true:=by rfl) (E3:(p2.endLine == p3.line)=true:=by rfl) (o:starEach [b] X.env=[(false,eval b X.env)]:=by rfl):DE X (.Call (.Attribute a "partition" p2) [b] [] p3) (zn2 da db):=by
 obtain⟨ta,pa,h⟩:=h;obtain⟨tb,pb,h'⟩:=h';refine⟨_,Uz fk PySem.F.slot_str_partition PySem.F.type_str_partition zoP pa (J3 pb Qy o) E2 U E3 o rfl,fun C L σ H n Q R S hd hq=>?_⟩;refine h C L σ H n _ _ S hd fun t n1 v Z r e1 h1 q1=>?_;cases t with
 | str z =>
  rw[q1.strI];have I:=S.on e1 h1;refine⟨rfl,h' C L σ Z n1 _ _ I r fun u n2 w H2 N e2 J q2=>?_⟩;cases u with
  | str y =>rw[q2.strI];obtain⟨Y,r4,r6⟩:=N;have S2:=I.on e2 J;exact⟨z,y,rfl,rfl,Y,r4,fun p G=>hq _ n2 _ _ r6 ((e1.trans e2).trans (ExtE.new G)) (J.same (JP G)) (.newT (S2.free G) G ze8)⟩
  | _=>exact N.elim
 | _=>exact r.elim
instance s_split {ρ:En}{n:Nat}{R:List ae->Nat->Prop}:Stp (zn1 da db ρ n R) (da ρ n fun t n1=>lStr t fun z=>db ρ n1 fun u n2=>lStr u fun y=>(y.length == 0)=false/\z.length<=1000000/\(cT z y).length<=100000/\R ((cT z y).map bH) n2):=⟨fun h=>h⟩
instance zu2 {ρ:En}{n:Nat}{R:qN}:Stp (zn2 da db ρ n R) (da ρ n fun t n1=>lStr t fun z=>db ρ n1 fun u n2=>lStr u fun y=>(y.length == 0)=false/\z.length<=1000000/\R (.tuple ((QA z y).map bH)) n2):=⟨fun h=>h⟩
end
open Builtin Builtin.Str
def glL(a:Nat):List (List Nat)->List Nat
 | []=>[]
 | [p]=>p
 | p::q::r=>p++a::glL a (q::r)
theorem zis{a:Nat}:∀{p q u v:List Nat},a∉p->a∉q->p++a::u=q++a::v->p=q/\u=v
 | [],[],u,v,_,_,e=>by simpa using e
 | [],c::q,u,v,_,hq,e=>by injection e with e1 e2;exact absurd (by rw[e1];exact .head _) hq
 | c::p,[],u,v,hp,_,e=>by injection e with e1 e2;exact absurd (by rw[<- e1];exact .head _) hp
 | c::p,d::q,u,v,hp,hq,e=>by injection e with e1 e2;obtain⟨x,o⟩:=zis (fun z=>hp (.tail _ z)) (fun z=>hq (.tail _ z)) e2;exact⟨by rw[e1,x],o⟩
theorem zkS{a:Nat}:∀{ps o:List (List Nat)},ps≠[]->o≠[]->(∀p∈ps,a∉p)->(∀q∈o,a∉q)->glL a ps=glL a o->ps=o
 | [],_,h,_,_,_,_=>absurd rfl h
 | _,[],_,h,_,_,_=>absurd rfl h
 | [p],[q],_,_,_,_,e=>by rw[show p=q from e]
 | [p],q::r::s,_,_,hp,_,e=>by have e:p=q++a::glL a (r::s):=e;exact absurd (by rw[e];simp) (hp p (.head _))
 | p::r::s,[q],_,_,_,hq,e=>by have e:p++a::glL a (r::s)=q:=e;exact absurd (by rw[<- e];simp) (hq q (.head _))
 | p::p'::r,q::q'::s,_,_,hp,hq,e=>by obtain⟨v,u⟩:=zis (hp p (.head _)) (hq q (.head _)) e;rw[v,zkS (by simp) (by simp) (fun x hx=>hp x (.tail _ hx)) (fun x hx=>hq x (.tail _ hx)) u]
theorem Vw{a:Nat}:∀{ps:List Str},(eV ⟨#[a]⟩ ps).cps.toList=glL a (ps.map (·.cps.toList))
 | []=>rfl
 | [p]=>rfl
 | p::q::r=>by
  have e:∀(l:List Str) (x:Array Nat) (y:Str),(l.foldl (fun u p=>u++(⟨#[a]⟩:Str).cps++p.cps) (x++(⟨#[a]⟩:Str).cps++y.cps))=x++(⟨#[a]⟩:Str).cps++l.foldl (fun u p=>u++(⟨#[a]⟩:Str).cps++p.cps) y.cps:=by
   intro l;induction l with
   | nil=>intro x y;rfl
   | cons z l v =>intro x y;rw[fw,fw,v (x++(⟨#[a]⟩:Str).cps++y.cps) z,v y.cps z];simp only[Array.append_assoc]
  have v:=Vw (a:=a) (ps:=q::r);show(r.foldl (fun u p=>u++(⟨#[a]⟩:Str).cps++p.cps) (p.cps++(⟨#[a]⟩:Str).cps++q.cps)).toList=_;rw[e];have v:(r.foldl (fun u p=>u++(⟨#[a]⟩:Str).cps++p.cps) q.cps).toList=glL a ((q::r).map (·.cps.toList)):=v;rw[bK,bK,v];show p.cps.toList++[a]++_=p.cps.toList++a::_;rw[aA];rfl
theorem zh3:∀{ps l:List Str},ps.map (·.cps.toList)=l.map (·.cps.toList)->ps=l
 | [],[],_=>rfl
 | [],_::_,e=>nomatch e
 | _::_,[],e=>nomatch e
 | p::ps,q::l,e=>by rw[aK,aK]at e;injection e with e1 e2;rw[L2.Str.ext' e1,zh3 e2]
theorem split_free{a:Nat}{x:Str}(ha:a<256):(∀p∈cT x ⟨#[a]⟩,a∉p.cps.toList)/\cT x ⟨#[a]⟩≠[]:=by
 obtain⟨f,ch,fr⟩:=StrLaws.occ_tight x ⟨#[a]⟩ (aw 1);have u:=StrLaws.parts_free x a _ 0 f ch fr;have v:dR ⟨#[a]⟩=1:=by unfold dR;rw[if_pos (by simp[ha])]
 have C:1<=dR x:=by unfold dR;split <;> (try split) <;> decide
 unfold cT;by_cases h1:(decide (x.length<(⟨#[a]⟩:Str).length)||decide (dR x<dR ⟨#[a]⟩))=true;rw[if_pos h1];refine⟨fun p o=>?_,by simp⟩;cases ba.mp o;rw[v,hW,decide_eq_true_eq,decide_eq_true_eq]at h1;have h0:x.cps.toList.length<1:=by rcases h1 with h|h;simpa[gn] using h;lia
 rw[dM.mp (by lia:x.cps.toList.length=0)];simp;rw[if_neg h1];by_cases h2:(occurrences x ⟨#[a]⟩ 0 x.length (x.length+1)).isEmpty=true;rw[if_pos h2];refine⟨fun p o=>?_,by simp⟩;cases ba.mp o;rw[List.isEmpty_iff.mp h2]at u;have:=u (strSub x 0 x.length) (by simp[StrLaws.partsFrom]);rwa [StrLaws.sub_whole]at this;rw[if_neg h2,StrLaws.partsBetween_eq];refine⟨u,fun z=>?_⟩;obtain⟨p,r,e⟩:=StrLaws.partsFrom_ne x (⟨#[a]⟩:Str).length 0 (occurrences x ⟨#[a]⟩ 0 x.length (x.length+1));rw[e]at z;cases z
theorem zez{a:Nat}{ps:List Str}(ha:a<256)(I:ps≠[])(hf:∀p∈ps,a∉p.cps.toList):cT (eV ⟨#[a]⟩ ps) ⟨#[a]⟩=ps:=by
 obtain⟨G,C⟩:=split_free (x:=eV ⟨#[a]⟩ ps) ha;have e:eV ⟨#[a]⟩ (cT (eV ⟨#[a]⟩ ps) ⟨#[a]⟩)=eV ⟨#[a]⟩ ps:=(StrLaws.glued_eq_join _ _).trans (StrLaws.join_split _ _);have e:=congrArg (·.cps.toList) e;rw[Vw,Vw]at e;have free:∀{l:List Str},(∀p∈l,a∉p.cps.toList)->∀q∈l.map (·.cps.toList),a∉q:=fun h q u=>by obtain⟨p,v,rfl⟩:=aY.mp u;exact h p v
 exact zh3 (zkS (by simpa using C) (by simpa using I) (free G) (free hf) e)
theorem zj2{a:Nat}{x p r:Str}(e:x.cps.toList=p.cps.toList++a::r.cps.toList)(C:a∉p.cps.toList):QA x ⟨#[a]⟩=[p,⟨#[a]⟩,r]:=by
 have at_:∀i,wG x ⟨#[a]⟩ x.length i↔x.cps.toList[i]?=some a:=fun i=>by unfold wG;rw[StrLaws.subAt_eq];show i+1<=x.cps.size/\((x.cps.toList.drop i).take 1 == [a])=true↔_;rw[StrLaws.take1_drop];constructor;exact And.right;intro h;have:=(aL.mp h).1;rw[aP]at this;exact⟨this,h⟩
 have u:x.cps.toList[p.cps.toList.length]?=some a:=by rw[e];simp
 unfold QA;rcases StrLaws.occ_head x ⟨#[a]⟩ 1 (aw 1) with⟨h0,v⟩|⟨i,l,h0,hi,G⟩;exact absurd ((at_ _).mpr u) (v _);rw[h0];have hi:=(at_ i).mp hi;have o:i=p.cps.toList.length:=by rcases fH i p.cps.toList.length with h|h|h;rw[e,bh h]at hi;exact absurd (aX hi) C;exact h;exact absurd ((at_ _).mpr u) (G _ h)
 have e1:strSub x 0 i=p:=L2.Str.ext' (by rw[k8,o,e];simp);have e2:strSub x (i+(⟨#[a]⟩:Str).length) x.length=r:=L2.Str.ext' (by
  rw[k8,o];have I:x.length=x.cps.toList.length:=by simp[gn]
  rw[I,e];show ym _ (yn (p.cps.toList.length+1) (p.cps.toList++a::r.cps.toList))=_;rw[show p.cps.toList++a::r.cps.toList=(p.cps.toList++[a])++r.cps.toList by simp,nQ (by simp)];exact cQ (by simp;show _<=_ - (_+1);lia))
 show[strSub x 0 i,_,strSub x (i+(⟨#[a]⟩:Str).length) x.length]=_;rw[e1,e2]
section
variable{prog:aI}{w:aT}{A:bu}{E:qV}{s:ak}
theorem zhz{l:ah}{items:Array af}{Q:List af->ak->Prop}(I:s.heap.IsList l items)(Y:A.handled=none)(U:1<=items.size)(Z:items.size<=sizeLine)
  (h:∀(h':bt) (L:Nat),(∀b o,s.heap.get? b=some o->h'.get? b=some o)->Q (items.toList.take 1++[.ref h'.objs.size]) { s with heap:=h'.push { cls:=.type "list",data:=.seq (items.toList.drop 1).toArray },toks:=L }) :
  wpAny (model prog w) A (unpackItems (.ref l) 2 (some 1)) Q E s:=by
 have G:l≠s.heap.objs.size:=by obtain⟨o,R,_⟩:=I;exact aN (ax R)
 unfold unpackItems;refine ab ?_;unfold notIterableAtAll;refine ab (nX I.typeIs slot_list_iter.lookup (aj ?_));simp only[bG,if_false];refine ab (cE (gx I ?_));refine ab (cE (PySem.W.kun_draw G 1 0 _ _ ⟨_,aB _ rfl,rfl,rfl⟩ (I.push _) (by lia) fun v hit N=>?_));have C:v.IsList l items:=(I.push _).extBut N.extBut G;have a1:∃o,v.get? s.heap.objs.size=some o:=by obtain⟨o,q,_⟩:=hit;exact⟨o,q⟩
 have a2:∃o,v.get? l=some o:=by obtain⟨o,q,_⟩:=C;exact⟨o,q⟩
 obtain⟨o1,a1⟩:=a1;obtain⟨o2,a2⟩:=a2;rw[iQ];have fl:(items.toList.take 1).length=1:=by rw[cw,aP];lia
 rw[if_neg (show ¬((items.toList.take 1).length<1) by lia)];refine ab (cE (PySem.W.kun_collect (s:={ s with heap:=v }) (T:="list_iterator") (.inr (.inr (.inl rfl))) (we (A:=A.in1) Y s.heap.objs.size l G items) (fun j u st=>st.1.typeIs) (k:=1) U ⟨hit,C⟩ (ax a1) (ax a2) (fun J L S=>?_) Z));rw[if_neg (by lia)];show wpAny _ _ (newList ((items.toList.drop 1).take ((items.toList.drop 1).length - (2 - 1 - 1))) >>= fun d=>pure (items.toList.take 1++[d]++(items.toList.drop 1).drop ((items.toList.drop 1).length - (2 - 1 - 1)))) _ _ _;have e1:(items.toList.drop 1).take ((items.toList.drop 1).length - (2 - 1 - 1))=items.toList.drop 1:=cQ (by lia);have e2:(items.toList.drop 1).drop ((items.toList.drop 1).length - (2 - 1 - 1))=[]:=ff (by lia);rw[e1,e2];refine ab (ka (aj ?_) (by rw[de,aP];lia));rw[cq];exact h J L fun b o q=>S b o (aN (ax q)) (N.extBut b o (aN (ax q)) (ai _ q))
end
section
variable{X:Cx}{a b e:aO}{pos p3:Pos}{t:TGs}{te:TE}
def zsd(K:qF)(t:TGs):TG:=fun v σ H Q=>∃a x xs,v=.ref a/\SqL K H a (x::xs)/\∀p,H p=none->t [x,.ref p] σ (upd H p (.lst xs)) Q
theorem zml{k:Nat}(hc:X.calm=true)(h:PGs X [a,b] t)(Y:(assignEach [a,.Starred b p3] X.env).length=2:=by rfl)(J:(assignEach [a,.Starred b p3] X.env).findIdx? (·.1)=some 1:=by rfl)
  (R:(assignEach [a,.Starred b p3] X.env).map (·.2)=(assignEach [a,b] X.env).map (·.2):=by rfl):PG X (.Tuple [a,.Starred b p3] k pos) (zsd X.K t):=by
 intro pins s σ H v u Q I r hw;obtain⟨q,x,xs,rfl,hq,hw⟩:=hw;cases r;obtain⟨Z,N,U,C⟩:=I.list hq;cases N with
 | @cons _ y _ ys r1 r2 =>
  rw[assign_Tuple];refine ab (dU ?_);unfold unpack;rw[Y,J,R];have C:(y::ys).length<=sizeLine:=by have:=r2.length;simp at C ⊢;lia
  refine ab (cE (zhz U.isList (I.ok.hd hc) (by simp) (by simpa using C) fun h' G kp=>?_));have L:Inv X pins σ H { s with heap:=h',toks:=G }:=I.kept kp;have I2:Inv X pins σ (upd H h'.objs.size (.lst xs)) { s with heap:=h'.push { cls:=.type "list",data:=.seq ys.toArray },toks:=G }:=L.laid (t':=G) (fun b o q=>ai _ q) (aw _) ⟨by have:=r2.length;simp at C;lia,ys,0,r2,aB _ rfl⟩;exact h pins _ σ _ _ _ Q I2 (.cons r1 (.cons (show RelV (.ref h'.objs.size) (.ref h'.objs.size) from rfl) .nil)) (hw _ (L.hok.fresh (aw _)))
end
section
variable{X:Cx}{e:aO}{x y:Str}{pos px py p3 pt:Pos}{d:DTA}
def znu(i j:Nat)(d:DTA):DTS:=fun D u n=>d u n fun ts C=>∃t us,ts=t::us/\SetK i (some (.val t)) (fun o n1=>SetK j (some (.val (.list us))) D.nx o n1) u C
theorem znb{i j kt:Nat}(hc:X.calm=true)(U:X.N.Nodup)(hi:X.N[i]?=some x)(hj:X.N[j]?=some y)(hx:Loc X.env.scope x)(hy:Loc X.env.scope y)(h:DN X e d)
  (Z:Fnl X x:=by walk_at "F") (fy:Fnl X y:=by walk_at "F")
  (hs:swapsWithSole [.Tuple [.Name x px,.Starred (.Name y py) p3] kt pt] e pos.line X.env=pure false:=by rfl) (hw:swappedStores [.Tuple [.Name x px,.Starred (.Name y py) p3] kt pt] e X.env=pure none:=by rfl) :
  DS X (.Assign [.Tuple [.Name x px,.Starred (.Name y py) p3] kt pt] e pos) (znu i j d):=by
 obtain⟨ta,pa,h⟩:=h;refine⟨_,U3 pa (zml hc (zfd (zha U hi hx Z) (zfd (zha U hj hy fy) zjX))) hs hw,fun C I σ H n D D' S hd g=>?_⟩;refine h C I σ H n _ _ S hd fun ts n1 p vs G r e1 R hp hl q=>?_;obtain⟨t,us,rfl,r⟩:=r;cases q with
 | @cons v d vr dr rt rs =>refine⟨p,v,vr,rfl,.of hl,fun q J=>?_⟩;have L:=S.on e1 R;have rt:Rep X.K C.hd (Own C I σ) G v t:=rt.mono (fun a o _ z=>.inl z) fun _ _ _ h=>h;have rs:Reps X.K C.hd (Own C I σ) G vr us:=rs.mono (fun a o _ z=>.inl z) fun _ _ _ h=>h;have e2:ExtE C.hd G (upd G q (.lst vr)):=ExtE.new J;have S2:=L.on e2 (R.same (JP J));have Y:Rep X.K C.hd (Own C I σ) _ (.ref q) (.list us):=.lst JA (L.free J) (e2.reps S.hx rs);have T1:=S2.put (i:=i) (e2.rep S.hx rt);have T2:=T1.put (i:=j) (Keep.rep UP S.hx Y);exact⟨_,_,rfl,_,_,rfl,rfl,g.nx _ _ _ n1 r T2 ((e1.keep.trans e2.keep).trans (UP.trans UP))⟩
instance ztm {i j:Nat}{D:JO}{ρ:En}{n:Nat}:Stp (znu i j d D ρ n) (d ρ n fun ts n'=>∃t us,ts=t::us/\SetK i (some (.val t)) (fun ρ1 n1=>SetK j (some (.val (.list us))) D.nx ρ1 n1) ρ n'):=⟨fun h=>h⟩
end
section
variable{X:Cx}{e:aO}{es:List aO}{pos pt:Pos}{d:DTE}{gs:DTGs}{is:List Nat}
def zqm(d:DTE)(gs:DTGs):DTS:=fun D o n=>d o n fun t u=>lLst t fun ts=>gs ts o fun l=>D.nx l u
instance ztn {D:JO}{ρ:En}{n:Nat}:Stp (zqm d gs D ρ n) (d ρ n fun t n'=>lLst t fun ts=>gs ts ρ fun ρ'=>D.nx ρ' n'):=⟨fun h=>h⟩
theorem zpj{kt:_}(hc:X.calm=true)(h:DE X e d)(J:DGs X es is gs)(hn:(assignEach es X.env).length=es.length:=by rfl)(L:(assignEach es X.env).findIdx? (·.1)=none:=by rfl)
  (hs:swapsWithSole [.Tuple es kt pt] e pos.line X.env=pure false:=by rfl) (hw:swappedStores [.Tuple es kt pt] e X.env=pure none:=by rfl) (h1:(assignEach [.Tuple es kt pt] X.env).map (·.2)=[assign (.Tuple es kt pt) X.env]:=by rfl) :
  DS X (.Assign [.Tuple es kt pt] e pos) (zqm d gs):=by
 obtain⟨ta,pa,h⟩:=h;obtain⟨l,w,g,pg,J⟩:=J;refine⟨_,U3 pa (zow hc pg hn L) hs hw h1,fun C N σ H n D D' S hd gd=>?_⟩;refine h C N σ H n _ _ S hd fun t Z v U r e1 G q=>?_;cases t with
 | list ts =>obtain⟨p,vs,rfl,hv,_,Y⟩:=q.lstI;have S1:=S.on e1 G;exact⟨p,_,rfl,.of hv,Y.length.trans (l ts N _ r),J C N σ U Z vs ts _ _ S1 Y r fun R σ' hr S' kp _ _=>gd.nx R σ' U Z hr S' (e1.keep.trans kp)⟩
 | _=>exact r.elim
end
end L2
namespace Bd
open PySem PySem.Spec PyProof PyProof.Rows L2
theorem s_nl:aa "\n"=⟨#[10]⟩:=by decide +kernel
theorem s_bl:aa " " = ⟨#[32]⟩:=by decide +kernel
theorem zhn{a:Str}:aa "" ++ a=a:=L2.Str.ext' (by rw[Q0,ZI,JW];rfl)
def numS(b:Int):Str:=aa (toString b)
theorem zkc{b:Int}(v:1<=b)(u:b<=64):1<=(numS b).cps.toList.length/\(numS b).cps.toList.length<=2/\(∀c∈(numS b).cps.toList,48<=c/\c<=57)/\(numS b).cps.toList.head?≠some 48/\dE (numS b)=some b:=by
 have h:∀n:Fin 64,1<=(numS ((n.val:Int)+1)).cps.toList.length/\(numS ((n.val:Int)+1)).cps.toList.length<=2/\(∀c∈(numS ((n.val:Int)+1)).cps.toList,48<=c/\c<=57)/\(numS ((n.val:Int)+1)).cps.toList.head?≠some 48/\dE (numS ((n.val:Int)+1))=some ((n.val:Int)+1):=by decide +kernel
 have:=h ⟨(b - 1).toNat,by lia⟩;have e:(((b - 1).toNat:Nat):Int)+1=b:=by lia
 dsimp only at this;rwa [e]at this
def QG(b:Int):Str:=aa "" ++ aa "bits " ++ numS b
def rowS(bits:Int)(w:Str)(p:NP):Str:=aa "" ++ w++aa " " ++ mkS (begL bits p.1.1 p.1.2)++aa " " ++ p.2
def J1(bits:Int)(os l:List NP):List Str:=QG bits::(os.map (rowS bits (aa "out"))++l.map (rowS bits (aa "kept")))
def UC(d:Deal):Str:=eV (aa "\n") (J1 d.1 d.2.1 d.2.2)
theorem zel{b:Int}:(QG b).cps.toList=[98,105,116,115,32]++(numS b).cps.toList:=by unfold QG;rw[zhn,Q0,show(aa "bits ").cps.toList=[98,105,116,115,32] by decide +kernel]
theorem ze7{bits:Int}{w:Str}{p:NP}:(rowS bits w p).cps.toList=w.cps.toList++32::(begL bits p.1.1 p.1.2++32::p.2.cps.toList):=by unfold rowS;rw[zhn,Q0,Q0,Q0,Q0,s_bl,JW];simp
theorem zfT{bits:Int}{w:Str}{p:NP}:rowS bits w p=eV (aa " ") [w,mkS (begL bits p.1.1 p.1.2),p.2]:=L2.Str.ext' (by rw[ze7,s_bl,Vw];simp[glL,JW])
theorem zhQ{bits i h:Int}{c:Nat}(hc:c∈begL bits i h):c=48\/c=49\/c=42:=by unfold begL at hc;rcases aD.mp hc with z|z;rcases VH c z with z|z;exact .inl z;exact .inr (.inl z);split at z;exact .inr (.inr (ba.mp z));cases z
theorem zdl{bits i h:Int}(o:bits<=64)(h0:0<=h):(begL bits i h).length<=65:=by unfold begL;rw[aM,U8];split <;> simp <;> lia
def IsW(w:Str):Prop:=w=aa "out" \/ w=aa "kept"
theorem IsW.ok{w:Str}(h:IsW w):w.cps.toList.length<=4/\∀c∈w.cps.toList,97<=c/\c<=122:=by rcases h with rfl|rfl <;> decide +kernel
section
variable{bits:Int}{w:Str}{p:NP}{os ks:List NP}
theorem Vl(u:bits<=64)(hw:IsW w)(h0:0<=p.1.2)(x:IsNm p.2):(rowS bits w p).length<=80/\(10:Nat)∉(rowS bits w p).cps.toList:=by
 have l1:=hw.ok;have l2:=zdl (i:=p.1.1) u h0;obtain⟨n1,n2,v⟩:=x;have ln:p.2.cps.toList.length<=8:=by rw[aP];exact n2
 refine⟨?_,fun z=>?_⟩;show(rowS bits w p).cps.size<=80;rw[<- aP,ze7];simp only[aM,aF];lia;rw[ze7]at z;simp only[aD,aq]at z;rcases z with z|z|z|z|z;have:=l1.2 _ z;lia;cases z;rcases zhQ z with z|z|z <;> cases z;cases z;have:=v _ z;lia
theorem ziL(hw:IsW w)(o:IsNm p.2):cT (rowS bits w p) (aa " ")=[w,mkS (begL bits p.1.1 p.1.2),p.2]:=by rw[zfT,s_bl];refine zez (by decide) (by simp) fun q l z=>?_;simp only[aq,av,or_false]at l;rcases l with rfl|rfl|rfl;have:=hw.ok.2 _ z;lia;rw[JW]at z;rcases zhQ z with z|z|z <;> cases z;have:=o.2.2 _ z;lia
theorem zjc(u:1<=bits)(l:bits<=64):QA (QG bits) (aa " ")=[aa "bits",aa " ",numS bits]:=by rw[s_bl];refine zj2 (p:=aa "bits") (r:=numS bits) ?_ (by decide +kernel);rw[zel,show(aa "bits").cps.toList=[98,105,116,115] by decide +kernel];rfl
theorem Vq(v:1<=bits)(u:bits<=64):(QG bits).length<=80/\(10:Nat)∉(QG bits).cps.toList:=by obtain⟨_,C,x,_⟩:=zkc v u;refine⟨?_,fun z=>?_⟩;show(QG bits).cps.size<=80;rw[<- aP,zel,aM];show 5+_<=80;lia;rw[zel]at z;rcases aD.mp z with z|z;revert z;decide;have:=x _ z;lia
theorem ze5(G:1<=bits)(o:bits<=64)(x:∀p∈os,0<=p.1.2/\IsNm p.2)(C:∀p∈ks,0<=p.1.2/\IsNm p.2):∀s∈J1 bits os ks,s.length<=80/\(10:Nat)∉s.cps.toList:=fun s v=>by rcases aq.mp v with rfl|v;exact Vq G o;rcases aD.mp v with h|h;obtain⟨p,u,rfl⟩:=aY.mp h;exact Vl o (.inl rfl) (x p u).1 (x p u).2;obtain⟨p,u,rfl⟩:=aY.mp h;exact Vl o (.inr rfl) (C p u).1 (C p u).2
theorem zeQ(C:1<=bits)(o:bits<=64)(u:∀p∈os,0<=p.1.2/\IsNm p.2)(x:∀p∈ks,0<=p.1.2/\IsNm p.2)(lo:os.length<=1000)(G:ks.length<=1000):oM (aa "\n") (J1 bits os ks)=true:=by refine joinOk_of (k:=80) (fun s v=>(ze5 C o u x s v).1) ?_;rw[show(aa "\n").length=1 by decide +kernel];simp only[J1,aF,aM,aJ];lia
theorem zhH(x:1<=bits)(l:bits<=64)(o:∀p∈os,0<=p.1.2/\IsNm p.2)(v:∀p∈ks,0<=p.1.2/\IsNm p.2):cT (UC (bits,os,ks)) (aa "\n")=J1 bits os ks:=by unfold UC;rw[s_nl];exact zez (by decide) (by simp[J1]) fun s u=>(ze5 x l o v s u).2
end
end Bd
namespace L2
open PySem PySem.Spec PyProof PyProof.Rows
section
variable{X:Cx}{e e1 e2:aO}{k1 k2:Str}{pos q1 q2 p1 p2 p3:Pos}{j1 j2:Nat}{t1 t2 te:TE}
def tTwo(k1 k2:Str)(t1 t2:TE):TE:=fun σ H Q=>∀p,H p=none->t1 σ (upd H p (.dK [])) fun o v=>t2 σ v fun u l=>l p=some (.dK [])/\Q (.ref p) (upd l p (.dK [(.inr k1,o),(.inr k2,u)]))
theorem zqD(hk:k1≠k2)(h1:PE X e1 t1)(h2:PE X e2 t2):PE X (.Dict [some (.Constant (.str k1) j1 q1),some (.Constant (.str k2) j2 q2)] [e1,e2] pos) (tTwo k1 k2 t1 t2):=by
 intro pins s σ H Q I h;have hb:(s.heap.objs.size == sysModules)=false:=beq_eq_false_iff_ne.mpr (ip (aN I.bigM));refine wpAny_Dict_pairs (knd:=UJ X.prog X.w) (pairs:=[(eval (.Constant (.str k1) j1 q1) X.env,do let x <- eval e1 X.env;standAt pos;pure x),(eval (.Constant (.str k2) j2 q2) X.env,do let x <- eval e2 X.env;standAt pos;pure x)]) rfl (by simp) (by show 2<=15;decide) ?_;have I0:Inv X pins σ (upd H s.heap.objs.size (.dK [])) { s with heap:=s.heap.push { cls:=.type "dict",data:=.dict #[] } }:=I.laid (a:=s.heap.objs.size) (o:=.dK []) (t':=s.toks) (fun _ _ q=>ai _ q) (aw _) ⟨b5 _,hb,[],.nil,yV s.heap⟩;have h0:=h _ (I.hok.fresh (aw _));refine lI (thn (U2 (X:=X) (x:=k1) (j:=j1) (pos:=q1) pins _ σ _ (fun v U=>v=.str k1/\U=upd H s.heap.objs.size (.dK [])) I0 ⟨rfl,rfl⟩) fun u1 s1 S=>?_);obtain⟨w1,H1,I1,r1,rfl,rfl⟩:=S;obtain⟨tk1,rfl⟩:=r1;refine ab (thn (h1 pins s1 σ _ _ I1 h0) fun G s2 hh2=>ab (dU (aj ?_)));obtain⟨v1,H2,I2,Z,g2⟩:=hh2;refine lI (thn (U2 (X:=X) (x:=k2) (j:=j2) (pos:=q2) pins _ σ _ (fun v U=>v=.str k2/\U=H2) I2 ⟨rfl,rfl⟩) fun u3 s3 N=>?_);obtain⟨w3,H3,I3,r3,rfl,rfl⟩:=N;obtain⟨tk3,rfl⟩:=r3;refine ab (thn (h2 pins s3 σ _ _ I3 g2) fun J s4 L=>ab (dU (aj (PySem.evalPairs_nil ?_))));obtain⟨v2,H4,I4,Y,hp,g4⟩:=L;obtain⟨_,_,vs,kv,R⟩:=(show JE X.prog X.w H4 s4.heap s.heap.objs.size (.dK []) from I4.hok _ _ hp);cases kv;refine⟨[(.inr k1,G),(.inr k2,J)],⟨VL _ _ _ _,rfl,VL _ _ _ _,rfl,trivial⟩,R,fun h' d' sb=>?_⟩;have em:tx [] [((.inr k1:Key),G),(.inr k2,J)]=[(.inr k1,G),(.inr k2,J)]:=by have:¬(iU k1:Key)=.inr k2:=fun z=>hk (nz z);simp[tx,PySem.stored,this]
 rw[em]at d';obtain⟨o,es,ep,hg,_⟩:=id d';refine⟨.ref s.heap.objs.size,_,I4.write (x:=s.heap.objs.size) (e:=s.heap.objs.size) (o:=.dK [(.inr k1,v1),(.inr k2,v2)]) (by rw[hp];trivial) (.inl rfl) (fun b u ne q=>sb.extBut b u ne q) ⟨_,hg⟩ ⟨by show 2<=_;decide,hb,[(.inr k1,G),(.inr k2,J)],.cons ⟨rfl,Z⟩ (.cons ⟨rfl,Y⟩ .nil),d'⟩,rfl,g4⟩
variable{a b:aO}{ta tb:TE}
def tIx2(k1 k2:Str)(ta tb:TE):TE:=fun σ H Q=>ta σ H fun x v=>tb σ v fun y l=>∃(p:ah) (o u:V),x=.ref p/\l p=some (.dK [(.inr k1,o),(.inr k2,u)])/\((y=.str k1/\Q o l)\/(y=.str k2/\Q u l))
theorem ZU(hk:k1≠k2)(ho:PE X a ta)(hi:PE X b tb)(hs:NoSl b):PE X (.Subscript a b pos) (tIx2 k1 k2 ta tb):=by
 intro pins s σ H Q I h;refine zn9 PySem.F.slot_dict_getitem.lookup hs (thn (ho pins s σ H _ I h) fun u s1 ⟨x,H1,I1,rx,q1⟩=>thn (hi pins s1 σ H1 _ I1 q1) fun U s2 C=>?_);obtain⟨y,L,N,Z,p,R,Y,rfl,hp,q⟩:=C;cases rx;obtain⟨_,_,vs,o,l⟩:=(show JE X.prog X.w L s2.heap p (.dK [(.inr k1,R),(.inr k2,Y)]) from N.hok _ _ hp);cases o with
 | cons r1 o =>
  cases o with
  | cons r2 o =>cases o;rename_i w1 w2;obtain⟨c1,u1⟩:=w1;obtain⟨c2,u2⟩:=w2;obtain⟨rfl,J⟩:=r1;obtain⟨rfl,G⟩:=r2;have n1:¬(iU k1:Key)=.inr k2:=fun z=>hk (nz z);rcases q with⟨rfl,q⟩|⟨rfl,q⟩;obtain⟨t,rfl⟩:∃t,U=ke k1 t:=Z;exact⟨l.typeIs,ny (knd:=UJ X.prog X.w) (k:=.inr k1) (VL _ _ _ _) l.mapOf (v:=u1) (by simp[valueAt]) ⟨R,L,N.tok _,J,q⟩⟩;obtain⟨t,rfl⟩:∃t,U=ke k2 t:=Z;exact⟨l.typeIs,ny (knd:=UJ X.prog X.w) (k:=.inr k2) (VL _ _ _ _) l.mapOf (v:=u2) (by simp[valueAt,n1]) ⟨Y,L,N.tok _,G,q⟩⟩
end
structure ShL(K:qF)(C:Ctx)(i:Nat)(k1 k2:Str)(d q1 q2:ah)(ρ:En)(σ:St)(H:Hp)(xs ys:qD):Prop where
 at_:σ[i]?=some (some (.ref d))
 dk:H d=some (.dK [(.inr k1,.ref q1),(.inr k2,.ref q2)])
 ed:C.ext d
 e1:C.ext q1
 e2:C.ext q2
 nd:C.hd≠some d
 n1:C.hd≠some q1
 n2:C.hd≠some q2
 ne:q1≠q2
 l1:∃vs,H q1=some (.lst vs)/\Reps K C.hd (Own C ρ σ) H vs xs
 l2:∃vs,H q2=some (.lst vs)/\Reps K C.hd (Own C ρ σ) H vs ys
section
variable{K:qF}{C:Ctx}{i:Nat}{k1 k2:Str}{d q1 q2:ah}{ρ ρ':En}{σ σ':St}{H H':Hp}{n:Nat}{xs ys:qD}{u:ae}{v:V}
theorem ShL.ext(I:ShL K C i k1 k2 d q1 q2 ρ σ H xs ys)(hx:∀a,C.hd=some a->C.ext a)(e:ExtE C.hd H H'):ShL K C i k1 k2 d q1 q2 ρ σ H' xs ys:=by obtain⟨a1,a2,a3,S,G,o,l,x,R,⟨N,L,J⟩,Y,Z,U⟩:=I;exact⟨a1,e _ _ a2 o,a3,S,G,o,l,x,R,⟨N,e _ _ L l,e.reps hx J⟩,Y,e _ _ Z x,e.reps hx U⟩
theorem zie(k:Keep C ρ σ H ρ' σ' H)(hx:∀a,C.hd=some a->C.ext a){x:List V}{ts:qD}(r:Reps K C.hd (Own C ρ σ) H x ts):Reps K C.hd (Own C ρ' σ') H x ts :=
 r.mono (fun a o ha z=>z.elim .inl fun z=>cX fun no=>(k a o ha (fun w=>no (.inl (hx a w))) (fun w=>no (.inr w))).2 z) fun _ _ _ h=>h
theorem ShL.on(I:ShL K C i k1 k2 d q1 q2 ρ σ H xs ys)(hx:∀a,C.hd=some a->C.ext a)(k:Keep C ρ σ H ρ' σ' H)(e:σ'[i]?=σ[i]?):ShL K C i k1 k2 d q1 q2 ρ' σ' H xs ys:=by obtain⟨a1,a2,a3,R,l,N,G,Z,L,⟨J,x,o⟩,U,Y,S⟩:=I;exact⟨e.trans a1,a2,a3,R,l,N,G,Z,L,⟨J,x,zie k hx o⟩,U,Y,zie k hx S⟩
theorem VB{a:ah}{o:HO}{O:ah->Prop}{l:List V}{ts:qD}(h:O a)(r:Reps K C.hd O H l ts):Reps K C.hd O (upd H a o) l ts :=
 r.mono (fun _ _ _ z=>z) fun b x no hb=>(Je fun z=>no (by rw[z];exact h)).trans hb
theorem ShL.app1(I:ShL K C i k1 k2 d q1 q2 ρ σ H xs ys){J:List V}(N:H q1=some (.lst J))(r:Rep K C.hd (Own C ρ σ) H v u):ShL K C i k1 k2 d q1 q2 ρ σ (upd H q1 (.lst (J++[v]))) (xs++[u]) ys:=by
 obtain⟨a1,a2,a3,x,R,Y,U,a8,L,⟨vs',G,S⟩,ws,c1,Z⟩:=I;rw[N]at G;cases G;have nd:d≠q1:=fun z=>by rw[z,N]at a2;cases a2
 exact⟨a1,(Je nd).trans a2,a3,x,R,Y,U,a8,L,⟨_,JA,VB (.inl x) (S.append (.cons r .nil))⟩,ws,(Je L.symm).trans c1,VB (.inl x) Z⟩
theorem ShL.app2(I:ShL K C i k1 k2 d q1 q2 ρ σ H xs ys){J:List V}(N:H q2=some (.lst J))(r:Rep K C.hd (Own C ρ σ) H v u):ShL K C i k1 k2 d q1 q2 ρ σ (upd H q2 (.lst (J++[v]))) xs (ys++[u]):=by
 obtain⟨a1,a2,a3,a4,x,Z,Y,a8,L,⟨G,U,S⟩,ws,R,c2⟩:=I;rw[N]at R;cases R;have nd:d≠q2:=fun z=>by rw[z,N]at a2;cases a2
 exact⟨a1,(Je nd).trans a2,a3,a4,x,Z,Y,a8,L,⟨G,(Je L).trans U,VB (.inl x) S⟩,_,JA,VB (.inl x) (c2.append (.cons r .nil))⟩
theorem zh2(S:Stt K C ρ σ H n){a:ah}{I G:List V}(h:C.ext a)(J:C.hd≠some a)(x:H a=some (.lst I)):Stt K C ρ σ (upd H a (.lst G)) n:=by refine S.onX (fun b o hb no=>(Je fun z=>no (by rw[z];exact h)).trans hb) (fun b hb=>?_) (fun b L hb _ _=>?_) ?_;by_cases e:b=a;rw[e];exact .inl ⟨_,JA⟩;rw[Je e];exact S.ext b hb;exact(Je fun z=>by rw[z,x]at hb;cases hb).trans hb;exact Hn.updR J (.inl ⟨_,x⟩) S.hnd
end
def Qh(C:Ctx)(q1 q2:ah)(v:En)(σ:St)(H:Hp)(l:En)(σ':St)(u:Hp):Prop:=∀a o,H a=some o->C.hd≠some a->a≠q1->a≠q2->¬OwnS v σ a->u a=some o/\¬OwnS l σ' a
theorem Keep.toL{C:Ctx}{q1 q2:ah}{v l:En}{σ σ':St}{H u:Hp}(k:Keep C v σ H l σ' u):Qh C q1 q2 v σ H l σ' u:=fun a o h x _ _ no=>k a o h x no
theorem Qh.trans{C:Ctx}{q1 q2:ah}{L v l:En}{σ u x:St}{H I N:Hp}(R:Qh C q1 q2 L σ H v u I)(U:Qh C q1 q2 v u I l x N):Qh C q1 q2 L σ H l x N:=fun a o h J n1 n2 no=>by obtain⟨S,G⟩:=R a o h J n1 n2 no;exact U a o S J n1 n2 G
def shB(N:DTE)(I:DTG)(t1 L:DTT)(jw js:Nat)(R S:Str)(F:List ae->List ae->En->Nat->Prop)(xs x:qD):En->Nat->Prop:=fun G n=>N G n fun t n1=>I t G fun o=>t1 o n1 fun b n2=>b=false/\L o n2 fun J C=>(J=true->x=[]) /\
 ∃(w:Str) (u:ae),o[jw]?=some (some (.val (.str w)))/\o[js]?=some (some (.val u))/\xs.length<1000000/\x.length<1000000/\((w=R/\F (xs++[u]) x o C)\/(w=S/\F xs (x++[u]) o C))
section
variable{X:Cx}{ec c1 c2 tgw:aO}{x xw xs':Str}{sr:List cN}{i jw js j2:Nat}{k1 k2:Str}{d1:DTE}{gw:DTG}{t1 t2:DTT}{is:List Nat}{Ih Ii HX bp1 bp2 sp1 sp2 sp3 sp4 sp5 np1 np2 np3 np4:Pos}
theorem zod(hk:k1≠k2)(hN:X.N.Nodup)(hi:X.N[i]?=some x)(hx:Vis X.env.scope x)(hxd:Ndb x)(hxc:Ncd x)
  (hw:X.N[jw]?=some xw) (hwv:Vis X.env.scope xw) (hwd:Ndb xw) (hwc:Ncd xw)
  (hsn:X.N[js]?=some xs') (hsv:Vis X.env.scope xs') (hsd:(xs' == ("__debug__":Str))=false) (hsc:(xs' == ("__classdict__":Str))=false) (hii:i∉is)
  (h1:DE X ec d1) (hg:DG X tgw is gw) (hs1:swapsWithSole [tgw] ec Ih.line X.env=pure false) (hw1:swappedStores [tgw] ec X.env=pure none) (ha1:(assignEach [tgw] X.env).map (·.2)=[assign tgw X.env])
  (Z:DT X c1 t1) (hc2:DT X c2 t2)
  (hs3:swapsWith (.Call (.Attribute (.Subscript (.Name x np1) (.Name xw np2) sp1) "append" sp2) [.Name xs' np3] [] sp3) none HX.line X.env=pure false)
  (E2:attributeBase (.Subscript (.Name x np1) (.Name xw np2) sp1) "append" X.env (eval (.Subscript (.Name x np1) (.Name xw np2) sp1) X.env)=eval (.Subscript (.Name x np1) (.Name xw np2) sp1) X.env)
  (Hk:((backTo sp3 (starEach [.Name xs' np3] X.env)).all (fun x=>!x.1)&&(backToKw sp3 (keywordEach [] X.env)).all (fun x=>x.1.isSome)
   && decide ([Expr.Name xs' np3].length+([]:List e8).length+(if ([]:List e8).isEmpty then 0 else 1)<30))=true) (E3:(sp2.endLine == sp3.line)=true) (hst:starEach [.Name xs' np3] X.env=[(false,eval (.Name xs' np3) X.env)]) :
  ∃tb,PSs X [.Assign [tgw] ec Ih,.If (.BoolOp .Or [c1,.BoolOp .And [c2,.Subscript (.Name x np4) (.Constant (.str k2) j2 sp4) sp5] bp1] bp2) sr [] Ii,.Expr (.Call (.Attribute (.Subscript (.Name x np1) (.Name xw np2) sp1) "append" sp2) [.Name xs' np3] [] sp3) HX] tb /\
   ∀(C:Ctx) (d q1 q2:ah) (Y:En) (σ:St) (H:Hp) (n:Nat) (xs ys:qD) (F:List ae->List ae->En->Nat->Prop) (D:Ends),Stt X.K C Y σ H n->ShL X.K C i k1 k2 d q1 q2 Y σ H xs ys->shB d1 gw t1 t2 jw js k1 k2 F xs ys Y n ->
    (∀U σ' H' n' us vs,F us vs U n'->Stt X.K C U σ' H' n'->ShL X.K C i k1 k2 d q1 q2 U σ' H' us vs->Qh C q1 q2 Y σ H U σ' H'->D.nx σ' H')->tb D σ H:=by
 obtain⟨te1,pe1,h1⟩:=h1;obtain⟨_,gb,pgb,hg⟩:=hg;obtain⟨tc1,pc1,Z⟩:=Z;obtain⟨tc2,pc2,hc2⟩:=hc2;have pix:∀{j:Nat} {p p' p'':Pos},PE X (.Subscript (.Name x p) (.Constant (.str k2) j p') p'') (tIx2 k1 k2 (tVar i) (tC (.str k2))):=fun {j p p' p''}=>ZU hk (Qg hi hx hxd hxc) U2 (by intro _ _;rfl);have ptx:=zh9 (pix (j:=j2) (p:=np4) (p':=sp4) (p'':=sp5)) (fun _=>rfl);have pif:=Zy (pos:=Ii) (PW.pt (zqu (pos:=bp2) pc1 (znD (pos:=bp2) (PW.pt (znE (pos:=bp1) pc2 (zjN (pos:=bp1) ptx)))))) (zjP (sts:=sr)) Vg;have pap:=zg9 (pos:=HX) (Uz gv i7 i8 zd6 (ZU (pos:=sp1) hk (Qg (pos:=np1) hi hx hxd hxc) (Qg (pos:=np2) hw hwv hwd hwc) (by intro _ _;rfl)) (J3 (Qg (pos:=np3) hsn hsv hsd hsc) Qy hst) E2 Hk E3 hst rfl) hs3;refine⟨_,J4 (U3 pe1 pgb hs1 hw1 ha1) (J4 pif (U6 pap)),?_⟩;intro C d q1 q2 Y σ H n xs ys F D S I r fin;refine h1 C Y σ H n _ _ S r fun t n1 v H1 r1 e1 hn1 qv=>?_;have S1:=S.on e1 hn1;have I1:=I.ext S.hx e1;refine hg C Y σ H1 n1 v t _ _ S1 qv r1 fun R L r2 S2 kp2 same _=>?_;have I2:=I1.on S.hx kp2 (same i hii);refine Z C R L H1 n1 _ _ S2 r2 fun b n2 H2 r3 e2 hn2=>?_;obtain⟨rfl,r3⟩:=r3;have S3:=S2.on e2 hn2;have I3:=I2.ext S.hx e2;refine iteF (hc2 C R L H2 n2 _ _ S3 r3 fun b2 n3 H3 r4 e3 hn3=>?_);obtain⟨hy,w,u,ew,eu,lx,ly,alt⟩:=r4;have S4:=S3.on e3 hn3;have G:=I3.ext S.hx e3;have kk:Keep C Y σ H R L H3:=((e1.keep.trans kp2).trans e2.keep).trans e3.keep;obtain⟨vw,sw,rw'⟩:=S4.val jw _ ew;have rw':=rw'.strI;subst rw';obtain⟨vu,su,ru⟩:=S4.val js _ eu;have kl:∀{q:ah} {o:HO},(q=q1\/q=q2)->Qh C q1 q2 Y σ H R L (upd H3 q o):=fun {q o} J a o' ha nh m1 m2 no=>by obtain⟨h1,h2⟩:=kk a o' ha nh no;exact⟨(Je fun z=>by rcases J with y|y <;> subst y <;> subst z <;> first|exact m1 rfl|exact m2 rfl).trans h1,h2⟩
 have next:zp1 (tBM X.K "list" zjJ (tIx2 k1 k2 (tVar i) (tVar jw)) (JS (tVar js) tNil)) D L H3:=by rcases alt with⟨rfl,f⟩|⟨rfl,f⟩;obtain⟨vs,J,rv⟩:=G.l1;exact⟨.ref d,G.at_,.str w,sw,d,.ref q1,.ref q2,rfl,G.dk,.inl ⟨rfl,.inl ⟨rfl,_,SqL.of J⟩,vu,su,q1,vs,vu,rfl,rfl,J,by rw[rv.length];exact au lx (by decide),fin _ _ _ _ _ _ f (zh2 S4 G.e1 G.n1 J) (G.app1 J ru) (kl (.inl rfl))⟩⟩;obtain⟨vs,J,rv⟩:=G.l2;exact⟨.ref d,G.at_,.str w,sw,d,.ref q1,.ref q2,rfl,G.dk,.inr ⟨rfl,.inl ⟨rfl,_,SqL.of J⟩,vu,su,q2,vs,vu,rfl,rfl,J,by rw[rv.length];exact au ly (by decide),fin _ _ _ _ _ _ f (zh2 S4 G.e2 G.n2 J) (G.app2 J ru) (kl (.inr rfl))⟩⟩
 cases b2 with
 | true =>obtain⟨ws,J,rv⟩:=G.l2;rw[hy rfl]at rv;cases rv;exact iteT ⟨.ref d,G.at_,d,.ref q1,.ref q2,rfl,G.dk,.inr ⟨rfl,false,.inl ⟨[],SqL.of J,rfl⟩,iteF next⟩⟩
 | false=>exact iteF (iteF next)
def shF(g:DTG)(B:(List ae->List ae->En->Nat->Prop)->List ae->List ae->En->Nat->Prop)(fin:List ae->List ae->En->Nat->Prop):List ae->List ae->List ae->En->Nat->Prop
 | [],xs,ys,ρ,n=>fin xs ys ρ n
 | t::ts,xs,ys,ρ,n=>g t ρ fun l=>B (shF g B fin ts) xs ys l n
theorem zqa{body:List cN}{tg iter:aO}{isf:List Nat}{di:DTA}{g:DTG}{pos:Pos}{B:(List ae->List ae->En->Nat->Prop)->List ae->List ae->En->Nat->Prop}(hp:kf (model X.prog X.w) X.A X.env X.xe)(hc:X.calm=true)(hi:DI X tg iter di)(hg:DG X tg isf g)(hii:i∉isf)
  (hb:∃tb,PSs X body tb/\∀(C:Ctx) (d q1 q2:ah) (G:En) (σ:St) (H:Hp) (n:Nat) (xs ys:qD) (F:List ae->List ae->En->Nat->Prop) (D:Ends),Stt X.K C G σ H n->ShL X.K C i k1 k2 d q1 q2 G σ H xs ys->B F xs ys G n ->
    (∀u σ' R Y us U,F us U u Y->Stt X.K C u σ' R Y->ShL X.K C i k1 k2 d q1 q2 u σ' R us U->Qh C q1 q2 G σ H u σ' R->D.nx σ' R)->tb D σ H)
  (hs:Fsi X iter:=by intro _;rfl) :
  ∃tf,PS X (.For tg iter body [] pos) tf/\∀(C:Ctx) (d q1 q2:ah) (G:En) (σ:St) (H:Hp) (n:Nat) (xs ys:qD) (F:List ae->List ae->En->Nat->Prop) (D:Ends),Stt X.K C G σ H n->ShL X.K C i k1 k2 d q1 q2 G σ H xs ys->(di G n fun ts n1=>shF g B F ts xs ys G n1) ->
    (∀u σ' R Y us U,F us U u Y->Stt X.K C u σ' R Y->ShL X.K C i k1 k2 d q1 q2 u σ' R us U->Qh C q1 q2 G σ H u σ' R->D.nx σ' R)->tf D σ H:=by
 obtain⟨wi,pi,hi⟩:=hi;obtain⟨_,gg,pg,hg⟩:=hg;obtain⟨tb,pb,hb⟩:=hb;refine⟨_,znF hp hc pi pg pb hs,fun C d q1 q2 G σ H n xs ys F D S I hd fin=>?_⟩;refine hi C G σ H n _ _ S hd fun ts n1 J H1 r e1 hn it=>?_;have S1:=S.on e1 hn;have I1:=I.ext S.hx e1;refine⟨fun j m N H2=>m=ts.length - j/\j<=ts.length/\∃v n2 us U,shF g B F (ts.drop j) us U v n2/\Stt X.K C v N H2 n2/\ShL X.K C i k1 k2 d q1 q2 v N H2 us U/\Qh C q1 q2 G σ H1 v N H2,⟨ts.length,by simp,b5 _,G,n1,xs,ys,by simpa using r,S1,I1,Keep.refl.toL⟩,?_⟩;rintro j m N H2 ⟨rfl,hi',v,n2,us,U,f2,S2,I2,Z⟩;have out:∀{a:ah},¬Own C G σ a->C.hd≠some a/\a≠q1/\a≠q2/\¬OwnS G σ a:=fun no=>⟨fun z=>no (.inl (S.hx _ z)),fun z=>no (by rw[z];exact .inl I.e1),fun z=>no (by rw[z];exact .inl I.e2),fun z=>no (.inr z)⟩;have itq:=it (Own C v N) H2 (fun a o ha no=>(Z a o ha (out no).1 (out no).2.1 (out no).2.2.1 (out no).2.2.2).1) (fun a o ha no z=>z.elim (fun z=>no (.inl z)) fun z=>(Z a o ha (out no).1 (out no).2.1 (out no).2.2.1 (out no).2.2.2).2 z) (fun a=>S2.dom);by_cases hlt:j<ts.length;have et:ts[j]?=some ts[j]:=aC hlt;obtain⟨go,yl⟩:=itq.1 j _ et;rw[cB hlt]at f2;refine .inr ⟨go,fun σ' R=>∃u Y us U,shF g B F (ts.drop (j+1)) us U u Y/\Stt X.K C u σ' R Y/\ShL X.K C i k1 k2 d q1 q2 u σ' R us U/\Qh C q1 q2 G σ H1 u σ' R,fun σ' R z=>⟨ts.length - (j+1),by lia,rfl,hlt,z⟩,fun x H3 hy=>?_⟩;obtain⟨sm,rx⟩:=yl x H3 hy;have S3:=S2.on sm.ext (S2.hnd.same sm);have I3:=I2.ext S2.hx sm.ext;have k3:Qh C q1 q2 G σ H1 v N H3:=Z.trans (Same.ext sm:ExtE C.hd H2 H3).keep.toL;refine hg C v N H3 n2 x _ _ _ S3 rx f2 fun ρ4 σ4 r4 S4 k4 same _=>?_;have I4:=I3.on S.hx k4 (same i hii);exact hb C d q1 q2 ρ4 σ4 H3 n2 us U _ _ S4 I4 r4 fun u σ' R Y us' vs' h' S' I' k'=>⟨u,Y,us',vs',h',S',I',(k3.trans k4.toL).trans k'⟩;have e:j=ts.length:=by lia
 subst e;rw[km]at f2;exact .inl ⟨itq.2,fin v N H2 n2 us U f2 S2 I2 (e1.keep.toL.trans Z)⟩
end
def QR(l:En):Bool:=l.all fun c=>match c with|some (.rdo _)=>false|_=>true
theorem zmy{l:En}(h:QR l=true){j:Nat}{u:List (Key×ae)}(e:l[j]?=some (some (.rdo u))):False:=by have:=bw.mp h _ (aX e);cases this
section
variable{K:qF}{C:Ctx}{ρ:En}{σ:St}{H H':Hp}{n i:Nat}{p a1 a2:ah}
theorem ztl(S:Stt K C ρ σ H n)(kp:∀a o,H a=some o->H' a=some o)(h0:H p=none)(Z:H a1=none)(h2:H a2=none)(m0:MutO (H' p))(m1:MutO (H' a1))(m2:MutO (H' a2))(Y:Hn K C.hd H' n) :
  Stt K ⟨C.hd,fun a=>C.ext a\/a=p\/a=a1\/a=a2⟩ (ρ.set i none) (σ.set i (some (.ref p))) H' n/\∀a o,H a=some o->OwnS (ρ.set i none) (σ.set i (some (.ref p))) a->OwnS ρ σ a:=by
 have nw:∀{a o},H a=some o->¬(a=p\/a=a1\/a=a2):=fun {a o} e z=>by rcases z with rfl|rfl|rfl;rw[h0]at e;cases e;rw[Z]at e;cases e;rw[h2]at e;cases e
 have at2:∀{j:Nat} {c:Cell} {v:V},(ρ.set i none)[j]?=some (some c)->σ[j]?=some (some v)->(σ.set i (some (.ref p)))[j]?=some (some v):=fun h R=>by rw[bQ (ip (QZ h).1)];exact R
 have L:∀{j:Nat} {c:Cell} {v:V},(ρ.set i none)[j]?=some (some c)->(σ.set i (some (.ref p)))[j]?=some (some v)->σ[j]?=some (some v):=fun h R=>by rw[bQ (ip (QZ h).1)]at R;exact R
 have os:∀a,OwnS (ρ.set i none) (σ.set i (some (.ref p))) a->OwnS ρ σ a:=fun a ⟨j,c,m,q1,q2⟩=>⟨j,c,m,(QZ q1).2,L q1 q2⟩;have sub:∀a o,H a=some o->Own ⟨C.hd,fun a=>C.ext a\/a=p\/a=a1\/a=a2⟩ (ρ.set i none) (σ.set i (some (.ref p))) a->Own C ρ σ a:=fun a o e z=>z.elim (fun z=>z.elim .inl fun z=>(nw e z).elim) fun z=>.inr (os a z);have N:∀a o,¬Own C ρ σ a->H a=some o->H' a=some o:=fun a o _ ha=>kp a o ha;refine⟨{
  len:=by rw[kS,kS];exact S.len
  val:=fun j I u=>by obtain⟨w,q1,q2⟩:=S.val j _ (QZ u).2;exact⟨w,at2 u q1,q2.mono sub N⟩
  own:=fun j I u=>by obtain⟨a,J,q1,q2,x,G⟩:=S.own j I (QZ u).2;exact⟨a,J,at2 u q1,kp a _ q2,x.mono sub N,fun z=>z.elim G (nw q2)⟩
  dct:=fun j I u=>by obtain⟨a,J,q1,q2,x,G⟩:=S.dct j I (QZ u).2;exact⟨a,J,at2 u q1,kp a _ q2,x.mono sub N,fun z=>z.elim G (nw q2)⟩
  rdo:=fun j I u=>by obtain⟨a,J,q1,q2,x,G,U⟩:=S.rdo j I (QZ u).2;exact⟨a,J,at2 u q1,kp a _ q2,x.mono sub N,.inl G,U⟩
  dtt:=fun j I u=>by obtain⟨a,J,ep,q1,q2,x,G⟩:=S.dtt j I (QZ u).2;exact⟨a,J,ep,at2 u q1,kp a _ q2,x.mono sub N,fun z=>z.elim G (nw q2)⟩
  dif:=fun j k c1 c2 a m1 m2 q1 q2 x G=>S.dif j k c1 c2 a m1 m2 (QZ q1).2 (QZ q2).2 (L q1 x) (L q2 G)
  hnd:=Y
  ext:=fun a z=>by rcases z with z|rfl|rfl|rfl;rcases S.ext a z with⟨xs,q⟩|⟨xs,q⟩|⟨b,q⟩;exact .inl ⟨xs,kp a _ q⟩;exact .inr (.inl ⟨xs,kp a _ q⟩);exact .inr (.inr ⟨b,kp a _ q⟩);exact m0;exact m1;exact m2
  hx:=fun a z=>.inl (S.hx a z) },fun a _ _ z=>os a z⟩
theorem zp_{E:ah->Prop}(S:Stt K ⟨C.hd,fun a=>C.ext a\/E a⟩ ρ σ H n)(r:QR ρ=true)(hx:∀a,C.hd=some a->C.ext a):Stt K C ρ σ H n:=by
 have sub:∀a o,H a=some o->Own C ρ σ a->Own ⟨C.hd,fun a=>C.ext a\/E a⟩ ρ σ a:=fun a o _ z=>z.elim (fun z=>.inl (.inl z)) .inr;have J:∀a o,¬Own ⟨C.hd,fun a=>C.ext a\/E a⟩ ρ σ a->H a=some o->H a=some o:=fun a o _ ha=>ha;exact {
  len:=S.len
  val:=fun j v u=>by obtain⟨w,q1,q2⟩:=S.val j _ u;exact⟨w,q1,q2.mono sub J⟩
  own:=fun j v u=>by obtain⟨a,I,q1,q2,x,G⟩:=S.own j v u;exact⟨a,I,q1,q2,x.mono sub J,fun z=>G (.inl z)⟩
  dct:=fun j v u=>by obtain⟨a,I,q1,q2,x,G⟩:=S.dct j v u;exact⟨a,I,q1,q2,x.mono sub J,fun z=>G (.inl z)⟩
  rdo:=fun j v u=>(zmy r u).elim
  dtt:=fun j v u=>by obtain⟨a,I,L,q1,q2,x,G⟩:=S.dtt j v u;exact⟨a,I,L,q1,q2,x.mono sub J,fun z=>G (.inl z)⟩
  dif:=S.dif
  hnd:=S.hnd
  ext:=fun a z=>S.ext a (.inl z)
  hx:=hx }
end
section
variable{X:Cx}{i jb kd:Nat}{k1 k2:Str}{tf tr:TS}{dr:DTS}{dF:(List ae->List ae->En->Nat->Prop)->En->Nat->Prop}
def sSh(i jb kd:Nat)(dF:(List ae->List ae->En->Nat->Prop)->En->Nat->Prop)(dr:DTS)  :DTS:=fun D x n=>i<x.length /\
 dF (fun us C o n2=>QR o=true/\∃t,o[jb]?=some (some (.val t))/\dr D (o.set kd (some (.val (.tuple [t,.tuple us,.tuple C])))) n2) (x.set i none) n
theorem zkd{o:En}{k:Nat}{t:ae}(h:QR o=true):QR (o.set k (some (.val t)))=true:=bw.mpr fun c hc=>by rcases List.mem_or_eq_of_mem_set hc with z|rfl;exact bw.mp h c z;rfl
def UY(K:qF)(u:TE):TE:=tCB (fun xs H Q=>∃p o,xs=[.ref p]/\((SqL K H p o/\∀l,H l=none->Q (.ref l) (upd H l (.tup o)))\/(SqT K H p o/\Q (.ref p) H))) (JS u tNil)
theorem zp9
  (hF:∀(C:Ctx) (d q1 q2:ah) (v:En) (σ:St) (H:Hp) (n:Nat) (F:List ae->List ae->En->Nat->Prop) (D:Ends),Stt X.K C v σ H n->ShL X.K C i k1 k2 d q1 q2 v σ H [] []->dF F v n ->
    (∀G σ' H' n' us vs,F us vs G n'->Stt X.K C G σ' H' n'->ShL X.K C i k1 k2 d q1 q2 G σ' H' us vs->Qh C q1 q2 v σ H G σ' H'->D.nx σ' H')->tf D σ H)
  (hr:∀(C:Ctx) (v:En) (σ:St) (H:Hp) (n:Nat) (D:Ends) (Y:JO),Stt X.K C v σ H n->dr Y v n->Good X C v σ H D Y->tr D σ H)
  (C:Ctx) (v:En) (σ:St) (H:Hp) (n:Nat) (D:Ends) (Y:JO) (S:Stt X.K C v σ H n) (hd:sSh i jb kd dF dr Y v n) (g:Good X C v σ H D Y) :
  tSeq (tAsg (tTwo k1 k2 (tLst tNil) (tLst tNil)) (QH i)) (tSeq tf (tSeq (tAsg (tTup (JS (tVar jb) (JS (UY X.K (tIx2 k1 k2 (tVar i) (tC (.str k1)))) (JS (UY X.K (tIx2 k1 k2 (tVar i) (tC (.str k2)))) tNil)))) (QH kd)) tr)) D σ H:=by
 obtain⟨hl,hd⟩:=hd;rw[S.len]at hl;intro p hp;refine⟨b5 _,fun a1 h1=>⟨b5 _,fun a2 h2=>?_⟩⟩;have n1:a1≠p:=fun z=>by rw[z,JA]at h1;cases h1
 have U:a2≠a1:=fun z=>by rw[z,JA]at h2;cases h2
 have R:upd H p (.dK []) a2=none:=(Je U).symm.trans h2;have n2:a2≠p:=fun z=>by rw[z,JA]at R;cases R
 have g1:H a1=none:=(Je n1).symm.trans h1;have g2:H a2=none:=(Je n2).symm.trans R;refine⟨(Je n2.symm).trans ((Je n1.symm).trans JA),?_⟩;generalize hH:upd (upd (upd (upd H p (.dK [])) a1 (.lst [])) a2 (.lst [])) p (.dK [(.inr k1,.ref a1),(.inr k2,.ref a2)])=H4;have e0:H4 p=some (.dK [(.inr k1,.ref a1),(.inr k2,.ref a2)]):=by rw[<- hH];exact JA
 have e1:H4 a1=some (.lst []):=by rw[<- hH];exact(Je n1).trans ((Je U.symm).trans JA)
 have e2:H4 a2=some (.lst []):=by rw[<- hH];exact(Je n2).trans JA
 have kp:∀a o,H a=some o->H4 a=some o:=fun a o e=>by
  have m0:a≠p:=fun z=>by rw[z,hp]at e;cases e
  have m1:a≠a1:=fun z=>by rw[z,g1]at e;cases e
  have m2:a≠a2:=fun z=>by rw[z,g2]at e;cases e
  rw[<- hH];exact(Je m0).trans ((Je m2).trans ((Je m1).trans ((Je m0).trans e)))
 have N:∀{a},H a=none->C.hd≠some a:=fun e z=>S.dom (.inl (S.hx _ z)) e;obtain⟨S4,os⟩:=ztl (i:=i) S kp hp g1 g2 (by rw[e0];exact .inr (.inl ⟨_,rfl⟩)) (by rw[e1];exact .inl ⟨_,rfl⟩) (by rw[e2];exact .inl ⟨_,rfl⟩) (S.hnd.same kp);refine hF _ p a1 a2 _ _ H4 n _ _ S4 ⟨by rw[fF];simp[hl],e0,.inr (.inl rfl),.inr (.inr (.inl rfl)),.inr (.inr (.inr rfl)),N hp,N g1,N g2,U.symm,⟨[],e1,.nil⟩,⟨[],e2,.nil⟩⟩ hd ?_;rintro ρ2 σ2 Z m us vs ⟨nr,t,et,hdr⟩ S2 I k2';generalize hC:(⟨C.hd,fun a=>C.ext a\/a=p\/a=a1\/a=a2⟩:Ctx)=C' at S2 I k2';have ch:C'.hd=C.hd:=by rw[<- hC]
 obtain⟨vb,sb,rb⟩:=S2.val jb t et;obtain⟨v1,hq1,r1⟩:=I.l1;refine⟨vb,sb,.ref p,I.at_,p,.ref a1,.ref a2,rfl,I.dk,.inl ⟨rfl,a1,v1,rfl,.inl ⟨SqL.of hq1,fun l1 L=>?_⟩⟩⟩;have x1:ExtE C'.hd Z (upd Z l1 (.tup v1)):=ExtE.new L;have S3:=S2.on x1 (S2.hnd.same (JP L));have I3:=I.ext S2.hx x1;obtain⟨v2,hq2,r2⟩:=I3.l2;refine⟨.ref p,I3.at_,p,.ref a1,.ref a2,rfl,I3.dk,.inr ⟨rfl,a2,v2,rfl,.inl ⟨SqL.of hq2,fun l2 x=>?_⟩⟩⟩;have x2:ExtE C'.hd (upd Z l1 (.tup v1)) (upd (upd Z l1 (.tup v1)) l2 (.tup v2)):=ExtE.new x;have S5:=S3.on x2 (S3.hnd.same (JP x));refine⟨by show 3<=_;decide,fun l3 J=>?_⟩;have x3:ExtE C'.hd (upd (upd Z l1 (.tup v1)) l2 (.tup v2)) (upd (upd (upd Z l1 (.tup v1)) l2 (.tup v2)) l3 (.tup [vb,.ref l1,.ref l2])):=ExtE.new J;have S6:=S5.on x3 (S5.hnd.same (JP J));have rb':=x2.rep S2.hx (x1.rep S2.hx rb);have r1':=x2.rep S2.hx (Rep.newT (S2.free L) L r1);have r2':=Rep.newT (S3.free x) x r2;have S7:=S6.put (i:=kd) (Rep.newT (S5.free J) J (.cons rb' (.cons r1' (.cons r2' .nil))));subst hC;have S8:=zp_ S7 (zkd nr) S.hx;refine hr C _ _ _ m D Y S8 hdr (g.on fun a o ha N no=>?_);have m0:a≠p:=fun z=>by rw[z,hp]at ha;cases ha
 have m1:a≠a1:=fun z=>by rw[z,g1]at ha;cases ha
 have m2:a≠a2:=fun z=>by rw[z,g2]at ha;cases ha
 obtain⟨y1,y2⟩:=k2' a o (kp a o ha) N m1 m2 fun z=>no (os a o ha z);exact⟨x3 _ _ (x2 _ _ (x1 _ _ y1 N) N) N,fun z=>y2 (Zi z)⟩
end
section
variable{X:Cx}{x xb xd:Str}{i jb kd j1 j2:Nat}{k1 k2:Str}{rest:List cN}{dr:DTS}{stF:cN}{tf tr:TS}{e1 e2 f1 f2:aO}{t1 t2 u1 u2:TE}{kt:Nat}{px cp1 cp2 dp sp1 pd pb tp1 tp2 up1 up2 HL sp3:Pos}
theorem zoc(hk:k1≠k2)(hN:X.N.Nodup)(hi:X.N[i]?=some x)(Y:Loc X.env.scope x)
  (hb:X.N[jb]?=some xb) (J:Vis X.env.scope xb) (R:Ndb xb) (I:Ncd xb)
  (hd:X.N[kd]?=some xd) (Z:Loc X.env.scope xd) (v:X.mg "tuple" = none) (G:Gl X "tuple")
  (U:Fnl X x) (hfd:Fnl X xd)
  (S:swapsWith (.Dict [some (.Constant (.str k1) j1 cp1),some (.Constant (.str k2) j2 cp2)] [e1,e2] dp) (some (.Name x px)) sp1.line X.env=pure false)
  (L:swapsWith (.Tuple [.Name xb pb,.Call (.Name "tuple" tp1) [f1] [] up1,.Call (.Name "tuple" tp2) [f2] [] up2] kt HL) (some (.Name xd pd)) sp3.line X.env=pure false)
  (HY:starEach [f1] X.env=[(false,eval f1 X.env)]) (HZ:starEach [f2] X.env=[(false,eval f2 X.env)])
  (h1:PE X e1 t1) (h2:PE X e2 t2) (g1:PE X f1 u1) (g2:PE X f2 u2) (pf:PS X stF tf) (pr:PSs X rest tr) :
  PSs X (.Assign [.Name x px] (.Dict [some (.Constant (.str k1) j1 cp1),some (.Constant (.str k2) j2 cp2)] [e1,e2] dp) sp1::stF::.Assign [.Name xd pd] (.Tuple [.Name xb pb,.Call (.Name "tuple" tp1) [f1] [] up1,.Call (.Name "tuple" tp2) [f2] [] up2] kt HL) sp3::rest)
   (tSeq (tAsg (tTwo k1 k2 t1 t2) (QH i)) (tSeq tf (tSeq (tAsg (tTup (JS (tVar jb) (JS (UY X.K u1) (JS (UY X.K u2) tNil)))) (QH kd)) tr))):=by
 have p1:=QD (pos:=sp1) hN hi Y (zqD (pos:=dp) (q1:=cp1) (q2:=cp2) (j1:=j1) (j2:=j2) hk h1 h2) S U;have c1:PE X (.Call (.Name "tuple" tp1) [f1] [] up1) (UY X.K u1):=Zx Yg v Qz (JX g1 Qo HY) G;have c2:PE X (.Call (.Name "tuple" tp2) [f2] [] up2) (UY X.K u2):=Zx Yg v Qz (JX g2 Qo HZ) G;have p3:=QD (pos:=sp3) (pos':=pd) hN hd Z (zjY (pos:=HL) (x1:=kt) (JX (Qg (pos:=pb) hb J R I) (JX c1 (JX c2 Qo rfl) rfl) rfl)) L hfd;exact J4 p1 (J4 pf (J4 p3 pr))
variable{lp1 lp2 np1 np2 vp1 vp2 sq1 sq2 fp:Pos}{j3 j4:Nat}{tg iter:aO}{body:List cN}{isf:List Nat}{di:DTA}{g:DTG}{B:(List ae->List ae->En->Nat->Prop)->List ae->List ae->En->Nat->Prop}
theorem zi6(hp:kf (model X.prog X.w) X.A X.env X.xe)(hc:X.calm=true)(hk:k1≠k2)(hN:X.N.Nodup)(hi:X.N[i]?=some x)(hxl:Loc X.env.scope x)(J:Vis X.env.scope x)(Y:Ndb x)(Z:Ncd x)
  (hb:X.N[jb]?=some xb) (hbv:Vis X.env.scope xb) (hbd:Ndb xb) (hbc:Ncd xb)
  (hd:X.N[kd]?=some xd) (hdl:Loc X.env.scope xd) (hmt:X.mg "tuple" = none) (hgt:Gl X "tuple")
  (hfx:Fnl X x) (hfd:Fnl X xd)
  (hs1:swapsWith (.Dict [some (.Constant (.str k1) j1 cp1),some (.Constant (.str k2) j2 cp2)] [e1,e2] dp) (some (.Name x px)) sp1.line X.env=pure false)
  (hs3:swapsWith (.Tuple [.Name xb pb,.Call (.Name "tuple" tp1) [f1] [] up1,.Call (.Name "tuple" tp2) [f2] [] up2] kt HL) (some (.Name xd pd)) sp3.line X.env=pure false)
  (HY:starEach [f1] X.env=[(false,eval f1 X.env)])
  (HZ:starEach [f2] X.env=[(false,eval f2 X.env)])
  (U:e1=.List [] lp1) (R:e2=.List [] lp2) (hf1:f1=.Subscript (.Name x np1) (.Constant (.str k1) j3 vp1) sq1) (hf2:f2=.Subscript (.Name x np2) (.Constant (.str k2) j4 vp2) sq2)
  (hit:DI X tg iter di) (hg:DG X tg isf g) (hii:i∉isf)
  (HD:∃tb,PSs X body tb/\∀(C:Ctx) (d q1 q2:ah) (v:En) (σ:St) (H:Hp) (n:Nat) (xs ys:qD) (F:List ae->List ae->En->Nat->Prop) (D:Ends),Stt X.K C v σ H n->ShL X.K C i k1 k2 d q1 q2 v σ H xs ys->B F xs ys v n ->
    (∀G σ' H' n' us vs,F us vs G n'->Stt X.K C G σ' H' n'->ShL X.K C i k1 k2 d q1 q2 G σ' H' us vs->Qh C q1 q2 v σ H G σ' H'->D.nx σ' H')->tb D σ H)
  (hr:DSs X rest dr) (hs:Fsi X iter:=by intro _;rfl) :
  DSs X (.Assign [.Name x px] (.Dict [some (.Constant (.str k1) j1 cp1),some (.Constant (.str k2) j2 cp2)] [e1,e2] dp) sp1::.For tg iter body [] fp::.Assign [.Name xd pd] (.Tuple [.Name xb pb,.Call (.Name "tuple" tp1) [f1] [] up1,.Call (.Name "tuple" tp2) [f2] [] up2] kt HL) sp3::rest)
   (sSh i jb kd (fun F v n=>di v n fun ts n1=>shF g B F ts [] [] v n1) dr):=by
 obtain⟨tf,pf,hF⟩:=zqa (pos:=fp) hp hc hit hg hii HD hs;obtain⟨tr,pr,hr⟩:=hr;have q1:PE X f1 (tIx2 k1 k2 (tVar i) (tC (.str k1))):=hf1▸ZU hk (Qg hi J Y Z) U2 (by intro _ _;rfl);have q2:PE X f2 (tIx2 k1 k2 (tVar i) (tC (.str k2))):=hf2▸ZU hk (Qg hi J Y Z) U2 (by intro _ _;rfl);have l1:PE X e1 (tLst tNil):=U▸Vf Qo;have l2:PE X e2 (tLst tNil):=R▸Vf Qo;clear U R hf1 hf2;have pp:=zoc (rest:=rest) (stF:=.For tg iter body [] fp) hk hN hi hxl hb hbv hbd hbc hd hdl hmt hgt hfx hfd hs1 hs3 HY HZ l1 l2 q1 q2 pf pr;exact⟨_,pp,zp9 (fun C d q1 q2 v σ H n F D S I hd fin=>hF C d q1 q2 v σ H n [] [] F D S I hd fin) hr⟩
end
end L2
namespace Bd
open PySem L2
def top(i:Nat):cN:=dS.main.body.getD i (.Pass ⟨0,0,0,0⟩)
abbrev DQ(Z:ZZ)(x:Str)(i:Nat)(ps:List Str):Prop:=Dq Z.K Z.mg x (top i) ps
abbrev QF(Z:ZZ)(x:Str)(i:Nat)(ps:List Str)(k m:Nat)(g:GD):Prop:=FQ Z x (top i) ps k (spD Z.K m g)
set_option maxHeartbeats 4000000
local macro_rules | `(tactic| walk_at "S") => `(tactic| first | with_reducible refine ziI ?_ | with_reducible refine Stp.go ?_ | with_reducible refine j_all (by with_unfolding_all rfl) ?_ | with_reducible refine j_any (by with_unfolding_all rfl) ?_ | with_reducible refine znP (by with_unfolding_all rfl) ?_ | with_reducible refine znQ (by with_unfolding_all rfl) ?_ | with_reducible refine ziq (by with_unfolding_all rfl) ?_ | with_reducible refine zin (by with_unfolding_all rfl) ?_)
set_option hygiene false in
local macro_rules | `(tactic| walk_at "K") => `(tactic| first | walk_at "S" | with_reducible refine zrS (fun hc => ?_) (fun hc => ?_) | with_reducible refine zuG (fun hc => ?_) (fun hc => ?_) | with_reducible refine And.intro ?_ ?_)
set_option hygiene false in
local macro_rules | `(tactic| wp_walk using $ts:term,*) => `(tactic| repeat' (first $[| with_reducible refine $ts:term]* | walk_at "K"))
local macro_rules | `(tactic| wp_walk) => `(tactic| repeat' walk_at "K")
structure Txt(mg:qM):Prop where
 isi:mg "isinstance" = none
 int:mg "int" = none
 boo:mg "bool" = none
 tup:mg "tuple" = none
 len:mg "len" = none
 min:mg "min" = none
 max:mg "max" = none
 str:mg "str" = none
 rep:mg "repr" = none
 all:mg "all" = none
 any:mg "any" = none
 ran:mg "range" = none
 sum:mg "sum" = none
 srt:mg "sorted" = none
 lst:mg "list" = none
 abs:mg "abs" = none
 zip:mg "zip" = none
 dct:mg "dict" = none
 rev:mg "reversed" = none
 enu:mg "enumerate" = none
 vae:mg "ValueError" = none
section
open PySem.W PyProof.Rows
def pw:aI:=dS
def zub:cN->Bool
 | .FunctionDef ..=>true
 | .ClassDef ..=>true
 | .Assign [.Name x _] _ _=>!(x == aa "__name__")
 | _=>false
def qv:aI:={ pw with main:={ pw.main with body:=pw.main.body.filter zub } }
theorem zok:recsOf qv=(pw.main.body.filter ZQ).map recD:=by kernel_rfl
theorem znM{i:Nat}(h:ZQ (top i)=true):recD (top i)∈recsOf qv:=by rw[zok];exact List.mem_map_of_mem (eC.mpr ⟨getD_mem h,h⟩)
theorem dqG{i:Nat}{x:Str}{ps:List Str}{l:oa->Option af}{mg u:qM}{h:bt}(T:gU qv (looseW qv []) l mg u h)(hb:BndA x (top i) ps:=by first|exact bnd1 fun _ _ _ _ _ _ _=>rfl|exact bnd2 fun _ _ _ _ _ _ _ _=>rfl|exact bnd3 fun _ _ _ _ _ _ _ _ _=>rfl|exact bnd4 fun _ _ _ _ _ _ _ _ _ _=>rfl)(v:ZQ (top i)=true:=by kernel_rfl)(o:defName (top i)=x:=by kernel_rfl):Dq (Qj h) mg x (top i) ps:=dq_g T (znM v) o hb
def zse:List Str:=[aa "isinstance",aa "int",aa "bool",aa "tuple",aa "len",aa "min",aa "max",aa "str",aa "repr",aa "all",aa "any",aa "range",aa "sum",aa "sorted",aa "list",aa "abs",aa "zip",aa "dict",aa "reversed",aa "enumerate",aa "ValueError"]
def zsf(x:Str):Bool:=!startupNames.contains x&&!(looseW qv []).contains x&&!((recsOf qv).map (·.name)).contains x&&!((litsOf qv).map (·.1)).contains x&&!((clssOf qv (looseW qv [])).map (·.name)).contains x
theorem zpf:zse.all zsf=true:=by kernel_rfl
theorem zpg{l:oa->Option af}{mg o:qM}{h:bt}(T:gU qv (looseW qv []) l mg o h){x:Str}(m:x∈zse):mg x=none:=by have e:=bw.mp zpf x m;unfold zsf at e;simp only[aZ,eJ,List.contains_eq_mem,decide_eq_false_iff_not]at e;obtain⟨⟨⟨⟨a,b⟩,c⟩,d⟩,f⟩:=e;exact T.free x a b c d f
theorem zpW{l:oa->Option af}{mg o:qM}{h:bt}(T:gU qv (looseW qv []) l mg o h):Txt mg:=by constructor <;> exact zpg T (List.contains_iff_mem.mp (by kernel_rfl))
theorem zdx:wI qv (aa "MOST_FIGURES")=some (.int 20):=by kernel_rfl
theorem zoe:aG.wellSaid=true:=by kernel_rfl
noncomputable abbrev rTop (v:aT) (os:cM):=Y9 treeTable pw v 11 ((dq v.params).nsMap mainGlobals "__annotations__") 20000 (zpE v os) (topStub pw)
abbrev znC(v:aT)(os:cM):Prop:=(rTop v os).map (fun s=>(ZG pw (dq v.params) s.abs,(uX gV) s.abs,s.abs.heap.bltView,plainSeenD qv [] s.abs,clsSeenW qv [] s.abs,pinSeenD qv (drecsOf qv) s.abs))=some (true,(uY gV) v,bltViewBooted,plainGoodD qv [],clsGoodW qv [],pinGoodD (drecsOf qv))
abbrev znB(v:aT)(os:cM):Prop:=(rTop v os).map (fun s=>seen ((recsOf qv).map (·.name)) (ownsOf qv) [] { s.abs with gens:=#[] })=some (expectedOf qv)
abbrev zny(v:aT)(os:cM):Prop:=(rTop v os).map (fun s=>plainSeenE qv (looseW qv []) s.abs)=some (plainGoodE qv (looseW qv []))
abbrev znx(v:aT)(os:cM):Prop:=(rTop v os).map (fun s=>wideSeen qv s.abs)=some (wideGood qv)
abbrev znA(v:aT)(os:cM):Prop:=(rTop v os).map (fun s=>(s.abs.heap.keysOk (looseW qv []) ((recsOf qv).map (·.name)) ((litsOf qv).map (·.1)) ((clssOf qv (looseW qv [])).map (·.name))&&s.abs.heap.accountedOkI (importedModules pw.main.body)&&s.abs.heap.isNs mainGlobals&&s.abs.heap.isNs builtinsNs&&tablesOk qv s.abs.heap&&(fun s=>xlAt qv [] s&&recOk (m4 aG.row.toRowW) s) s.abs&&(if true then s.abs.gens.size == 0 else !leftWithCleanup s.abs.gens)))=some true
abbrev znz(v:aT)(os:cM):Prop:=(rTop v os).map (fun s=>tabsOk qv s.abs)=some true
abbrev zjI(v:aT)(os:cM):Prop:=(rTop v os).map (fun s=>(ZG pw (dq v.params) s.abs,openSeen qv [] (importedModules pw.main.body) (fun s=>xlAt qv [] s&&recOk (m4 aG.row.toRowW) s) true s.abs,(uX gV) s.abs))=some (true,openGood qv [],(uY gV) v)
theorem zrk(w:aT)(os:cM):znC (w.withFollow "special-get-raises" false) os:=by kernel_rfl
theorem zrj(w:aT)(os:cM):znB (w.withFollow "special-get-raises" false) os:=by kernel_rfl
theorem zrg(w:aT)(os:cM):zny (w.withFollow "special-get-raises" false) os:=by kernel_rfl
theorem zrf(w:aT)(os:cM):znx (w.withFollow "special-get-raises" false) os:=by kernel_rfl
theorem zri(w:aT)(os:cM):znA (w.withFollow "special-get-raises" false) os:=by kernel_rfl
theorem zrh(w:aT)(os:cM):znz (w.withFollow "special-get-raises" false) os:=by kernel_rfl
theorem zua(w:aT)(os:cM):zjI (w.withFollow "special-get-raises" false) os:=zq9 (zrk w os) (zrj w os) (zri w os) (zrh w os) (zrg w os) (zrf w os)
theorem zre(w:aT)(os:cM):znC (w.withFollow "special-get-raises" true) os:=by kernel_rfl
theorem zrd(w:aT)(os:cM):znB (w.withFollow "special-get-raises" true) os:=by kernel_rfl
theorem zra(w:aT)(os:cM):zny (w.withFollow "special-get-raises" true) os:=by kernel_rfl
theorem zq_(w:aT)(os:cM):znx (w.withFollow "special-get-raises" true) os:=by kernel_rfl
theorem zrc(w:aT)(os:cM):znA (w.withFollow "special-get-raises" true) os:=by kernel_rfl
theorem zrb(w:aT)(os:cM):znz (w.withFollow "special-get-raises" true) os:=by kernel_rfl
theorem zt_(w:aT)(os:cM):zjI (w.withFollow "special-get-raises" true) os:=zq9 (zre w os) (zrd w os) (zrc w os) (zrb w os) (zra w os) (zq_ w os)
theorem zoS:LeftO pw qv [] (fun s=>xlAt qv [] s&&recOk (m4 aG.row.toRowW) s) (uX gV) (uY gV) 20000:=zki (by kernel_rfl) (by decide) (fun _=>rfl) (fun w=>zjE (w:=w) (P:=fun w=>∀os:cM,zjI w os) "special-get-raises" zua zt_)
end
section
variable{P:aI}{w:aT}{K:qF}{mg:qM}{base:bt}{Z:ZZ}
theorem zlx{x:Int}(h:0<=x):fJ x 1=x % 2:=by unfold fJ;rw[decide_eq_true h];show((x.toNat &&& 1:Nat):Int)=x % 2;rw[mn];omega
inductive VJ:List ae->Nat->(ae->Nat->Prop)->Prop
 | c {bits i h:Int} {n:Nat} {R:qN} (b0:0<=bits) (b1:bits<=64) (B:IsBk bits i h) (r:R (.str (mkS (begL bits i h))) n):VJ [.int bits,.tuple [.int i,.int h]] n R
def zdX(Z:ZZ):Prop:=QF Z "beginning" 1 ["bits","block"] 1 2 VJ
theorem zf8(D:DQ Z "beginning" 1 ["bits","block"]) (T:Txt Z.mg):zdX Z:=by
 refine' okN ["bits","block","begin","height","figures"] D fun hr=>⟨_,(Jb (QV (Jk 1) (JK rfl (Jh (dgv 2 (ndB rfl)) (Jh (dgv 3 (ndB rfl)) JJ)))) (Jb (Z9 (Vs (i:=4) (ndB rfl) rfl (dP rfl) (own:=["at"]) (capt:=[2,0]) rfl (JD.of rfl) (dil (VG T.ran (QT (dlv 0) (dlv 3)))) (fun _ _ _ _=>(dgv 0 (ndB rfl))) (by decide) (fun _ _ _ _=>Va) (fun _ _ _ _=>(zfE (JI (dl (zsp (dl (zlb (dlv 1) (dl (QT (dl (QT (dlv 2) dli)) (dlv 0))))) dli))) Jo Jo)))) (Jc (Jg (JR (dl (Y4 (dl Jo) (Jk 4))) (dl (zfE (Jp Uy gp_B (dlv 3) dli (Jj _)) Jo Jo))))))),?_⟩;intro ts n R hl h;obtain @⟨bits,i,g,n,R,b0,b1,B,h⟩:=h;have g0:0<=g:=B.1;have g1:g<=bits:=B.2.1;have bd:=B.bounds b0;wp_walk;omega;omega;refine Qr (cs:=cg (bits - g).toNat) (D:=fun j:Nat=>.int (0+(j:Int))) (fun j:Nat=>.str (if (i / 2 ^ (bits - 1 - (0+(j:Int))).toNat) % 2=0 then aa "0" else aa "1")) (by rw[fI];omega) ?_ ?_
 ·intro j v U X2 u;have v:=dz.mp v;have nn:0<=i / 2 ^ (bits - 1 - (0+(j:Int))).toNat:=eG bd.1 (by have:=Qp (bits - 1 - (0+(j:Int))).toNat;omega);wp_walk;omega;rw[zlx nn]at hc;rw[if_neg (by omega)]at u;exact u;rw[zlx nn]at hc;rw[if_pos (by omega)]at u;exact u
 ·wp_walk;refine⟨(cg (bits - g).toNat).map fun j:Nat=>(if (i / 2 ^ (bits - 1 - (0+(j:Int))).toNat) % 2=0 then aa "0" else aa "1"),by rw[cx];rfl,joinOk_of (k:=1) (fun s G=>?_) (by rw[aJ,fI];show(bits - g).toNat*1<=_;omega),?_⟩;obtain⟨j,_,rfl⟩:=aY.mp G;split <;> decide +kernel;rw[join_nil];have e:((((cg (bits - g).toNat).map fun j:Nat=>(if (i / 2 ^ (bits - 1 - (0+(j:Int))).toNat) % 2=0 then aa "0" else aa "1")).map (·.cps.toList)).flatten)=figL (bits - g).toNat (i / 2 ^ g.toNat):=by
   rw[cx];have e2:∀(l:List Nat),(∀j∈l,j<(bits - g).toNat)->(l.map ((fun x:Str=>x.cps.toList)∘fun j:Nat=>(if (i / 2 ^ (bits - 1 - (0+(j:Int))).toNat) % 2=0 then aa "0" else aa "1"))).flatten=l.map fun j=>48+(((i / 2 ^ g.toNat) / 2 ^ ((bits - g).toNat - 1 - j)) % 2).toNat:=by
    intro l;induction l with
    | nil=>intro _;rfl
    | cons j r S =>
     intro v;have Y:=v j (by simp);rw[aK,gJ,aK,S fun q I=>v q (by simp[I])];have J:(i / 2 ^ g.toNat) / 2 ^ ((bits - g).toNat - 1 - j)=i / 2 ^ (bits - 1 - (0+(j:Int))).toNat:=by rw[kF (by have:=Qp g.toNat;omega),<- g6,show g.toNat+((bits - g).toNat - 1 - j)=(bits - 1 - (0+(j:Int))).toNat by omega]
     rw[J];show(if (i / 2 ^ (bits - 1 - (0+(j:Int))).toNat) % 2=0 then aa "0" else aa "1").cps.toList++_=_;by_cases z:(i / 2 ^ (bits - 1 - (0+(j:Int))).toNat) % 2=0;rw[if_pos z,z,s_0,JW];rfl;have C:(i / 2 ^ (bits - 1 - (0+(j:Int))).toNat) % 2=1:=by omega
     rw[if_neg z,C,s_1,JW];rfl
   exact e2 _ fun j v=>dz.mp v
  rw[e];unfold begL at h;wp_walk;rw[zjy,Qs,Qs,U8];show(bits - g).toNat+1<=_;omega;rw[if_pos hc]at h;rw[zjy,Ve];exact h;rw[ZI,Qs,Qs,U8];show(bits - g).toNat+0<=_;omega;rw[if_neg hc]at h;rw[ZI,Ve];exact h
theorem zlg{x:Str}:cutS x none (some (-1))=mkS x.cps.toList.dropLast:=by
 refine L2.Str.ext' ?_;rw[JW];unfold cutS;have l:HT.sIx x.length 0 none=0:=by simp[HT.sIx]
 have e1:HT.sIx x.length x.length (some (-1))=x.length - 1:=by have:=Y7 x.length x.length (-1);rw[if_pos (by decide)]at this;lia
 rw[l,e1,iQ,mX,<- JV,List.dropLast_eq_take]
theorem zju{cs:List Nat}{k:Nat}{t:ae}(h:(sgnD (mkS cs))[k]?=some t):∃c,cs[k]?=some c/\t=.str ⟨#[c]⟩:=by
 unfold sgnD at h;rw[JW,aU]at h;cases e:cs[k]? with
 | none=>rw[e]at h;cases h
 | some c=>rw[e]at h;cases h;exact⟨c,rfl,rfl⟩
theorem zjt{cs:List Nat}:(sgnD (mkS cs)).length=cs.length:=by unfold sgnD;rw[JW,aJ]
theorem ZR{z:Str}{n:Int}{R:ae->Prop}(l:z.length<=640)(o:dE z=some n)(h:R (.int n)):Yj [.str z] R:=⟨l,n,o,h⟩
theorem zfJ{v:Int}{cs:List Nat}{c:Nat}:valF v (cs++[c])=2*valF v cs+((c:Int) - 48):=by unfold valF;rw[List.foldl_append];rfl
theorem Zd:∀{cs:List Nat}{v:Int},figs cs->0<=v->0<=valF v cs/\valF v cs<(v+1)*2 ^ cs.length
 | [],v,_,h=>by simp[valF];lia
 | c::cs,v,hf,h=>by have o:c=48\/c=49:=hf c (by simp);have l:=Zd (cs:=cs) (v:=2*v+((c:Int) - 48)) (fun x hx=>hf x (by simp[hx])) (by lia);refine⟨l.1,Int.lt_of_lt_of_le l.2 ?_⟩;rw[aF,fe,<- eO,dw _ 2,<- eO];exact cz (by lia) (by have:=Qp cs.length;lia)
inductive VA:List ae->Nat->(ae->Nat->Prop)->Prop
 | c {bits:Int} {cs:List Nat} {n:Nat} {R:qN} (b0:0<=bits) (b1:bits<=64) (l:cs.length<=1000) (o:∀c∈cs,c<1114112) (r:R (bkD (blkT bits cs)) n):VA [.int bits,.str (mkS cs)] n R
theorem Vn{c:Nat}:([bH (aa "0"),bH (aa "1")].any fun t=>t.eqv (.str ⟨#[c]⟩))=decide (c=48\/c=49):=by
 rw[s_0,s_1];have e:∀d:Nat,dh (.str (mkS [d])) (.str ⟨#[c]⟩)=decide (d=c):=fun d=>by show((mkS [d]) == (⟨#[c]⟩:Str))=_;rw[eE,beq_iff_eq,decide_eq_true_eq];constructor;intro h;have:=congrArg (fun s:Str=>s.cps.toList) h;simpa[mkS] using this;intro h;subst h;rfl
 rw[rC,rC,List.any_nil,e,e,p8,eE];simp;lia
theorem zig{c:Nat}(h:c<1114112):Okd (.str ⟨#[c]⟩):=(okK_str (by simp[cn,PyData.strOk,h])).okd
def zeJ(Z:ZZ):Prop:=QF Z "block_of" 2 ["bits","text"] 1 2 VA
theorem zhj(D:DQ Z "block_of" 2 ["bits","text"]) (T:Txt Z.mg):zeJ Z:=by
 refine' okN ["bits","text","starred","figures","height","begin","figure"] D fun hr=>⟨_,(Jb (dsv 2 (ndB rfl) (zpr (dlv 1) Jo)) (Jb (dsv 3 (ndB rfl) (zfE (JI (dlv 2)) (VF (dlv 1) Vi (Vj (zn0 Ji))) (Jk 1))) (Jb (dsv 4 (ndB rfl) (QT (dlv 0) (dl (Jw Qa J7 T.len J2 (Jl (dlv 3) Jn Jm))))) (Jb (Jq (JT (Qf (Jp (Ua hr) Q7 (dlv 4) dli (Jj _)) (Qm (Jp (QX hr) QP (dlv 2) (dl (Qk Uy gp_B (dlv 4) dli (Jj _))) (Jj _))))) (Jc (Jg Qv)) Js) (Jb (dsv 5 (ndB rfl) Ji) (Jb (UF cW rfl (zk6 (Jk 3)) (dgv 6 (ndB rfl)) (Jb (Jq (Jp (zf4 hr) zir (dlv 6) (dl (JF (dbc Jo (dbc Jo Ja)))) rfl) (Jc (Jg Qv)) Js) (Jc (dsv 5 (ndB rfl) (JR (dl (YU dli (dlv 5))) (dl (Q5 zgS zkQ T.int boot_int (Jl (dlv 6) Jn Jm)))))))) (Jc (Jg (JF (dbc (Qw (dlv 5) (dlv 4)) (dbv 4 Ja))))))))))),?_⟩;intro ts n R hl h;obtain @⟨bits,cs,n,R,b0,b1,lc,C,h⟩:=h;have S:gK (mkS cs) (aa "*")=decide (cs.getLast?=some 42):=by rw[zkX,JW]
 have ln:(mkS cs).length=cs.length:=Qs;by_cases st:cs.getLast?=some 42
 ·rw[decide_eq_true st]at S;have l1:1<=cs.length:=by
   cases cs with
   | nil=>simp at st
   | cons a b=>simp
  unfold blkT at h;rw[if_pos st]at h;have C:∀c∈cs.dropLast,c<1114112:=fun c hc=>C c (List.dropLast_subset _ hc);have ld:cs.dropLast.length=cs.length - 1:=List.length_dropLast ..;have U:cutS (mkS cs) none (some (-1))=mkS cs.dropLast:=by rw[zlg,JW]
  generalize cs.dropLast=fs at h C ld U;have eh:bits - ((cs.length:Int) - 1)=bits - (fs.length:Int):=by lia
  rw[eh]at h;have ed:∀{n:Nat} {R:qN},R (.bool true) n->Zu (dVar 1) (dC (.str (aa "*"))) [some (.val (.int bits)),some (.val (.str (mkS cs))),none,none,none,none,none] n R:=fun {n R} z=>by wp_walk;rw[S];exact z
  wp_walk using ed ?_;all_goals first
   | (exfalso;revert hc;simp;done)
   | (rw[ln];lia)
   | skip
  all_goals try rw[U]
  all_goals try rw[U]at hc
  all_goals try rw[Qs]at hc
  rw[Qs];lia;rw[if_neg (fun z=>by lia)]at h;exact h
  ·rename_i q1 q2;rw[U,Qs]at q2;have pos:0<bits - (fs.length:Int):=by simpa using hc.symm
   have Y:fs.length<=64:=by lia
   have good:figs fs->R (.tuple [.int (valF 0 fs*2 ^ (bits - (fs.length:Int)).toNat),.int (bits - (fs.length:Int))]) n:=fun z=>by rw[if_pos ⟨pos,z⟩]at h;exact h
   have bad:¬figs fs->R .none n:=fun z=>by rw[if_neg (fun y=>z y.2)]at h;exact h
   rw[Qs];refine znW 5 6 (fun k G _ m=>m=n/\G=some (.val (.int (valF 0 (fs.take k))))/\figs (fs.take k)) ⟨rfl,rfl,fun c hc=>by simp at hc⟩ ?_ ?_
   ·rintro k t G a6 m K RT BK et ⟨rfl,rfl,hf⟩ hK hRT hBK;obtain⟨c,I,rfl⟩:=zju et;have oc:=C c (aX I);have L:fs.take (k+1)=fs.take k++[c]:=by rw[dZ,I];rfl
    have vb:=(Zd hf (eL 0));have lt:(fs.take k).length<=64:=by rw[cw];lia
    have i2:∀{R:ae->Prop},(c=48\/c=49)->R (.int ((c:Int) - 48))->Yj [.str ⟨#[c]⟩] R:=fun {R} hc r=>by rcases hc with rfl|rfl;exact ZR (by decide) (show dE ⟨#[48]⟩=some 0 by decide +kernel) r;exact ZR (by decide) (show dE ⟨#[49]⟩=some 1 by decide +kernel) r
    wp_walk;all_goals first
     | exact zig oc
     | (intro t J;simp only[aq,av,or_false]at J;rcases J with rfl|rfl <;> exact(okK_str (by decide +kernel)).okd)
     | skip
    exact .inl ⟨by decide,by decide⟩
    ·rw[Vn]at hc;have hc:c=48\/c=49:=by simpa using hc
     refine i2 hc ?_;wp_walk;refine hK _ _ _ ⟨rfl,by rw[L,zfJ],fun x hx=>?_⟩;rw[L]at hx;rcases aD.mp hx with z|z;exact hf x z;cases ba.mp z;exact hc
    rw[Vn]at hc;have hc:¬(c=48\/c=49):=by simpa using hc
    exact hRT _ _ (bad fun z=>hc (z c (aX I)))
   ·rintro G a6 m ⟨rfl,rfl,hf⟩;rw[zjt,eU]at hf ⊢;have vb:=(Zd hf (eL 0));have vl:valF 0 fs<2 ^ 64:=by
     have:=zdB (k:=fs.length) (by lia);lia
    wp_walk;exact⟨by lia,by lia,by lia⟩;exact good hf
  rw[if_neg (fun z=>hc (by rw[decide_eq_true z.1]))]at h;exact h
 ·rw[decide_eq_false st]at S;unfold blkT at h;rw[if_neg st]at h;have ed:∀{n:Nat} {R:qN},R (.bool false) n->Zu (dVar 1) (dC (.str (aa "*"))) [some (.val (.int bits)),some (.val (.str (mkS cs))),none,none,none,none,none] n R:=fun {n R} z=>by
   wp_walk;rw[S];exact z
  wp_walk using ed ?_;all_goals first
   | (exfalso;revert hc;simp;done)
   | (rw[ln];lia)
   | skip
  all_goals try rw[Qs]at hc
  rw[if_neg (fun z=>by lia)]at h;exact h
  ·rename_i q2;rw[Qs]at q2;have pos:¬0<bits - (cs.length:Int):=by simpa using hc.symm
   have eb:(cs.length:Int)=bits:=by lia
   have Y:cs.length<=64:=by lia
   have good:figs cs->R (.tuple [.int (valF 0 cs*2 ^ (bits - (cs.length:Int)).toNat),.int (bits - (cs.length:Int))]) n:=fun z=>by rw[if_pos ⟨eb,z⟩]at h;rw[show bits - (cs.length:Int)=0 by lia];simpa[bkD] using h
   have bad:¬figs cs->R .none n:=fun z=>by rw[if_neg (fun y=>z y.2)]at h;exact h
   rw[Qs];refine znW 5 6 (fun k G _ m=>m=n/\G=some (.val (.int (valF 0 (cs.take k))))/\figs (cs.take k)) ⟨rfl,rfl,fun c hc=>by simp at hc⟩ ?_ ?_
   ·rintro k t G a6 m K RT BK et ⟨rfl,rfl,hf⟩ hK hRT hBK;obtain⟨c,I,rfl⟩:=zju et;have oc:=C c (aX I);have L:cs.take (k+1)=cs.take k++[c]:=by rw[dZ,I];rfl
    have vb:=(Zd hf (eL 0));have lt:(cs.take k).length<=64:=by rw[cw];lia
    have i2:∀{R:ae->Prop},(c=48\/c=49)->R (.int ((c:Int) - 48))->Yj [.str ⟨#[c]⟩] R:=fun {R} hc r=>by rcases hc with rfl|rfl;exact ZR (by decide) (show dE ⟨#[48]⟩=some 0 by decide +kernel) r;exact ZR (by decide) (show dE ⟨#[49]⟩=some 1 by decide +kernel) r
    wp_walk;all_goals first
     | exact zig oc
     | (intro t J;simp only[aq,av,or_false]at J;rcases J with rfl|rfl <;> exact(okK_str (by decide +kernel)).okd)
     | skip
    exact .inl ⟨by decide,by decide⟩
    ·rw[Vn]at hc;have hc:c=48\/c=49:=by simpa using hc
     refine i2 hc ?_;wp_walk;refine hK _ _ _ ⟨rfl,by rw[L,zfJ],fun x hx=>?_⟩;rw[L]at hx;rcases aD.mp hx with z|z;exact hf x z;cases ba.mp z;exact hc
    rw[Vn]at hc;have hc:¬(c=48\/c=49):=by simpa using hc
    exact hRT _ _ (bad fun z=>hc (z c (aX I)))
   ·rintro G a6 m ⟨rfl,rfl,hf⟩;rw[zjt,eU]at hf ⊢;have vb:=(Zd hf (eL 0));have vl:valF 0 cs<2 ^ 64:=by
     have:=zdB (k:=cs.length) (by lia);lia
    wp_walk;exact⟨by lia,by lia,by lia⟩;exact good hf
  rw[if_neg (fun z=>hc (by rw[decide_eq_false (by lia)]))]at h;exact h
inductive zcB:List ae->Nat->(ae->Nat->Prop)->Prop
 | c {d:Deal} {n:Nat} {R:qN} (D:Dl d) (h1:d.2.1.length<=1000) (h2:d.2.2.length<=1000) (h:R (.str (UC d)) n):zcB [dlD d] n R
def zdT(Z:ZZ):Prop:=QF Z "show_deal" 4 ["deal"] 2 1 zcB
theorem zf5(D:DQ Z "show_deal" 4 ["deal"]) (Y:zdX Z) (T:Txt Z.mg):zdT Z:=by
 refine' okN ["deal","bits","outs","kept","rows","word","pairs"] D fun hr=>⟨_,(Jb (QV (Jk 0) (JK rfl (Jh (dgv 1 (ndB rfl)) (Jh (dgv 2 (ndB rfl)) (Jh (dgv 3 (ndB rfl)) JJ))))) (Jb (U0 (i:=4) (ndB rfl) rfl (dP rfl) (J6 (dbc (zld (UL Jo (UL (ZN (Jk 1)) znY))) Ja))) (Jb (UF cW rfl (QU (JF (dbc (JF (dbc Jo (dbv 2 Ja))) (dbc (JF (dbc Jo (dbv 3 Ja))) Ja)))) (JK rfl (Jh (dgv 5 (ndB rfl)) (Jh (dgv 6 (ndB rfl)) JJ))) (Jc (zgJ 4 (Jy (dnc ["block","name"] [5,1] (dil (QU (Jk 6))) (fun _ _ _ _=>(JK rfl (Jh (dgv 0 (ndB rfl)) (Jh (dgv 1 (ndB rfl)) JJ)))) (fun _ _ _ _=>(zld (UL (ZN (Jk 2)) (UL Jo (UL (ZN (Jd Y hr (dbv 3 (dbv 0 Ja)))) (UL Jo (UL (ZN (Jk 1)) znY)))))))))))) (Yb 4 (Jc (Jg (Y4 (dl Jo) (Jk 4)))))))),?_⟩;rintro ts n R hl @⟨⟨bits,os,ks⟩,n,R,D,I,J,h⟩;obtain⟨G,o,L,N,ag⟩:=D;have G:1<=bits:=G;have o:bits<=64:=o;have I:os.length<=1000:=I;have J:ks.length<=1000:=J;rw[show dlD (bits,os,ks)=.tuple [.int bits,.tuple (oD os),.tuple (oD ks)] from rfl];have x:∀{os:List NP},Shr bits os->∀p∈os,IsBk bits p.1.1 p.1.2/\IsNm p.2:=fun S p C=>⟨S.1.1 _ (aY.mpr ⟨p,C,rfl⟩),S.2 p C⟩;have lb:(aa "" ++ aa "bits " ++ aa (toString bits)).length<=80:=(Vq G o).1;have rows:∀{os:List NP} {w:Str} {n:Nat} {R:List ae->Nat->Prop},Shr bits os->os.length<=1000->IsW w->R ((os.map (rowS bits w)).map .str) n->QJ (Qd (JB (Jv 0) (JB (Jv 1) Qc))) dYes (zpw (UE (dFmt (dVar 2)) (UE (dC (bH (aa " "))) (UE (dFmt (dFn VJ (JG (dVar 3) (JG (dVar 0) dNil)))) (UE (dC (bH (aa " "))) (UE (dFmt (dVar 1)) zpk)))))) [none,none,some (.val (.str w)),some (.val (.int bits))] (oD os) [] n R:=by
  intro os w n R S l hw h;refine Qr (cs:=os) (D:=fun p=>.tuple [prD p.1,.str p.2]) (fun p=>.str (rowS bits w p)) (by lia) ?_ (by rw[cx]at h;exact h);rintro⟨⟨i,g⟩,nm⟩ C K X hK;obtain⟨B,U⟩:=x S _ C;have le:=(Vl (w:=w) (p:=((i,g),nm)) o hw B.1 U).1;have e:rowS bits w ((i,g),nm)=aa "" ++ w++aa " " ++ mkS (begL bits i g)++aa " " ++ nm:=rfl;rw[e]at le hK;simp only[gY]at le;wp_walk using VJ.c (by lia) o B ?_;all_goals first
   | exact hK
   | ((try dsimp only);(try simp only[gY]);lia)
 simp only[gY]at lb;wp_walk;all_goals first|(simp only[gY];lia)|exact df (Nat.log2_le_self _) (by lia)|skip
 have w1:IsW (aa "out"):=.inl rfl;have w2:IsW (aa "kept"):=.inr rfl;wp_walk using zio ?_,zgF ?_,rows L I w1 ?_,rows N J w2 ?_;simp only[aJ,aF,bO];lia;simp only[aM,aJ,aF,bO];lia;refine⟨J1 bits os ks,?_,zeQ G o (fun p C=>⟨(x L p C).1.1,(x L p C).2⟩) (fun p C=>⟨(x N p C).1.1,(x N p C).2⟩) I J,h⟩;rw[J1,aK,dO];rfl
def Zz:ae->Bool|.int _=>true|_=>false
def zdi:GD:=fun ts n R=>match ts with
 | [d]=>Pln d/\R (.bool (Zz d)) n
 | _=>False
theorem US{d:ae}{b:Bool}{n:Nat}{R:qN}(e:Zz d=b)(h:Pln d)(h':R (.bool b) n):zdi [d] n R:=⟨h,e▸h'⟩
def zdb(Z:ZZ):Prop:=QF Z "is_whole" 6 ["thing"] 1 1 zdi
theorem zhg(D:DQ Z "is_whole" 6 ["thing"]) (T:Txt Z.mg):zdb Z:=by
 refine' okN ["thing"] D fun o=>⟨_,(Jc (Jg (Qq (J8 zkO T.isi T.int boot_int (dlv 0) Jm) (QK (zhJ (J8 Vc T.isi T.boo Vz (dlv 0) Jm)))))),?_⟩;intro ts n R u h;unfold zdi at h;split at h
 ·rename_i d;obtain⟨p,h⟩:=h;cases d with
  | dict l =>
   cases l with
   | nil =>wp_walk;exact h
   | cons a b=>exact absurd rfl p
  | _ =>wp_walk;exact h
 exact h.elim
def QL(bits:Int):ae->Bool
 | .tuple [.int b,.int h]=>decide (0<=h/\h<=bits/\0<=b/\b<2 ^ bits.toNat/\b % 2 ^ h.toNat=0)
 | _=>false
theorem zhB{bits b h:Int}:QL bits (.tuple [.int b,.int h])=decide (0<=h/\h<=bits/\0<=b/\b<2 ^ bits.toNat/\b % 2 ^ h.toNat=0):=rfl
theorem zgE{bits b h:Int}(x:0<=bits):QL bits (.tuple [.int b,.int h])=true↔IsBk bits b h:=by unfold QL;rw[decide_eq_true_iff];constructor;rintro⟨h0,v,G,g1,g2⟩;have p:=Qp h.toNat;have e:=Int.emod_add_mul_ediv b (2 ^ h.toNat);refine⟨h0,v,b / 2 ^ h.toNat,eG G (by lia),?_,?_⟩;rw[dw];lia;apply Int.ediv_lt_of_lt_mul p;rw[<- g6,show(bits - h).toNat+h.toNat=bits.toNat by lia];exact g1;intro B;have C:=B.bounds x;obtain⟨h0,v,k,J,rfl,I⟩:=B;refine⟨h0,v,C.1,?_,Int.mul_emod_left _ _⟩;have:=Qp h.toNat;lia
def Pl2(d:ae):Prop:=Pln d/\∀ts,d=.tuple ts->∀t∈ts,Pln t
inductive zdk:List ae->Nat->(ae->Nat->Prop)->Prop
 | c {bits:Int} {d:ae} {n:Nat} {R:qN} (b0:0<=bits) (b1:bits<=64) (h:Pl2 d) (h':R (.bool (QL bits d)) n):zdk [.int bits,d] n R
theorem zkJ{bits:Int}{d:ae}(h:∀b g,d≠.tuple [.int b,.int g]):QL bits d=false:=by unfold QL;split;exact absurd rfl (h _ _);rfl
theorem zsh{b c:Bool}{n:Nat}{R:qN}(e:b=c)(h:R (.bool c) n):R (.bool b) n:=e▸h
def zeI(Z:ZZ):Prop:=QF Z "is_block" 7 ["bits","thing"] 2 2 zdk
theorem zhi(D:DQ Z "is_block" 7 ["bits","thing"]) (I:zdb Z) (T:Txt Z.mg):zeI Z:=by
 refine' okN ["bits","thing","begin","height"] D fun v=>⟨_,(Jb (Jq (JT (Qf (JN (JI (dl (J8 UO T.isi T.tup Qz (dlv 1) Jm)))) (Qm (Jp (QX v) QP (dl (Jw Qa J7 T.len J2 (Jl (dlv 1) Jn Jm))) dli (Jj _))))) (Jc (Jg Qi)) Js) (Jb (QV (Jk 1) (JK rfl (Jh (dgv 2 (ndB rfl)) (Jh (dgv 3 (ndB rfl)) JJ)))) (Jb (Jq (JT (Qf (JN (JI (dl (Jd I v (dbv 2 Ja))))) (Qm (JN (JI (dl (Jd I v (dbv 3 Ja)))))))) (Jc (Jg Qi)) Js) (Jb (Jq (JT (Qf (Jp (Ua v) Q7 (dlv 3) dli (Jj _)) (Qm (Jp Uy gp_B (dlv 3) (dlv 0) (Jj _))))) (Jc (Jg Qi)) Js) (Jc (Jg (Qq (zfF JZ JY (Ua v) Q7 dli (dlv 2) (dl (Qw dli (dlv 0)))) (QK (Qk (Qx v) Qt (dl (ZO (dlv 2) (dl (Qw dli (dlv 3))))) dli (Jj _)))))))))),?_⟩;intro ts n R L h;obtain @⟨bits,d,n,R,b0,b1,⟨p,C⟩,h⟩:=h;have no:(∀b g,d≠.tuple [.int b,.int g])->R (.bool false) n:=fun z=>by rw[zkJ z]at h;exact h
 cases hf:isTup d with
 | false =>wp_walk using isiF p hf ?_;exact no fun b g e=>by rw[e]at hf;cases hf
 | true =>
  obtain⟨ts,rfl⟩:=zmY hf;have C:=C ts rfl;by_cases l2:ts.length=2
  ·obtain⟨x,y,rfl⟩:=zt9 l2;have G:=C x (by simp);have py:=C y (by simp);have J:∀t,(∃b,t=.int b)\/Zz t=false:=fun t=>by
    cases t with
    | int b=>exact .inl ⟨b,rfl⟩
    | _=>exact .inr rfl
   rcases J x with⟨b,rfl⟩|wx
   ·rcases J y with⟨g,rfl⟩|wy
    ·wp_walk using US (b:=true) rfl G ?_,US (b:=true) rfl py ?_;all_goals first
      | exact cpow (by lia) (by lia)
      | (rw[Uc];exact Qp _)
      | skip
     all_goals
      refine zsh ?_ h;try simp only[Uc]at *
      rw[zhB];generalize (2:Int) ^ bits.toNat=X at *;generalize b % (2:Int) ^ g.toNat=Y at *;first
       | (symm;rw[decide_eq_false_iff_not];lia)
       | (rw[decide_eq_decide];lia)
       | (exfalso;simp at hc;done)
    ·wp_walk using US (b:=true) rfl G ?_,US wy py ?_;all_goals first|exact no fun _ _ e=>by cases e;cases wy|(exfalso;simp at hc;done)
   ·wp_walk using US wx G ?_;all_goals first|exact no fun _ _ e=>by cases e;cases wx|(exfalso;simp at hc;done)
  ·wp_walk;all_goals first|exact no fun _ _ e=>l2 (by cases e;rfl)|(exfalso;lia)
inductive zd_:List ae->Nat->(ae->Nat->Prop)->Prop
 | c {i h:Int} {n:Nat} {R:qN} (g0:0<=h) (g1:h<=1000) (h':R (.int (2 ^ h.toNat)) n):zd_ [.tuple [.int i,.int h]] n R
def zfX(Z:ZZ):Prop:=QF Z "size_of" 8 ["block"] 1 1 zd_
theorem ziQ(D:DQ Z "size_of" 8 ["block"]) (T:Txt Z.mg):zfX Z:=by refine' okN ["block"] D fun l=>⟨_,(Jc (Jg (Qw dli (dl (Jt (dlv 0) dli))))),?_⟩;rintro ts n R hl @⟨i,h,n,R,g0,g1,hh⟩;wp_walk;exact cpow (by lia) (by lia);rw[Uc];exact hh
inductive zfx:List ae->Nat->(ae->Nat->Prop)->Prop
 | c {i h g:Int} {n:Nat} {R:qN} (g0:0<=g) (g1:g<=1000) (i0:0<=i) (i1:i<2 ^ 64) (h':R (.tuple [.int (i / 2 ^ g.toNat*2 ^ g.toNat),.int g]) n):zfx [.tuple [.int i,.int h],.int g] n R
def zh8(Z:ZZ):Prop:=QF Z "around" 11 ["block","height"] 1 2 zfx
theorem zj9(D:DQ Z "around" 11 ["block","height"]) (T:Txt Z.mg):zh8 Z:=by refine' okN ["block","height"] D fun l=>⟨_,(Jc (Jg (JF (dbc (Qw (dl (zlb (dl (Jt (dlv 0) dli)) (dlv 1))) (dlv 1)) (dbv 1 Ja))))),?_⟩;rintro ts n R hl @⟨i,h,g,n,R,g0,g1,i0,i1,hh⟩;simp only[Z2,Z1,Z3,u_dC,ZK,Z7,ZY,Z8,Vk,ZJ,Vp,Z0,ZS,Zc,YZ,Y0,Y1,Zb,Y2,Zl,YG,oSub,oMul,oMod,Ux,oShl,oShr,oXor,oAnd,isNone,isInt,isBool,isTup,isStr,l_gI,ZC,YI,YJ,Yn,Ym,Yp,Yq,Yo,Yy,Yx,YA,Yz,Yr,Zg,Yu,Ys,Yt,YM,YN,YL,YO,YQ,YE,Yw,Yv,YK,YB,Zh,Zf,Q1,Ud,Ug,Uu,Us,Ut,Uv,U9,J0,JQ,capV,aK,fP,aF,bO,bT,fW,cA,cV,cq,dJ,eW,fj,gr,fX,fY,e9,Nat.reduceAdd,Nat.reduceSub,gD,true_and,and_true,bG,if_true,if_false,ite_true,ite_false,fC,eT,gW];refine⟨g0,⟨g0,by lia,?_⟩,hh⟩;have:i / 2 ^ g.toNat<=i:=kD _ i0;have:0<=i / 2 ^ g.toNat:=eG i0 (cy (Qp _));lia
inductive Vb:List ae->Nat->(ae->Nat->Prop)->Prop
 | c {i h j g:Int} {n:Nat} {R:qN} (h0:0<=h) (h1:h<=1000) (j0:0<=j) (j1:j<2 ^ 64) (h':R (.bool (hldD i h j g)) n):Vb [.tuple [.int i,.int h],.tuple [.int j,.int g]] n R
def zjK(Z:ZZ):Prop:=QF Z "holds" 9 ["one","other"] 2 2 Vb
theorem zmt(D:DQ Z "holds" 9 ["one","other"]) (o:zh8 Z) (T:Txt Z.mg):zjK Z:=by refine' okN ["one","other"] D fun l=>⟨_,(Jc (Jg (Qq (Qk zqW gp_B (dl (Jt (dlv 0) dli)) (dl (Jt (dlv 1) dli)) (Jj _)) (QK (Qk (Qx l) Qt (dl (Jd o l (dbv 1 (dbc (Jt (dlv 0) dli) Ja)))) (dlv 0) (Jj _)))))),?_⟩;rintro ts n R hl @⟨i,h,j,g,n,R,g0,g1,j0,j1,hh⟩;unfold hldD at hh;wp_walk using zfx.c g0 g1 j0 j1 ?_;exact U9;exact U9;rw[decide_eq_true hc,gi]at hh;rw[zm6];simpa using hh;rw[decide_eq_false hc,dW]at hh;exact hh
inductive zhD:List ae->Nat->(ae->Nat->Prop)->Prop
 | c {i h j g:Int} {n:Nat} {R:qN} (h0:0<=h) (h1:h<=1000) (g0:0<=g) (g1:g<=1000) (i0:0<=i) (i1:i<2 ^ 64) (j0:0<=j) (j1:j<2 ^ 64) (h':R (.bool (!hldD i h j g&&!hldD j g i h)) n):zhD [.tuple [.int i,.int h],.tuple [.int j,.int g]] n R
def zjL(Z:ZZ):Prop:=QF Z "apart" 10 ["one","other"] 3 2 zhD
theorem zmu(D:DQ Z "apart" 10 ["one","other"]) (o:zjK Z) (T:Txt Z.mg):zjL Z:=by refine' okN ["one","other"] D fun l=>⟨_,(Jc (Jg (Qq (zhJ (Jd o l (dbv 0 (dbv 1 Ja)))) (QK (zhJ (Jd o l (dbv 1 (dbv 0 Ja)))))))),?_⟩;rintro ts n R hl @⟨i,h,j,g,n,R,h0,h1,g0,g1,i0,i1,j0,j1,hh⟩;wp_walk using Vb.c h0 h1 j0 j1 ?_,Vb.c g0 g1 i0 i1 ?_;rw[hc,fC,dW]at hh;exact hh;rw[hc,eT,gi]at hh;exact hh
inductive Ze:List ae->Nat->(ae->Nat->Prop)->Prop
 | c {d:ae} {n:Nat} {R:qN} (p:PlnD d) (h:R (.bool (nmD d)) n):Ze [d] n R
theorem zja{s:Str}{n:Nat}{R:qN}(p:IsNm s)(h:R (.bool true) n):Ze [.str s] n R:=Ze.c (zib (by have:=p.2.1;lia)) (by have:nmD (.str s)=true:=zhm.mpr p;rw[this];exact h)
def zdW(Z:ZZ):Prop:=QF Z "is_name" 13 ["thing"] 1 1 Ze
theorem ziS(D:DQ Z "is_name" 13 ["thing"]) (T:Txt Z.mg):zdW Z:=by
 refine' okN ["thing"] D fun U=>⟨_,(Jb (Jq (JT (Qf (JN (JI (dl (J8 znR T.isi T.str VD (dlv 0) Jm)))) (Qm (JN (Vt JZ JY JZ JY dli (dl (Jw Qa J7 T.len J2 (Jl (dlv 0) Jn Jm))) dli))))) (Jc (Jg Qi)) Js) (Jc (Jg (Jw (Uf rfl) Q6 T.all Ue (Jl (dl (Jy (dnc ["letter"] [] (dil (zk6 (Jk 0))) (fun _ _ _ _=>(dgv 0 (ndB rfl))) (fun _ _ _ _=>(zfF JZ JY JZ JY (dl Jo) (dlv 0) (dl Jo)))))) Jn Q3))))),?_⟩;intro ts n R S h;obtain @⟨d,n,R,p,h⟩:=h;cases d with
 | str z =>
  have hz:=p.str;have C:(aa "a").cps.toList=[97]:=by decide +kernel
  have J:(aa "z").cps.toList=[122]:=by decide +kernel
  have e:nmD (.str z)=(decide (1<=z.length)&&decide (z.length<=8)&&z.cps.toList.all fun c=>decide (97<=c)&&decide (c<=122)):=rfl;rw[e]at h;wp_walk;lia
  ·refine Qr (cs:=z.cps.toList) (D:=fun c=>.str ⟨#[c]⟩) (fun c=>.bool (decide (97<=c)&&decide (c<=122))) (by rw[JV];lia) ?_ ?_
   ·intro c G N Y u;wp_walk;have z:c<97:=zj6.mp (show([c]:List Nat)<[97] from C▸hc);rw[decide_eq_false (show ¬97<=c by lia),dW]at u;exact u;have z:¬c<97:=fun y=>hc (C.symm▸zj6.mpr y);rw[decide_eq_true (show 97<=c by lia),gi]at u;have e2:(!decide ((aa "z").cps.toList<(⟨#[c]⟩:Str).cps.toList))=decide (c<=122):=by
     rw[J];exact zoT
    rw[e2];exact u
   ·wp_walk using Um ?_;have v:1<=z.length:=by lia
    have x:z.length<=8:=by lia
    rw[decide_eq_true v,decide_eq_true x]at h;exact h
  have x:¬z.length<=8:=by lia
  rw[decide_eq_false x,lp,dW]at h;exact h;have v:¬1<=z.length:=by lia
  rw[decide_eq_false v,dW,dW]at h;exact h
 | dict I =>
  cases I with
  | nil =>wp_walk;exact h
  | cons a b=>exact absurd rfl (PlnD.pln p)
 | _ =>wp_walk;exact h
inductive Zo:List ae->Nat->(ae->Nat->Prop)->Prop
 | c {i h:Int} {n:Nat} {R:qN} (g0:0<=h) (g1:h<=1000) (h':R (.int (i+2 ^ h.toNat)) n):Zo [.tuple [.int i,.int h]] n R
def ze_(Z:ZZ):Prop:=QF Z "end_of" 16 ["block"] 2 1 Zo
theorem zj8(D:DQ Z "end_of" 16 ["block"]) (o:zfX Z) (T:Txt Z.mg):ze_ Z:=by refine' okN ["block"] D fun l=>⟨_,(Jc (Jg (JR (dl (Jt (dlv 0) dli)) (dl (Jd o l (dbv 0 Ja)))))),?_⟩;rintro ts n R hl @⟨i,h,n,R,g0,g1,hh⟩;wp_walk using zd_.c ?_ ?_ ?_;lia;lia;exact hh
def IsPt(bits:Int)(d:ae):Prop:=∃bs:List (Int×Int),d=.tuple (pD bs)/\Ptc bits bs
def Pl3(d:ae):Prop:=Pln d/\∀ts,d=.tuple ts->ts.length<=1000000/\∀t∈ts,Pl2 t
theorem zls{bits:Int}(v:0<=bits):∀(ts:qD),ts.all (QL bits)=true->∃bs,ts=pD bs/\Bks bits bs
 | [],_=>⟨[],rfl,fun b hb=>nomatch hb⟩
 | t::ts,h=>by rw[rD,aZ]at h;obtain⟨bs,rfl,B⟩:=zls v ts h.2;have o:=h.1;unfold QL at o;split at o;rename_i b g;have:=(zgE v).mp (show QL bits (.tuple [.int b,.int g])=true from o);refine⟨(b,g)::bs,rfl,fun c hc=>?_⟩;rcases aq.mp hc with rfl|hc;exact this;exact B c hc;cases o
theorem znK:∀{bs cs:qB},pD bs=pD cs->bs=cs
 | [],[],_=>rfl
 | [],_::_,h=>by cases h
 | _::_,[],h=>by cases h
 | (a,b)::bs,(c,d)::cs,h=>by simp only[pD,aK,fv,iR,nv,and_true]at h;obtain⟨⟨rfl,rfl⟩,h⟩:=h;rw[znK h]
inductive zdj:List ae->Nat->(ae->Nat->Prop)->Prop
 | c {bits:Int} {d:ae} {n:Nat} {R:qN} (b0:0<=bits) (b1:bits<=64) (p:Pl3 d) (h:∀b:Bool,(b=true↔IsPt bits d)->R (.bool b) n):zdj [.int bits,d] n R
def zeH(Z:ZZ):Prop:=QF Z "is_patch" 15 ["bits","thing"] 3 2 zdj
theorem zhh(D:DQ Z "is_patch" 15 ["bits","thing"]) (L:zeI Z) (S:ze_ Z) (T:Txt Z.mg):zeH Z:=by
 refine' okN ["bits","thing"] D fun J=>⟨_,(Jb (Jq (JN (JI (dl (J8 UO T.isi T.tup Qz (dlv 1) Jm)))) (Jc (Jg Qi)) Js) (Jb (Jq (JN (JI (dl (Jw (Uf rfl) Q6 T.all Ue (Jl (dl (Jy (dnc ["block"] [0] (dil (QU (Jk 1))) (fun _ _ _ _=>(dgv 0 (ndB rfl))) (fun _ _ _ _=>(Jd L J (dbv 1 (dbv 0 Ja))))))) Jn Q3))))) (Jc (Jg Qi)) Js) (Jc (Jg (Jw (Uf rfl) Q6 T.all Ue (Jl (dl (Jy (dnc ["one","other"] [] (dil (zk5 T.zip (Jk 1) (VF (dlv 1) (Vj Ji) Vi))) (fun _ _ _ _=>(JK rfl (Jh (dgv 0 (ndB rfl)) (Jh (dgv 1 (ndB rfl)) JJ)))) (fun _ _ _ _=>(Qk JZ JY (dl (Jd S J (dbv 0 Ja))) (dl (Jt (dlv 1) dli)) (Jj _)))))) Jn Q3)))))),?_⟩;intro ts n R hl h;obtain @⟨bits,d,n,R,b0,b1,⟨p,G⟩,h⟩:=h;cases d with
 | dict ks =>
  cases ks with
  | nil =>have h:=h false ⟨fun z=>(by cases z),fun⟨bs,e,_⟩=>(by cases e)⟩;wp_walk;exact h
  | cons a b=>exact absurd rfl p
 | tuple ts =>
  obtain⟨l6,G⟩:=G ts rfl;wp_walk;refine zeS (fun t=>.bool (QL bits t)) (by lia) ?_ ?_
  ·intro t N Y X2 v;wp_walk using zdk.c b0 b1 (G t N) ?_;exact v
  ·wp_walk using Um ?_
   ·obtain⟨bs,rfl,B⟩:=zls b0 ts hc;rw[zng,zpQ];rw[QC]at l6;refine Qr (cs:=bs.zip bs.tail) (D:=fun q:(Int×Int)×(Int×Int)=>.tuple [prD q.1,prD q.2]) (fun q:(Int×Int)×(Int×Int)=>.bool (decide (eB q.1<=q.2.1))) (by rw[nW];lia) ?_ ?_
    ·rintro⟨⟨i,g⟩,⟨j,k⟩⟩ C Y X2 v;have I:=B _ (ft C).1;have g0:0<=g:=I.1;have g1:g<=bits:=I.2.1;wp_walk using Zo.c ?_ ?_ ?_;exact g0;exact(show g<=1000 by lia);exact v
    ·wp_walk using Um ?_;refine h _ ?_;rw[bw];constructor;intro al;exact⟨bs,rfl,B,(ziA (bits:=bits)).mp fun q C=>by simpa using al q C⟩;rintro⟨cs,e,P⟩ q C;have U:bs=cs:=znK (by simpa using e);subst U;simpa using(ziA (bits:=bits)).mpr P.2 q C
   rename_i hc;refine h false ⟨fun z=>(by cases z),fun⟨bs,e,P⟩=>?_⟩;cases e;have:(pD bs).all (QL bits)=true:=by rw[bw];intro x hx;obtain⟨b,hb,rfl⟩:=aY.mp hx;exact(zgE b0).mpr (P.1 b hb)
   rw[this]at hc;cases hc
 | _ =>have h:=h false ⟨fun z=>(by cases z),fun⟨bs,e,_⟩=>(by cases e)⟩;wp_walk;exact h
inductive zce:List ae->Nat->(ae->Nat->Prop)->Prop
 | c {xs:List (ae×ae)} {n:Nat} {R:qN} (l:xs.length<=1000000) (h:R (.tuple (xs.map (·.1))) n):zce [.tuple (ppD xs)] n R
def zdp(Z:ZZ):Prop:=QF Z "all_blocks" 22 ["pairs"] 1 1 zce
theorem zfi(D:DQ Z "all_blocks" 22 ["pairs"]) (T:Txt Z.mg):zdp Z:=by
 refine' okN ["pairs"] D fun v=>⟨_,(Jc (Jg (Q5 Yg Vv T.tup Qz (Jl (dl (Jy (dnc ["block","name"] [] (dil (QU (Jk 0))) (fun _ _ _ _=>(JK rfl (Jh (dgv 0 (ndB rfl)) (Jh (dgv 1 (ndB rfl)) JJ)))) (fun _ _ _ _=>(Jk 0))))) Jn Q3)))),?_⟩;intro ts n R x h;obtain @⟨xs,n,R,l,h⟩:=h;wp_walk;refine Qr (cs:=xs) (D:=fun p=>.tuple [p.1,p.2]) (fun p=>p.1) (by lia) ?_ ?_
 ·intro p C I G o;wp_walk;exact o
 ·wp_walk;exact h
def UX:ae->Bool
 | .tuple [_,_]=>true
 | _=>false
inductive zea:List ae->Nat->(ae->Nat->Prop)->Prop
 | c {d:ae} {n:Nat} {R:qN} (p:Pln d) (h:R (.bool (UX d)) n):zea [d] n R
def zfY(Z:ZZ):Prop:=QF Z "is_pair" 20 ["thing"] 1 1 zea
theorem ziR(D:DQ Z "is_pair" 20 ["thing"]) (T:Txt Z.mg):zfY Z:=by
 refine' okN ["thing"] D fun o=>⟨_,(Jc (Jg (Qq (J8 UO T.isi T.tup Qz (dlv 0) Jm) (QK (Qk (Qx o) Qt (dl (Jw Qa J7 T.len J2 (Jl (dlv 0) Jn Jm))) dli (Jj _)))))),?_⟩;intro ts n R x h;obtain @⟨d,n,R,p,h⟩:=h;cases d with
 | tuple ts =>
  have e:UX (.tuple ts)=decide ((ts.length:Int)=2):=by
   match ts with
   | []=>rfl
   | [_]=>rfl
   | [_,_]=>rfl
   | _::_::_::r =>symm;show decide _=false;rw[decide_eq_false_iff_not];simp only[aF];lia
  rw[e]at h;wp_walk;exact h
 | dict v =>
  cases v with
  | nil =>wp_walk;exact h
  | cons a b=>exact absurd rfl p
 | _ =>wp_walk;exact h
theorem zf3:∀(ts:qD),ts.all UX=true->∃xs,ts=ppD xs
 | [],_=>⟨[],rfl⟩
 | t::ts,h=>by rw[rD,aZ]at h;obtain⟨xs,rfl⟩:=zf3 ts h.2;have l:=h.1;unfold UX at l;split at l;rename_i a b;exact⟨(a,b)::xs,rfl⟩;cases l
theorem zqx:∀{xs:List (ae×ae)}{bs:qB},xs.map (·.1)=pD bs->(∀p∈xs,nmD p.2=true)->∃os,ppD xs=oD os/\os.map (·.1)=bs/\∀p∈os,IsNm p.2
 | [],[],_,_=>⟨[],rfl,rfl,fun p l=>nomatch l⟩
 | [],_::_,h,_=>by cases h
 | _::_,[],h,_=>by cases h
 | (a,b)::xs,c::bs,h,hn=>by
  simp only[pD,aK,fv]at h;obtain⟨rfl,h⟩:=h;obtain⟨os,e1,e2,o⟩:=zqx (xs:=xs) (bs:=bs) h fun p l=>hn p (by simp[l]);have hb:=hn (prD c,b) (by simp);have hb:nmD b=true:=hb;cases b with
  | str s =>refine⟨(c,s)::os,?_,?_,?_⟩;show cG [prD c,.str s]::ppD xs=cG [prD c,.str s]::oD os;rw[e1];simp[e2];intro p l;rcases aq.mp l with rfl|l;exact zhm.mp hb;exact o p l
  | _=>cases hb
theorem zmj{d:ae}(h:PlnD d):Pl2 d:=⟨h.pln,fun ts e t o=>by subst e;exact(h.tup.2 t o).pln⟩
theorem zmi{d:ae}(h:PlnD d):Pl3 d:=⟨h.pln,fun ts e=>by subst e;exact⟨h.tup.1,fun t l=>zmj (h.tup.2 t l)⟩⟩
inductive VN:List ae->Nat->(ae->Nat->Prop)->Prop
 | c {bits:Int} {d:ae} {n:Nat} {R:qN} (b0:0<=bits) (b1:bits<=64) (p:PlnD d) (h:∀b:Bool,(b=true↔IsSh bits d)->R (.bool b) n):VN [.int bits,d] n R
def zdo(Z:ZZ):Prop:=QF Z "are_shares" 19 ["bits","thing"] 4 2 VN
theorem zfh(D:DQ Z "are_shares" 19 ["bits","thing"]) (Hm:zeH Z) (Ha:zdp Z) (E1:zdW Z) (Ht:zfY Z) (T:Txt Z.mg):zdo Z:=by
 refine' okN ["bits","thing"] D fun J=>⟨_,(Jb (Jq (JT (Qf (JN (JI (dl (J8 UO T.isi T.tup Qz (dlv 1) Jm)))) (Qm (JN (JI (dl (Jw (Uf rfl) Q6 T.all Ue (Jl (dl (Jy (dnc ["pair"] [] (dil (QU (Jk 1))) (fun _ _ _ _=>(dgv 0 (ndB rfl))) (fun _ _ _ _=>(Jd Ht J (dbv 0 Ja)))))) Jn Q3)))))))) (Jc (Jg Qi)) Js) (Jc (Jg (Qq (Jd Hm J (dbv 0 (dbc (Jd Ha J (dbv 1 Ja)) Ja))) (QK (Jw (Uf rfl) Q6 T.all Ue (Jl (dl (Jy (dnc ["block","name"] [] (dil (QU (Jk 1))) (fun _ _ _ _=>(JK rfl (Jh (dgv 0 (ndB rfl)) (Jh (dgv 1 (ndB rfl)) JJ)))) (fun _ _ _ _=>(Jd E1 J (dbv 1 Ja)))))) Jn Q3))))))),?_⟩;intro ts n R hl h;obtain @⟨bits,d,n,R,b0,b1,p,h⟩:=h;cases d with
 | dict ks =>
  cases ks with
  | nil =>have h:=h false ⟨fun z=>(by cases z),fun⟨bs,e,_⟩=>(by cases e)⟩;wp_walk;exact h
  | cons a b=>exact absurd rfl p.pln
 | tuple ts =>
  obtain⟨l6,N⟩:=p.tup;wp_walk;refine zeS (fun t=>.bool (UX t)) (by lia) ?_ ?_
  ·intro t L K2 X2 v;wp_walk using zea.c (N t L).pln ?_;exact v
  ·wp_walk using Um ?_
   ·obtain⟨xs,rfl⟩:=zf3 ts hc;have U:xs.length<=1000000:=by simpa[ppD] using l6
    have Y:∀q∈xs,PlnD q.1/\PlnD q.2:=fun q C=>by have:=(N (.tuple [q.1,q.2]) (aY.mpr ⟨q,C,rfl⟩)).tup.2;exact⟨this _ (by simp),this _ (by simp)⟩
    have pl:Pl3 (.tuple (xs.map (·.1))):=zmi (Zj (by rw[aJ];exact U) fun t L=>by obtain⟨q,C,rfl⟩:=aY.mp L;exact(Y q C).1);wp_walk using zce.c U ?_,zdj.c b0 b1 pl (fun b hb=>?_)
    ·rename_i hbt;obtain⟨bs,eb,P⟩:=hb.mp hc;refine Qr (cs:=xs) (D:=fun p=>.tuple [p.1,p.2]) (fun p=>.bool (nmD p.2)) (by lia) ?_ ?_
     ·intro q C K2 X2 v;wp_walk using Ze.c (Y q C).2 ?_;exact v
     ·wp_walk using Um ?_;refine h _ ?_;rw[bw];constructor;intro al;obtain⟨os,e1,e2,e3⟩:=zqx (bs:=bs) (fS eb) al;exact⟨os,by rw[e1],by rw[e2];exact P,e3⟩;rintro⟨os,e,S⟩ q C;have G:ppD xs=oD os:=fS e;rw[zq3]at G;have:=zg_ G;subst this;obtain⟨o,ho,rfl⟩:=aY.mp C;exact zhm.mpr (S.2 o ho)
    have I:b=false:=hc;refine h false ⟨fun z=>(by cases z),fun⟨os,e,S⟩=>?_⟩;have G:ppD xs=oD os:=fS e;rw[zq3]at G;have:=zg_ G;subst this;have:IsPt bits (.tuple ((os.map fun p=>(prD p.1,bH p.2)).map (·.1))):=⟨os.map (·.1),by simp[pD],S.1⟩;rw[hb.mpr this]at I;cases I
   refine h false ⟨fun z=>(by cases z),fun⟨os,e,S⟩=>?_⟩;cases e;have:(oD os).all UX=true:=by rw[bw];intro x hx;obtain⟨o,_,rfl⟩:=aY.mp hx;rfl
   rw[this]at hc;cases hc
 | _ =>have h:=h false ⟨fun z=>(by cases z),fun⟨bs,e,_⟩=>(by cases e)⟩;wp_walk;exact h
inductive zhE:List ae->Nat->(ae->Nat->Prop)->Prop
 | c {bits:Int} {os ks:List ((Int×Int)×Str)} {n:Nat} {R:qN} (b0:0<=bits) (b1:bits<=64) (l1:os.length<=1000000) (l2:ks.length<=1000000) (S1:Shr bits os) (S2:Shr bits ks) (h:∀b:Bool,(b=true↔Agr os ks)->R (.bool b) n):zhE [.tuple (oD os),.tuple (oD ks)] n R
def zjM(Z:ZZ):Prop:=QF Z "agree" 21 ["outs","kept"] 4 2 zhE
theorem zmv(D:DQ Z "agree" 21 ["outs","kept"]) (E4:ze_ Z) (HB:zjL Z) (T:Txt Z.mg):zjM Z:=by
 refine' okN ["outs","kept","at","by","one","name","other","theirs"] D fun C=>⟨_,(Jb (dsv 2 (ndB rfl) Ji) (Jb (dsv 3 (ndB rfl) Ji) (Jb (zna cW (JT (YW (Jp (Ua C) Q7 (dlv 2) (dl (Jw Qa J7 T.len J2 (Jl (dlv 0) Jn Jm))) (Jj _)) (Y5 (Jp (Ua C) Q7 (dlv 3) (dl (Jw Qa J7 T.len J2 (Jl (dlv 1) Jn Jm))) (Jj _))))) (Jb (QV (Jt (dlv 0) (dlv 2)) (JK rfl (Jh (dgv 4 (ndB rfl)) (Jh (dgv 5 (ndB rfl)) JJ)))) (Jb (QV (Jt (dlv 1) (dlv 3)) (JK rfl (Jh (dgv 6 (ndB rfl)) (Jh (dgv 7 (ndB rfl)) JJ)))) (Jb (Jq (JT (YW (Jp (QX C) QP (dlv 5) (dlv 7) (Jj _)) (Y5 (JN (JI (dl (Jd HB C (dbv 4 (dbv 6 Ja))))))))) (Jc (Jg Qi)) Js) (Jc (Jq (Jp (Ua C) Q7 (dl (Jd E4 C (dbv 4 Ja))) (dl (Jd E4 C (dbv 6 Ja))) (Jj _)) (Jc (znX (i:=2) (ndB rfl) rfl (dP rfl) Ji znN)) (Jc (znX (i:=3) (ndB rfl) rfl (dP rfl) Ji znN)))))))) (Jc (Jg Qi))))),?_⟩;intro ts n R hl h;obtain @⟨bits,os,ks,n,R,b0,b1,l1,l2,S1,S2,h⟩:=h;wp_walk;refine zn7 (fun m ρ n'=>n'=n/\∃(at_ o:Nat) (c4 c5 c6 c7:Option Cell),ρ=[some (.val (.tuple (oD os))),some (.val (.tuple (oD ks))),some (.val (.int at_)),some (.val (.int o)),c4,c5,c6,c7]/\m=(os.length - at_)+(ks.length - o)/\at_<=os.length/\o<=ks.length /\
   (∀(i:Nat) p,i<at_->os[i]?=some p->∀q∈ks,okPr p q)/\(∀(j:Nat) q,j<o->ks[j]?=some q->∀p∈os,okPr p q)) ⟨rfl,0,0,_,_,_,_,rfl,rfl,by lia,by lia,fun i p hi=>absurd hi (nZ _),fun i p hi=>absurd hi (nZ _)⟩ ?_
 rintro m ρ n' NX RT BK ⟨rfl,at_,o,c4,c5,c6,c7,rfl,rfl,la,lb,I1,I2⟩ hN hR hB;have fin:(∀p∈os,∀q∈ks,okPr p q)->∀ρ,BK ρ n':=fun al ρ=>hB _ _ (h true ⟨fun _=>al,fun _=>rfl⟩);have A1:(∀(i:Nat) p,i<at_->os[i]?=some p->∀q∈ks,okPr p q)->os.length<=at_->∀p∈os,∀q∈ks,okPr p q:=fun I le p J q G=>by obtain⟨i,hi,rfl⟩:=dQ J;exact I i _ (by lia) (aC hi) q G
 have A2:(∀(j:Nat) q,j<o->ks[j]?=some q->∀p∈os,okPr p q)->ks.length<=o->∀p∈os,∀q∈ks,okPr p q:=fun I le p J q G=>by obtain⟨i,hi,rfl⟩:=dQ G;exact I i _ (by lia) (aC hi) p J
 wp_walk
 ·rename_i ha;rw[Q8]at ha hc;have ha:at_<os.length:=by lia
  have hb:o<ks.length:=by lia
  obtain⟨p,L⟩:∃p,os[at_]?=some p:=⟨_,aC ha⟩;obtain⟨q,eq⟩:∃q,ks[o]?=some q:=⟨_,aC hb⟩;have J:=aX L;have G:=aX eq;have Bp:=S1.1.1 _ (aY.mpr ⟨p,J,rfl⟩);have Bq:=S2.1.1 _ (aY.mpr ⟨q,G,rfl⟩);have p0:=Bp.1;have p1:=Bp.2.1;have q0:=Bq.1;have q1:=Bq.2.1;have pl:=Bp.lt b0 b1;have ql:=Bq.lt b0 b1;have ap:=zsw Bp Bq;have S:okPr p q->eB p.1<eB q.1->∀a b c d,NX [some (.val (.tuple (oD os))),some (.val (.tuple (oD ks))),some (.val (.int (at_+1))),some (.val (.int o)),a,b,c,d] n':=fun ok lt a b c d=>by refine hN ((os.length - (at_+1))+(ks.length - o)) _ _ (by lia) ⟨rfl,at_+1,o,a,b,c,d,rfl,rfl,by lia,lb,fun i r hi N s Y=>?_,I2⟩;by_cases z:i=at_;subst z;rw[L]at N;cases N;obtain⟨j,x,rfl⟩:=dQ Y;rcases fH j o with y|y|y;exact I2 j _ y (aC x) p J;subst y;rw[aC x]at eq;cases eq;exact ok;right;left;have pw:=eM.mp S2.1.2;have:=cY.mp pw o j hb x y;rw[aC hb]at eq;cases eq;lia;exact I1 i r (by lia) N s Y
  have U:okPr p q->¬eB p.1<eB q.1->∀a b c d,NX [some (.val (.tuple (oD os))),some (.val (.tuple (oD ks))),some (.val (.int at_)),some (.val (.int (o+1))),a,b,c,d] n':=fun ok lt a b c d=>by refine hN ((os.length - at_)+(ks.length - (o+1))) _ _ (by lia) ⟨rfl,at_,o+1,a,b,c,d,rfl,rfl,la,by lia,I1,fun i r hi N s Y=>?_⟩;by_cases z:i=o;subst z;rw[eq]at N;cases N;obtain⟨j,x,rfl⟩:=dQ Y;rcases fH j at_ with y|y|y;exact I1 j _ y (aC x) q G;subst y;rw[aC x]at L;cases L;exact ok;right;right;have pw:=eM.mp S1.1.2;have:=cY.mp pw at_ j ha x y;rw[aC ha]at L;cases L;lia;exact I2 i r (by lia) N s Y
  wp_walk using zrB (k:=at_) rfl (zq4 L) ?_,zrB (k:=o) rfl (zq4 eq) ?_,zhD.c p0 (by lia) q0 (by lia) pl.1 (by lia) ql.1 (by lia) ?_,Zo.c p0 (by lia) ?_,Zo.c q0 (by lia) ?_;rename_i y;exact S (.inl y) hc _ _ _ _;rename_i y;exact U (.inl y) hc _ _ _ _;rename_i y;exact S (.inr (ap.mp y)) hc _ _ _ _;rename_i y;exact U (.inr (ap.mp y)) hc _ _ _ _;rename_i y;refine hR _ _ (h false ⟨fun z=>(by cases z),fun al=>?_⟩);rcases al p J q G with z|z;exact absurd z y;rw[ap.mpr z]at hc;cases hc
 rw[Q8]at hc;exact fin (A2 I2 (by lia)) _;rw[Q8]at hc;exact fin (A1 I1 (by lia)) _
def zgG:GD:=fun ts n R=>∃(d:ae),ts=[d]/\PlnD d/\∀b:Bool,(b=true↔IsDl d)->R (.bool b) n
theorem zjb{d:ae}{n:Nat}{R:qN}(p:PlnD d)(i:IsDl d)(h:R (.bool true) n):zgG [d] n R:=⟨d,rfl,p,fun b hb=>by rw[hb.mpr i];exact h⟩
def zfZ(Z:ZZ):Prop:=QF Z "is_deal" 18 ["thing"] 5 1 zgG
theorem ziT(D:DQ Z "is_deal" 18 ["thing"]) (EY:zdo Z) (HC:zjM Z) (EW:zdb Z) (T:Txt Z.mg):zfZ Z:=by
 refine' okN ["thing","bits","outs","kept"] D fun I=>⟨_,(Jb (Jq (JT (Qf (JN (JI (dl (J8 UO T.isi T.tup Qz (dlv 0) Jm)))) (Qm (Jp (QX I) QP (dl (Jw Qa J7 T.len J2 (Jl (dlv 0) Jn Jm))) dli (Jj _))))) (Jc (Jg Qi)) Js) (Jb (QV (Jk 0) (JK rfl (Jh (dgv 1 (ndB rfl)) (Jh (dgv 2 (ndB rfl)) (Jh (dgv 3 (ndB rfl)) JJ))))) (Jb (Jq (JT (Qf (JN (JI (dl (Jd EW I (dbv 1 Ja))))) (Qm (JN (Vt JZ JY JZ JY dli (dlv 1) dli))))) (Jc (Jg Qi)) Js) (Jc (Jg (Qq (Jd EY I (dbv 1 (dbv 2 Ja))) (Qq (Jd EY I (dbv 1 (dbv 3 Ja))) (QK (Jd HC I (dbv 2 (dbv 3 Ja))))))))))),?_⟩;intro ts n R hl h;obtain⟨d,rfl,p,h⟩:=h;have v:¬IsDl d->R (.bool false) n:=fun N=>h false ⟨fun z=>(by cases z),fun z=>absurd z N⟩;have no:(∀d',d≠dlD d')->R (.bool false) n:=fun N=>v fun⟨d',e,_⟩=>N d' e;cases d with
 | dict Y =>
  cases Y with
  | nil =>have h:=no fun _ z=>(by cases z);wp_walk;exact h
  | cons a b=>exact absurd rfl p.pln
 | tuple ts =>
  obtain⟨l6,G⟩:=p.tup;match ts,G,h,no,v with
  | [],_,h,no,_ =>have h:=no fun _ z=>(by cases z);wp_walk;all_goals first|exact h|(exfalso;simp at hc;done)
  | [x],_,h,no,_ =>have h:=no fun _ z=>(by cases z);wp_walk;all_goals first|exact h|(exfalso;simp at hc;done)
  | [x,y],_,h,no,_ =>have h:=no fun _ z=>(by cases z);wp_walk;all_goals first|exact h|(exfalso;simp at hc;done)
  | x::y::z::u::r,_,h,no,_ =>have h:=no fun _ z=>(by cases z);wp_walk;all_goals first|exact h|(exfalso;simp at hc;lia)
  | [x,y,z],G,h,no,v =>
   have px:=G x (by simp);have py:=G y (by simp);have pz:=G z (by simp);have S:(∃b,x=.int b)\/(Zz x=false/\∀b,x≠.int b):=by
    cases x with
    | int b=>exact .inl ⟨b,rfl⟩
    | _=>exact .inr ⟨rfl,fun _ z=>by cases z⟩
   rcases S with⟨bits,rfl⟩|⟨S,nx⟩
   ·wp_walk using US (b:=true) rfl px.pln ?_
    ·rename_i U;refine VN.c (by lia) hc py fun b hb=>?_;wp_walk
     ·obtain⟨os,rfl,S1⟩:=hb.mp (by assumption);refine VN.c (by lia) (by lia) pz fun b' J=>?_;wp_walk;obtain⟨Y,rfl,S2⟩:=J.mp (by assumption);refine zhE.c (bits:=bits) (by lia) (by lia) (by rw[<- Q8];exact py.tup.1) (by rw[<- Q8];exact pz.tup.1) S1 S2 fun b'' C=>h _ ⟨fun z=>?_,fun⟨d,e,D⟩=>?_⟩;exact⟨(bits,os,Y),rfl,U,by lia,S1,S2,C.mp z⟩;obtain⟨e1,e2,L⟩:=dl3 e;have z1:=zkb (fS e2);have z2:=zkb (fS L);refine C.mpr ?_;rw[z1,z2];exact D.2.2.2.2;have hf:b'=false:=by assumption
      refine v fun⟨d',e,D⟩=>?_;obtain⟨e1,e2,L⟩:=dl3 e;have e1:bits=d'.1:=by cases e1;rfl
      have:=J.mpr ⟨_,L,by rw[e1];exact D.2.2.2.1⟩;rw[this]at hf;cases hf
     have hf:b=false:=by assumption
     refine v fun⟨d',e,D⟩=>?_;obtain⟨e1,e2,L⟩:=dl3 e;have e1:bits=d'.1:=by cases e1;rfl
     have:=hb.mpr ⟨_,e2,by rw[e1];exact D.2.2.1⟩;rw[this]at hf;cases hf
    refine v fun⟨d',e,D⟩=>?_;have e1:bits=d'.1:=by have:=(dl3 e).1;cases this;rfl
    have:=D.2.1;lia;refine v fun⟨d',e,D⟩=>?_;have e1:bits=d'.1:=by have:=(dl3 e).1;cases this;rfl
    have:=D.1;lia;exact absurd rfl hc
   ·have h:=no fun d' e=>nx _ (dl3 e).1;wp_walk using US S px.pln ?_;all_goals first|exact h|(exfalso;simp at hc;done)
 | _ =>have h:=no fun _ z=>(by cases z);wp_walk;exact h
inductive zcD:List ae->Nat->(ae->Nat->Prop)->Prop
 | c {b:Int} {n:Nat} {R:qN} (b1:1<=b) (b64:b<=64) (h:R (.int b) n):zcD [.str (numS b)] n R
def zdV(Z:ZZ):Prop:=QF Z "number_of" 28 ["text"] 1 1 zcD
theorem zf7(D:DQ Z "number_of" 28 ["text"]) (E5:∃t,Z.mg "MOST_FIGURES" = some (.int 20 t)) (T:Txt Z.mg):zdV Z:=by
 refine' okN ["text"] D fun U=>⟨_,(Jb (Jq (JT (Qf (JN (Vt JZ JY JZ JY dli (dl (Jw Qa J7 T.len J2 (Jl (dlv 0) Jn Jm))) (dl (zne E5)))) (Qm (JT (YW (Jp (Qx U) Qt (dl (Jt (dlv 0) dli)) (dl Jo) (Jj _)) (Y5 (Jp (QX U) QP (dlv 0) (dl Jo) (Jj _)))))))) (Jc (Jg Qv)) Js) (Jb (Jq (JN (JI (dl (Jw (Uf rfl) Q6 T.all Ue (Jl (dl (Jy (dnc ["figure"] [] (dil (zk6 (Jk 0))) (fun _ _ _ _=>(dgv 0 (ndB rfl))) (fun _ _ _ _=>(zfF JZ JY JZ JY (dl Jo) (dlv 0) (dl Jo)))))) Jn Q3))))) (Jc (Jg Qv)) Js) (Jc (Jg (Q5 zgS zkQ T.int boot_int (Jl (dlv 0) Jn Jm)))))),?_⟩;rintro ts n R hl @⟨b,n,R,b1,b64,h⟩;obtain⟨I,h2,S,h4,Y⟩:=zkc b1 b64;generalize numS b=x at I h2 S h4 Y;have C:x.length=x.cps.toList.length:=by simp[gn]
 obtain⟨c,cs,N⟩:∃c cs,x.cps.toList=c::cs:=by
  cases e:x.cps.toList with
  | nil=>rw[e]at I;simp at I
  | cons c cs=>exact⟨c,cs,rfl⟩
 have v:c≠48:=fun z=>h4 (by rw[N,z];rfl);have J:∀{R:ae->Prop},R (.str ⟨#[c]⟩)->oIx (.str x) (.int 0) R:=fun {R} h=>zoX (k:=0) (by rw[C];lia) rfl (by rw[N];rfl) h;have G:(⟨#[c]⟩:Str)≠aa "0":=fun z=>v (by have:=congrArg (fun s:Str=>s.cps.toList) z;rw[show(aa "0").cps.toList=[48] by decide +kernel]at this;simpa using this);wp_walk using J ?_;rw[C];lia;exfalso;have:=congrArg (fun s:Str=>s.cps.toList) hc;rw[show(aa "0").cps.toList=[48] by decide +kernel,N]at this;injection this with e1 e2;exact v e1;exact absurd (by assumption) G
 ·refine Qr (cs:=x.cps.toList) (D:=fun c=>.str ⟨#[c]⟩) (fun _=>.bool true) (by lia) (fun d hd K X hK=>?_) ?_
  ·obtain⟨d1,d2⟩:=S d hd;have s9:(aa "9").cps.toList=[57]:=by decide +kernel
   have s0:(aa "0").cps.toList=[48]:=by decide +kernel
   have u:∀{a b:Nat},([a]<[b])↔a<b:=fun {a b}=>by simp[List.cons_lt_cons_iff]
   wp_walk;exfalso;rw[s0]at hc;have hc:¬(!decide ([d]<[48]))=true:=by simpa using hc
   rw[eJ,decide_eq_false_iff_not,u]at hc;lia;rw[s9,show(decide ([57]<(⟨#[d]⟩:Str).cps.toList))=false from decide_eq_false (fun z=>by have:=u.mp z;lia)];exact hK
  ·wp_walk using Um ?_;exact⟨by rw[C];lia,_,Y,h⟩;exact absurd hc (by simp)
 exact absurd hc (by rw[C];lia);exact absurd hc (by rw[C];lia)
inductive zeb:List ae->Nat->(ae->Nat->Prop)->Prop
 | c {b:Int} {n:Nat} {R:qN} (b1:1<=b) (b64:b<=64) (h:R (.int b) n):zeb [.str (QG b)] n R
def zf0(Z:ZZ):Prop:=QF Z "bits_in" 31 ["row"] 2 1 zeb
theorem ziU(D:DQ Z "bits_in" 31 ["row"]) (o:zdV Z) (T:Txt Z.mg):zf0 Z:=by
 refine' okN ["row","word","blank","figures","bits"] D fun l=>⟨_,(Jb (QV (zpo (dlv 0) Jo) (JK rfl (Jh (dgv 1 (ndB rfl)) (Jh (dgv 2 (ndB rfl)) (Jh (dgv 3 (ndB rfl)) JJ))))) (Jb (dsv 4 (ndB rfl) (Jd o l (dbv 3 Ja))) (Jb (Jq (JT (Qf (Jp (QX l) QP (dlv 1) (dl Jo) (Jj _)) (Qf (Jp Zw ZH (dlv 4) (dl Qv) (Jj _)) (Qm (JN (Vt JZ JY JZ JY dli (dlv 4) dli)))))) (Jc (Jg Qv)) Js) (Jc (Jg (Jk 4)))))),?_⟩;rintro ts n R hl @⟨b,n,R,b1,b64,h⟩;have pt:=zjc b1 b64;have le:=(Vq b1 b64).1;generalize QG b=x at pt le;wp_walk;decide +kernel;lia;rw[show(QA x (aa " ")).map bH=[.str (aa "bits"),.str (aa " "),.str (numS b)] by rw[pt];rfl];wp_walk using zcD.c b1 b64 ?_;all_goals first
  | exact h
  | exact absurd hc (by lia)
  | exact absurd hc (by decide)
  | exact absurd rfl hc
  | (cases hc;done)
  | skip
inductive Q4:List ae->Nat->(ae->Nat->Prop)->Prop
 | c {bits:Int} {w:Str} {p:NP} {n:Nat} {R:qN} (b1:1<=bits) (b64:bits<=64) (hw:IsW w) (B:IsBk bits p.1.1 p.1.2) (hn:IsNm p.2) (h:R (.tuple [.str w,.tuple [prD p.1,.str p.2]]) n):Q4 [.int bits,.str (rowS bits w p)] n R
def zeG(Z:ZZ):Prop:=QF Z "share_in" 32 ["bits","row"] 2 2 Q4
theorem zhf(D:DQ Z "share_in" 32 ["bits","row"]) (N:zeJ Z) (U:zdW Z) (T:Txt Z.mg):zeG Z:=by
 refine' okN ["bits","row","words","word","figures","name","block"] D fun v=>⟨_,(Jb (dsv 2 (ndB rfl) (Jy (ziv (dlv 1) Jo))) (Jb (Jq (JT (Qf (Jp (QX v) QP (dl (Jw Qa J7 T.len J2 (Jl (dlv 2) Jn Jm))) dli (Jj _)) (Qm (Jp (zf4 v) zir (dl (Jt (dlv 2) dli)) (dl (JF (dbc Jo (dbc Jo Ja)))) rfl)))) (Jc (Jg (JF (dbc Qv (dbc Qv Ja))))) Js) (Jb (zpj rfl (Jk 2) (Jh (dgv 3 (ndB rfl)) (Jh (dgv 4 (ndB rfl)) (Jh (dgv 5 (ndB rfl)) JJ)))) (Jb (dsv 6 (ndB rfl) (Jd N v (dbv 0 (dbv 4 Ja)))) (Jb (Jq (JT (Qf (Jp Zw ZH (dlv 6) (dl Qv) (Jj _)) (Qm (JN (JI (dl (Jd U v (dbv 5 Ja)))))))) (Jc (Jg (JF (dbc Qv (dbc Qv Ja))))) Js) (Jc (Jg (JF (dbv 3 (dbc (JF (dbv 6 (dbv 5 Ja))) Ja)))))))))),?_⟩;rintro ts n R hl @⟨bits,w,⟨⟨i,g⟩,nm⟩,n,R,b1,b64,hw,B,hn,h⟩;have C:=ziL (bits:=bits) (p:=((i,g),nm)) hw hn;have le:=(Vl (p:=((i,g),nm)) b64 hw B.1 hn).1;generalize rowS bits w ((i,g),nm)=x at C le;wp_walk;decide +kernel;lia;rw[C];show 3<=100000;decide;rw[show(cT x (aa " ")).map bH=[.str w,.str (mkS (begL bits i g)),.str nm] by rw[C];rfl];have S:blkT bits (begL bits i g)=some (i,g):=znk (by lia) B;have J:(begL bits i g).length<=1000:=aH (zdl b64 B.1) (by decide);have Y:∀c∈begL bits i g,c<1114112:=fun c hc=>by rcases zhQ hc with z|z|z <;> lia
 have L:∀{n:Nat} {R:qN},R (.tuple [.int i,.int g]) n->VA [.int bits,.str (mkS (begL bits i g))] n R:=fun {n R} h=>VA.c (by lia) b64 J Y (by rw[S];exact h);wp_walk using L ?_,zja hn ?_;rcases hw with rfl|rfl;exact(okK_str (by decide +kernel)).okd;exact(okK_str (by decide +kernel)).okd;intro t I;simp only[aq,av,or_false]at I;rcases I with rfl|rfl;exact(okK_str (by decide +kernel)).okd;exact(okK_str (by decide +kernel)).okd;exact absurd (show false=true from hc) (by decide);exact h;exfalso;have G:=iW.mp hc (.str w) (by rcases hw with rfl|rfl <;> simp);exact G (by rcases hw with rfl|rfl <;> decide +kernel);refine absurd ?_ hc;rw[aJ,C];rfl
theorem zot{s:Str}(h:IsNm s):PlnD (.str s):=zib (by have:=h.2.1;lia)
theorem zos{b:Int×Int}:PlnD (prD b):=Zj (by simp) (UN zfc (UN zfc zfb))
theorem zjT{os:List ((Int×Int)×Str)}(x:os.length<=1000000)(h:∀p∈os,IsNm p.2):PlnD (.tuple (oD os)):=Zj (by rw[Q8];exact x) fun t o=>by obtain⟨p,v,rfl⟩:=aY.mp o;exact Zj (by simp) (UN zos (UN (zot (h p v)) zfb))
theorem zou{d:Deal}(D:Dl d)(o:d.2.1.length<=1000000)(l:d.2.2.length<=1000000):PlnD (dlD d):=Zj (by simp) (UN zfc (UN (zjT o D.2.2.1.2) (UN (zjT l D.2.2.2.1.2) zfb)))
theorem zla{bits:Int}{os o:List NP}(G:1<=bits)(v:bits<=64)(x:∀p∈os,0<=p.1.2/\IsNm p.2)(L:∀p∈o,0<=p.1.2/\IsNm p.2)(lo:os.length<=1000)(U:o.length<=1000):(UC (bits,os,o)).length<=1000000:=by
 have e:=size_glued (aa "\n") (J1 bits os o);have sm:∀l:List Str,(∀s∈l,s.length<=80)->(l.map (·.length)).sum<=80*l.length:=by
  intro l;induction l with
  | nil=>intro _;exact aw _
  | cons s l S =>intro h;have R:=h s (.head _);have N:=S fun t C=>h t (.tail _ C);rw[aK,List.sum_cons,aF];lia
 have R:=sm (J1 bits os o) fun s J=>(ze5 G v x L s J).1;have N:(J1 bits os o).length=1+(os.length+o.length):=by simp[J1];lia
 have I:(aa "\n").length=1:=by decide +kernel
 show(eV _ _).length<=_;unfold eV;rw[e,I];lia
inductive zcC:List ae->Nat->(ae->Nat->Prop)->Prop
 | c {d:Deal} {n:Nat} {R:qN} (D:Dl d) (h1:d.2.1.length<=1000) (h2:d.2.2.length<=1000) (h:R (dlD d) n):zcC [.str (UC d)] n R
def zdU(Z:ZZ):Prop:=QF Z "read_deal" 30 ["text"] 6 1 zcC
theorem zf6(D:DQ Z "read_deal" 30 ["text"]) (Hu:zf0 Z) (Hq:zeG Z) (Hv:zfZ Z) (T:Txt Z.mg):zdU Z:=by
 refine' okN ["text","first","rows","bits","shares","at","row","word","share","deal"] D fun hr=>⟨_,(Jb (Jq (JN (JI (dl (J8 znR T.isi T.str VD (dlv 0) Jm)))) (Jc zhG) Js) (Jb (znb (i:=1) (j:=2) rfl (ndB rfl) rfl rfl (dP rfl) (dP rfl) (ziv (dlv 0) Jo)) (Jb (dsv 3 (ndB rfl) (Jd Hu hr (dbv 1 Ja))) (Jb (Jq (Jp Zw ZH (dlv 3) (dl Qv) (Jj _)) (Jc zhG) Js) (zi6 (i:=4) (jb:=3) (kd:=9) cW rfl (by decide +kernel) (ndB rfl) rfl (dP rfl) (by walk_at "V") rfl rfl rfl (by walk_at "V") rfl rfl rfl (dP rfl) T.tup rfl (by first|exact .inl rfl|exact .inr rfl) (by first|exact .inl rfl|exact .inr rfl) rfl rfl rfl rfl rfl rfl rfl rfl (zpm T.enu (Jk 2)) (JK rfl (Jh (dgv 5 (ndB rfl)) (Jh (dgv 6 (ndB rfl)) JJ))) (by decide) (zod (jw:=7) (js:=8) (by decide +kernel) (ndB rfl) rfl (by walk_at "V") rfl rfl rfl (by walk_at "V") rfl rfl rfl (by walk_at "V") rfl rfl (by decide) (Jd Hq hr (dbv 3 (dbv 6 Ja))) (JK rfl (Jh (dgv 7 (ndB rfl)) (Jh (dgv 8 (ndB rfl)) JJ))) rfl rfl rfl (Jp Zw ZH (dlv 8) (dl Qv) (Jj _)) (Jp (Qx hr) Qt (dlv 7) (dl Jo) (Jj _)) rfl rfl rfl rfl rfl) (Jb (Jq (JN (JI (dl (Jd Hv hr (dbv 9 Ja))))) (Jc zhG) Js) (Jc (Jg (Jk 9))))))))),?_⟩;rintro ts n R hl @⟨⟨bits,os,ks⟩,n,R,D,h1,h2,h⟩;have D':=D;obtain⟨Y,I,S1,S2,ag⟩:=D';have Y:1<=bits:=Y;have I:bits<=64:=I;have h1:os.length<=1000:=h1;have h2:ks.length<=1000:=h2;have J:∀{os:List NP},Shr bits os->∀p∈os,IsBk bits p.1.1 p.1.2/\IsNm p.2:=fun S p U=>⟨S.1.1 _ (aY.mpr ⟨p,U,rfl⟩),S.2 p U⟩;have o1:∀p∈os,0<=p.1.2/\IsNm p.2:=fun p U=>⟨(J S1 p U).1.1,(J S1 p U).2⟩;have o2:∀p∈ks,0<=p.1.2/\IsNm p.2:=fun p U=>⟨(J S2 p U).1.1,(J S2 p U).2⟩;have ls:=zla Y I o1 o2 h1 h2;have sp:=zhH Y I o1 o2;generalize UC (bits,os,ks)=x at ls sp;have lr:(J1 bits os ks).length<=100000:=by simp[J1];lia
 wp_walk;decide +kernel;exact ls;rw[sp];exact lr;rw[sp,J1,aK];refine⟨_,_,rfl,?_⟩;wp_walk using zeb.c Y I ?_;exact absurd (show false=true from hc) (by decide);refine kh (show 4<10 by decide) ?_;show zpx _ [_,_,_,_,_,_,_,_,_,_] n _;wp_walk;have et:UD ((os.map (rowS bits (aa "out"))++ks.map (rowS bits (aa "kept"))).map bH)=(os.zipIdx.map fun q=>cG [.int (q.2:Int),.str (rowS bits (aa "out") q.1)])++((ks.zipIdx os.length).map fun q=>cG [.int (q.2:Int),.str (rowS bits (aa "kept") q.1)]):=by unfold UD;simp[dO,List.zipIdx_append,List.zipIdx_map];rfl
 generalize ((os.map (rowS bits (aa "out"))++ks.map (rowS bits (aa "kept"))).map bH)=rws at et ⊢;have w1:IsW (aa "out"):=.inl rfl;have w2:IsW (aa "kept"):=.inr rfl;have run1:∀(F:List ae->List ae->En->Nat->Prop) (l:List (NP×Nat)) (N xs L:qD) (a b o u G C:Option Cell),QR [o,u,G,C]=true->(∀q∈l,IsBk bits q.1.1.1 q.1.1.2/\IsNm q.1.2)->L=[]->xs.length+l.length<=2000->L.length+l.length<=2000->(∀o u G C:Option Cell,QR [o,u,G,C]=true->shF (Qd (JB (Jv 5) (JB (Jv 6) Qc))) (shB (dFn Q4 (JG (dVar 3) (JG (dVar 6) dNil))) (Qd (JB (Jv 7) (JB (Jv 8) Qc))) (J5 (dOp oIs (dVar 8) (dC fL))) (J5 (dOp oEq (dVar 7) (dC (bH (aa "out"))))) 7 8 (aa "out") (aa "kept")) F N (xs++l.map fun q=>cG [prD q.1.1,.str q.1.2]) L [a,b,some (.val (.list rws)),some (.val (.int bits)),none,o,u,G,C,none] n)->shF (Qd (JB (Jv 5) (JB (Jv 6) Qc))) (shB (dFn Q4 (JG (dVar 3) (JG (dVar 6) dNil))) (Qd (JB (Jv 7) (JB (Jv 8) Qc))) (J5 (dOp oIs (dVar 8) (dC fL))) (J5 (dOp oEq (dVar 7) (dC (bH (aa "out"))))) 7 8 (aa "out") (aa "kept")) F ((l.map fun q=>cG [.int (q.2:Int),.str (rowS bits (aa "out") q.1)])++N) xs L [a,b,some (.val (.list rws)),some (.val (.int bits)),none,o,u,G,C,none] n:=by
  intro F l;induction l with
  | nil=>intro N xs L a b o u G C hc _ _ _ _ h;simpa using h o u G C hc
  | cons q l ih =>intro N xs L a b o u G C hc0 ok hy lx ly h;obtain⟨B,hn⟩:=ok q (.head _);rw[aF]at lx ly;rw[aK,cA];show(Qd (JB (Jv 5) (JB (Jv 6) Qc))) _ _ _;wp_walk;show dFn Q4 _ [_,_,_,_,_,_,_,_,_,_] n _;wp_walk;refine Q4.c Y I w1 B hn ?_;wp_walk;rfl;exact fun _=>hy;refine⟨_,_,rfl,rfl,by lia,by lia,.inl ⟨rfl,?_⟩⟩;refine ih N _ L a b _ _ _ _ rfl (fun z hz=>ok z (.tail _ hz)) hy (by rw[aM,gM];lia) (by lia) fun o u G C hc=>?_;have:=h o u G C hc;rw[aK]at this;rwa [aA]
 have run2:∀(F:List ae->List ae->En->Nat->Prop) (l:List (NP×Nat)) (N xs L:qD) (a b o u G C:Option Cell),QR [o,u,G,C]=true->(∀q∈l,IsBk bits q.1.1.1 q.1.1.2/\IsNm q.1.2)->xs.length+l.length<=2000->L.length+l.length<=2000->(∀o u G C:Option Cell,QR [o,u,G,C]=true->shF (Qd (JB (Jv 5) (JB (Jv 6) Qc))) (shB (dFn Q4 (JG (dVar 3) (JG (dVar 6) dNil))) (Qd (JB (Jv 7) (JB (Jv 8) Qc))) (J5 (dOp oIs (dVar 8) (dC fL))) (J5 (dOp oEq (dVar 7) (dC (bH (aa "out"))))) 7 8 (aa "out") (aa "kept")) F N xs (L++l.map fun q=>cG [prD q.1.1,.str q.1.2]) [a,b,some (.val (.list rws)),some (.val (.int bits)),none,o,u,G,C,none] n)->shF (Qd (JB (Jv 5) (JB (Jv 6) Qc))) (shB (dFn Q4 (JG (dVar 3) (JG (dVar 6) dNil))) (Qd (JB (Jv 7) (JB (Jv 8) Qc))) (J5 (dOp oIs (dVar 8) (dC fL))) (J5 (dOp oEq (dVar 7) (dC (bH (aa "out"))))) 7 8 (aa "out") (aa "kept")) F ((l.map fun q=>cG [.int (q.2:Int),.str (rowS bits (aa "kept") q.1)])++N) xs L [a,b,some (.val (.list rws)),some (.val (.int bits)),none,o,u,G,C,none] n:=by
  intro F l;induction l with
  | nil=>intro N xs L a b o u G C hc _ _ _ h;simpa using h o u G C hc
  | cons q l ih =>intro N xs L a b o u G C hc0 ok lx ly h;obtain⟨B,hn⟩:=ok q (.head _);rw[aF]at lx ly;rw[aK,cA];show(Qd (JB (Jv 5) (JB (Jv 6) Qc))) _ _ _;wp_walk;show dFn Q4 _ [_,_,_,_,_,_,_,_,_,_] n _;wp_walk;refine Q4.c Y I w2 B hn ?_;wp_walk;rfl;intro z;exact absurd (of_decide_eq_true z) (by decide +kernel);refine⟨_,_,rfl,rfl,by lia,by lia,.inr ⟨rfl,?_⟩⟩;refine ih N xs _ a b _ _ _ _ rfl (fun z hz=>ok z (.tail _ hz)) (by lia) (by rw[aM,gM];lia) fun o u G C hc=>?_;have:=h o u G C hc;rw[aK]at this;rwa [aA]
 rw[et];have zm:∀{l:List NP} {k:Nat},(l.zipIdx k).map (fun q=>cG [prD q.1.1,.str q.1.2])=oD l:=fun {l k}=>by rw[show(fun q:NP×Nat=>cG [prD q.1.1,.str q.1.2])=(fun p:NP=>cG [prD p.1,.str p.2])∘Prod.fst from rfl,<- cx,lW];rfl
 have mz:∀{l:List NP} {k:Nat} {q:NP×Nat},q∈l.zipIdx k->q.1∈l:=fun {l k q} h=>by have:q.1∈(l.zipIdx k).map Prod.fst:=aY.mpr ⟨q,h,rfl⟩;rwa [lW]at this
 refine run1 _ os.zipIdx _ [] [] _ _ _ _ _ _ rfl (fun q hq=>J S1 _ (mz hq)) rfl (by simp;lia) (by simp;lia) fun o u G C hc=>?_;rw[<- cq ((ks.zipIdx os.length).map _)];refine run2 _ (ks.zipIdx os.length) [] _ [] _ _ _ _ _ _ hc (fun q hq=>J S2 _ (mz hq)) (by simp;lia) (by simp;lia) fun o u G C hc=>?_;rw[zm,zm,cV,cV];refine⟨by simpa[QR] using hc,_,rfl,?_⟩;show sSeq _ _ _ [_,_,_,_,_,_,_,_,_,some (.val (dlD (bits,os,ks)))] n;wp_walk;refine zjb (zou D (by show os.length<=_;lia) (by show ks.length<=_;lia)) ⟨_,rfl,D⟩ ?_;wp_walk;exact h
theorem scH:Uq ["_law_script","_law_k","_law_cell"] ["_law_script","_law_k"] (JC (top 34)):=⟨rfl,rfl,rfl,by decide +kernel,rfl,by decide +kernel,by decide +kernel⟩
theorem zgd{f:ah}{fd:cJ}(D:Def K mg "_law_hand" (top 34) ["_law_script","_law_k"] f fd) (T:Txt mg):FnOk P w K mg base CX0 1 f fd ["_law_script","_law_k"] (Z5 K):=by
 refine D.F.ok scH (fun x H Q E h=>?_) (fun I A outer s H x Q E N h=>?_);obtain⟨a,ns,k,rfl,_⟩:=h;rfl;obtain⟨a,ns,k,rfl,v,L,J,R,q⟩:=h;refine⟨_,J4 (QD (i:=2) scH.nd rfl (dP rfl) Jz)
  (J4 (Zy (zg8 zqT (pv 1) (YH zgR T.len J2 (pb_v 0 Qo)) (Jj _)) (U6 (QD (i:=2) scH.nd rfl (dP rfl) (Uk Ur (pv 0) (pv 1) (fun _ _=>rfl)))) Vg)
  (U6 (ZX (Vf (znI (Jx QW (pv 2) (Zx zgT T.int boot_int (zqK (zjZ zqW (pv 2) (Jx zqQ Jz Jz) (Jj _)) Qo)))
   (znI (Jx Q9 (Jx Q9 (Jx UI (pv 2) Jz) (Jx QW Jz (pv 1))) Jz) (pb_i Qo))))))),?_⟩
 refine⟨_,rfl,_,rfl,a,_,rfl,.inl v,_,_,rfl,rfl,_,rfl,?_⟩;have fin:∀c:Int,tRet (tLst (JS (tOp (rI CMul fun i j=>V.int (i*j)) (tVar 2) (tCB (fun xs H Q=>(∃i,xs=[.int i]/\Q (.int i) H)\/∃k,xs=[.bl k]/\Q (.int (if k then 1 else 0)) H) (JS (tOp (rI0 fun i j=>.bl (decide (j<=i))) (tVar 2) (tOp (rI CPow fun i j=>.int (i ^ j.toNat)) (tC (.int 10)) (tC (.int 18)))) tNil)))
   (JS (tOp (rI0 fun i j=>.int (i+j)) (tOp (rI0 fun i j=>.int (i+j)) (tOp (rI (fun _ j=>0<j) fun i j=>.int (i % j)) (tVar 2) (tC (.int 2305843009213693951))) (tOp (rI CMul fun i j=>V.int (i*j)) (tC (.int 7919)) (tVar 1))) (tC (.int 3))) (JS (tC (.int 0)) tNil))))
   { nx:=fun _ G=>Q .non G,rt:=Q } [some (.ref a),some (.int k),some (.int c)] H:=by
  intro c;refine⟨_,rfl,_,rfl,_,_,rfl,rfl,⟨by decide,by decide,by decide⟩,_,_,rfl,rfl,.inr ⟨_,rfl,_,_,rfl,rfl,.inr ?_,?_⟩⟩;split <;> decide;refine⟨_,rfl,_,_,rfl,rfl,(by show(0:Int)<2305843009213693951;decide),_,rfl,_,_,rfl,rfl,.inl ⟨by decide,by decide⟩,_,_,rfl,rfl,_,_,rfl,rfl,(by show 3<=sizeLine;decide),fun l u=>?_⟩;refine q l _ u ⟨_,_,_,JA,?_,?_,eL _,eL _⟩ (zlY u);lia;lia
 refine zrK (fun c=>?_) (fun c=>?_);have C:k.toNat<ns.length:=by rw[aJ]at c;lia
 refine⟨_,rfl,_,rfl,a,_,_,V.int (ns[k.toNat]),rfl,rfl,v,?_,?_⟩;exact zfH J (by rw[aU,aC C];rfl);exact fin _;exact fin 0
def zd1(Z:ZZ):Prop:=FQ Z "_law_hand" (top 34) ["_law_script","_law_k"] 1 (Z5 Z.K)
theorem zfg(D:Dq Z.K Z.mg "_law_hand" (top 34) ["_law_script","_law_k"]) (T:Txt Z.mg):zd1 Z:=by obtain⟨f,fd,D⟩:=D;exact⟨f,fd,D,zgd D T⟩
theorem zfS{H:Hp}{hd:ah}{o:HO}:zsz hd H (upd H hd o):=fun b u e n=>by rw[Je n];exact e
theorem scT:Uq ["_law_hand_here","_law_many","_law_digit","_law_turn","_law_mixed","_law_odd"] ["_law_hand_here","_law_many"] (JC (top 35)):=⟨rfl,rfl,rfl,by decide +kernel,rfl,by decide +kernel,by decide +kernel⟩
theorem zms{f:ah}{fd:cJ}(D:Def K mg "_law_take" (top 35) ["_law_hand_here","_law_many"] f fd) (T:Txt mg):FnOk P w K mg base CX0 1 f fd ["_law_hand_here","_law_many"] znr:=by
 refine D.F.ok scT (fun x H Q E h=>?_) (fun G A outer s H x Q E J h=>?_);obtain⟨hd,many,n,rfl,_⟩:=h;rfl;obtain⟨hd,many,n,rfl,⟨d,m,t,u,m0,m1,t0,t1⟩,I,v,C,q⟩:=h;refine⟨_,J4 (Zy (zg8 Uy (Uk Ur (pv 0) Jz (fun _ _=>rfl)) Jz (Jj _))
   (J4 (QD (i:=2) scT.nd rfl (dP rfl) (Jx UI (Uk Ur (pv 0) Jz (fun _ _=>rfl)) (pv 1)))
   (J4 (U3 (Jx Vx (Uk Ur (pv 0) Jz (fun _ _=>rfl)) (pv 1)) (znG (pv 0) Jz set_list))
   (U6 (ZX (pv 2))))) Vg)
  (J4 (U3 (Jx Q9 (Uk Ur (pv 0) Jz (fun _ _=>rfl)) Jz) (znG (pv 0) Jz set_list))
  (J4 (QD (i:=3) scT.nd rfl (dP rfl) (Uk Ur (pv 0) Jz (fun _ _=>rfl)))
  (J4 (QD (i:=4) scT.nd rfl (dP rfl) (Jx UI (Jx QW (Uk Ur (pv 0) Jz (fun _ _=>rfl)) (Jx Q9 (Jx Q9 Jz (Jx QW (Jx QW Jz (pv 3)) (pv 3))) (Jx QW Jz (pv 3)))) Jz))
  (J4 (QD (i:=5) scT.nd rfl (dP rfl) (Jx Q9 (Jx Q9 (Jx UI (pv 4) Jz) (Jx QW (pv 3) Jz)) Jz))
  (J4 (QD (i:=4) scT.nd rfl (dP rfl) (Jx UI (Jx QW (pv 4) (pv 5)) Jz))
  (U6 (ZX (Jx UI (Jx Q9 (Jx Vx (pv 4) Jz) (Jx Vx (pv 4) Jz)) (pv 1))))))))),?_⟩
 refine⟨_,rfl,hd,_,_,_,rfl,rfl,.of u,rfl,_,_,rfl,rfl,_,rfl,?_⟩;refine zrK (fun c=>?_) (fun c=>?_);refine⟨_,rfl,hd,_,_,_,rfl,rfl,.of u,rfl,_,rfl,_,_,rfl,rfl,v,?_⟩;refine⟨_,rfl,hd,_,_,_,rfl,rfl,.of u,rfl,_,rfl,_,_,rfl,rfl,⟨v,C⟩,?_⟩;refine⟨_,rfl,hd,_,_,0,rfl,rfl,u,rfl,?_⟩;refine⟨_,rfl,?_⟩;exact q _ _ (fz _ (by lia)) (fo _ v) ⟨_,_,_,JA,m0,m1,t0,by lia⟩ zfS;refine⟨_,rfl,hd,_,_,_,rfl,rfl,.of u,rfl,_,_,rfl,rfl,?_⟩;refine⟨_,rfl,hd,_,_,2,rfl,rfl,u,rfl,?_⟩;refine⟨_,rfl,hd,_,_,_,rfl,rfl,.of JA,rfl,?_⟩;refine⟨_,rfl,hd,_,_,_,rfl,rfl,.of JA,rfl,_,rfl,_,_,rfl,rfl,.inl ⟨by decide,by decide⟩,_,rfl,_,_,rfl,rfl,.inr ⟨by lia,by lia⟩,_,_,rfl,rfl,_,rfl,_,_,rfl,rfl,.inl ⟨by decide,by decide⟩,_,_,rfl,rfl,_,_,rfl,rfl,.inl ⟨by lia,by lia⟩,_,_,rfl,rfl,(by show(0:Int)<2305843009213693921;decide),?_⟩;refine⟨_,rfl,_,_,rfl,rfl,(by show(0:Int)<1000003;decide),_,rfl,_,_,rfl,rfl,.inr ⟨by decide,by decide⟩,_,_,rfl,rfl,_,_,rfl,rfl,?_⟩;refine⟨_,rfl,_,rfl,_,_,rfl,rfl,.inl ⟨by lia,by lia⟩,_,_,rfl,rfl,(by show(0:Int)<2305843009213693907;decide),?_⟩;refine⟨_,rfl,_,_,rfl,rfl,⟨by decide,by decide⟩,_,rfl,_,_,rfl,rfl,⟨by decide,by decide⟩,_,_,rfl,rfl,_,rfl,_,_,rfl,rfl,v,?_⟩;exact q _ _ (fz _ (by lia)) (fo _ v) ⟨_,_,_,JA,m0,m1,by lia,by lia⟩ zfS
theorem zf_{f:ah}{fd:cJ}(D:Def K mg "_law_take" (top 35) ["_law_hand_here","_law_many"] f fd) (T:Txt mg):FnOk P w K mg base CX0 1 f fd ["_law_hand_here","_law_many"] (spD K 2 U1) :=
 (zms D T).imp zlW
def UT(Z:ZZ):Prop:=QF Z "_law_take" 35 ["_law_hand_here","_law_many"] 1 2 U1
theorem zff(D:Dq Z.K Z.mg "_law_take" (top 35) ["_law_hand_here","_law_many"]) (T:Txt Z.mg):UT Z:=by obtain⟨f,fd,D⟩:=D;exact⟨f,fd,D,zf_ D T⟩
def Yd:GD:=fun ts n R=>match ts with
 | [h,.list xs]=>h=HAND/\xs≠[]/\xs.length<=1000000/\n<=1000000000000/\∀x∈xs,R x (n+1)
 | [h,.tuple xs]=>h=HAND/\xs≠[]/\xs.length<=1000000/\n<=1000000000000/\∀x∈xs,R x (n+1)
 | _=>False
theorem Yc{xs:qD}{n:Nat}{R:qN}(h0:xs≠[])(o:xs.length<=1000000)(u:n<=1000000000000)(h:∀x∈xs,R x (n+1)):Yd [HAND,.list xs] n R:=⟨rfl,h0,o,u,h⟩
def Uw(Z:ZZ):Prop:=QF Z "_law_pick" 36 ["_law_hand_here","_law_some"] 2 2 Yd
theorem zgb(D:DQ Z "_law_pick" 36 ["_law_hand_here","_law_some"]) (I:UT Z) (T:Txt Z.mg):Uw Z:=by
 refine' okN ["_law_hand_here","_law_some"] D fun C=>⟨_,(Jc (Jg (Jt (dlv 1) (dl (Jd I C (dbv 0 (dbc (Jw Qa J7 T.len J2 (Jl (dlv 1) Jn Jm)) Ja))))))),?_⟩;intro ts n R J h;cases ts with
 | nil=>exact h.elim
 | cons hd ts=>cases ts with
  | nil=>exact h.elim
  | cons t ts=>cases ts with
   | cons _ _=>cases t <;> exact h.elim
   | nil=>cases t with
    | list xs =>
     obtain⟨rfl,h0,v,u,h⟩:=h;have G:0<xs.length:=lZ.mpr h0;wp_walk using Ul (by lia) (by lia) u (fun r o x=>?_);have l:r.toNat<xs.length:=by lia
     rw[zrm (zfH o (aC l))];exact h _ (gT l)
    | tuple xs =>
     obtain⟨rfl,h0,v,u,h⟩:=h;have G:0<xs.length:=lZ.mpr h0;wp_walk using Ul (by lia) (by lia) u (fun r o x=>?_);have l:r.toNat<xs.length:=by lia
     rw[ZD (zfH o (aC l))];exact h _ (gT l)
    | _=>exact h.elim
def zcF:GD:=fun ts n R=>match ts with
 | [h]=>h=HAND/\n<=1000000000000/\∀b:Int,1<=b->b<=64->R (.int b) (n+1)
 | _=>False
theorem zhP{n:Nat}{R:qN}(l:n<=1000000000000)(h:∀b:Int,1<=b->b<=64->R (.int b) (n+1)):zcF [HAND] n R:=⟨rfl,l,h⟩
def zd3(Z:ZZ):Prop:=QF Z "_law_bits" 37 ["_law_hand_here"] 3 1 zcF
theorem zgf(D:DQ Z "_law_bits" 37 ["_law_hand_here"]) (o:Uw Z) (T:Txt Z.mg):zd3 Z:=by refine' okN ["_law_hand_here"] D fun l=>⟨_,(Jc (Jg (Jd o l (dbv 0 (dbc (Jy (J6 (dbc Ji (dbc Ji (dbc Ji (dbc Ji (dbc Ji (dbc Ji (dbc Ji (dbc Ji (dbc Ji (dbc Ji Ja)))))))))))) Ja))))),?_⟩;intro ts n R v h;unfold zcF at h;split at h;obtain⟨rfl,u,h⟩:=h;simp only[Z2,Z1,Z3,u_dC,ZK,Z7,ZY,Z8,Vk,ZJ,Vp,Z0,ZS,Zc,YZ,Y0,Y1,Zb,Y2,Zl,YG,oSub,oMul,oMod,Ux,oShl,oShr,oXor,oAnd,isNone,isInt,isBool,isTup,isStr,l_gI,ZC,YI,YJ,Yn,Ym,Yp,Yq,Yo,Yy,Yx,YA,Yz,Yr,Zg,Yu,Ys,Yt,YM,YN,YL,YO,YQ,YE,Yw,Yv,YK,YB,Zh,Zf,Q1,Ud,Ug,Uu,Us,Ut,Uv,U9,J0,JQ,capV,aK,fP,aF,bO,bT,fW,cA,cV,cq,dJ,eW,fj,gr,fX,fY,e9,Nat.reduceAdd,Nat.reduceSub,gD,true_and,and_true,bG,if_true,if_false,ite_true,ite_false,fC,eT,gW,Yd];refine⟨by simp,by decide,u,fun x hx=>?_⟩;simp only[aq,av,or_false]at hx;rcases hx with rfl|rfl|rfl|rfl|rfl|rfl|rfl|rfl|rfl|rfl <;> exact h _ (by decide) (by decide);exact h.elim
def zcg:GD:=fun ts n R=>match ts with
 | [h,.int bits]=>h=HAND/\1<=bits/\bits<=64/\n<=1000000000000 - 10/\∀i h:Int,IsBk bits i h->R (.tuple [.int i,.int h]) (n+3)
 | _=>False
theorem zdw{bits:Int}{n:Nat}{R:qN}(o:1<=bits)(v:bits<=64)(x:n<=1000000000000 - 10)(h:∀i h:Int,IsBk bits i h->R (.tuple [.int i,.int h]) (n+3)):zcg [HAND,.int bits] n R:=⟨rfl,o,v,x,h⟩
def zca(Z:ZZ):Prop:=QF Z "_law_block" 38 ["_law_hand_here","_law_bits_here"] 3 2 zcg
theorem zfl(D:DQ Z "_law_block" 38 ["_law_hand_here","_law_bits_here"]) (I:Uw Z) (C:UT Z) (T:Txt Z.mg):zca Z:=by
 refine' okN ["_law_hand_here","_law_bits_here","_law_height"] D fun v=>⟨_,(Jb (dsv 2 (ndB rfl) (Jw (zgP rfl) znT T.min zgU (Jl (dlv 1) (Jl (dl (Jd I v (dbv 0 (dbc (Jy (J6 (dbc Ji (dbc Ji (dbc Ji (dbc Ji (dbc Ji (dbc Ji (dbc (Jd C v (dbv 0 (dbc (JR (dlv 1) dli) Ja))) (dbv 1 Ja)))))))))) Ja)))) Jn Vo) Jm))) (Jc (Jg (JF (dbc (YU (dl (Jd C v (dbv 0 (dbc (Qw dli (dl (QT (dlv 1) (dlv 2)))) Ja)))) (dl (Qw dli (dlv 2)))) (dbv 2 Ja)))))),?_⟩;intro ts n R hl h;unfold zcg at h;split at h;rename_i hd bits;obtain⟨rfl,S,Y,hn,h⟩:=h;simp only[Z2,Z1,Z3,u_dC,ZK,Z7,ZY,Z8,Vk,ZJ,Vp,Z0,ZS,Zc,YZ,Y0,Y1,Zb,Y2,Zl,YG,oSub,oMul,oMod,Ux,oShl,oShr,oXor,oAnd,isNone,isInt,isBool,isTup,isStr,l_gI,ZC,YI,YJ,Yn,Ym,Yp,Yq,Yo,Yy,Yx,YA,Yz,Yr,Zg,Yu,Ys,Yt,YM,YN,YL,YO,YQ,YE,Yw,Yv,YK,YB,Zh,Zf,Q1,Ud,Ug,Uu,Us,Ut,Uv,U9,J0,JQ,capV,aK,fP,aF,bO,bT,fW,cA,cV,cq,dJ,eW,fj,gr,fX,fY,e9,Nat.reduceAdd,Nat.reduceSub,gD,true_and,and_true,bG,if_true,if_false,ite_true,ite_false,fC,eT,gW,Yd,U1];refine⟨by lia,by lia,by lia,fun r r0 r1=>⟨by simp,by decide,by lia,fun x hx=>?_⟩⟩;have G:∃b:Int,x=.int b/\0<=b:=by simp only[aq,av,or_false]at hx;rcases hx with h|h|h|h|h|h|h|h <;> first|exact⟨_,h,by decide⟩|exact⟨_,h,by lia⟩
 obtain⟨b,rfl,U⟩:=G;simp only[Z2,Z1,Z3,u_dC,ZK,Z7,ZY,Z8,Vk,ZJ,Vp,Z0,ZS,Zc,YZ,Y0,Y1,Zb,Y2,Zl,YG,oSub,oMul,oMod,Ux,oShl,oShr,oXor,oAnd,isNone,isInt,isBool,isTup,isStr,l_gI,ZC,YI,YJ,Yn,Ym,Yp,Yq,Yo,Yy,Yx,YA,Yz,Yr,Zg,Yu,Ys,Yt,YM,YN,YL,YO,YQ,YE,Yw,Yv,YK,YB,Zh,Zf,Q1,Ud,Ug,Uu,Us,Ut,Uv,U9,J0,JQ,capV,aK,fP,aF,bO,bT,fW,cA,cV,cq,dJ,eW,fj,gr,fX,fY,e9,Nat.reduceAdd,Nat.reduceSub,gD,true_and,and_true,bG,if_true,if_false,ite_true,ite_false,fC,eT,gW,U1];have key:∀m:Int,0<=m->m<=bits->(CPow 1 (bits - m)/\(0:Int)<1*2 ^ (bits - m).toNat/\1*2 ^ (bits - m).toNat<(2:Int) ^ 128/\n+1+1<=1000000000000/\∀r:Int,0<=r->r<1*2 ^ (bits - m).toNat->CPow 1 m/\CMul r (1*2 ^ m.toNat)/\R (.tuple [.int (r*(1*2 ^ m.toNat)),.int m]) (n+1+1+1)):=by intro m m0 m1;have e1:(1:Int)*2 ^ (bits - m).toNat=2 ^ (bits - m).toNat:=dB _;have e2:(1:Int)*2 ^ m.toNat=2 ^ m.toNat:=dB _;rw[e1,e2];refine⟨cpow (by lia) (by lia),Qp _,zjR (by lia),by lia,fun k L J=>⟨cpow m0 (by lia),.inl ⟨by lia,?_⟩,?_⟩⟩;have:=zdB (k:=(bits - m).toNat) (by lia);lia;exact h _ m ⟨m0,m1,k,L,rfl,J⟩
 exact key (if b<bits then b else bits) (by split <;> lia) (by split <;> lia);exact h.elim
inductive VI:List ae->Nat->(ae->Nat->Prop)->Prop
 | c {bits i h:Int} {n:Nat} {R:qN} (b0:1<=bits) (b1:bits<=64) (hn:n<=1000000000000 - 100) (B:IsBk bits i h) (h':∀j g:Int,IsBk bits j g->R (.tuple [.int j,.int g]) (n+7)):VI [HAND,.int bits,.tuple [.int i,.int h]] n R
def zd0(Z:ZZ):Prop:=QF Z "_law_near" 39 ["_law_hand_here","_law_bits_here","_law_block_here"] 4 3 VI
theorem zgc(D:DQ Z "_law_near" 39 ["_law_hand_here","_law_bits_here","_law_block_here"]) (I:Uw Z) (C:zca Z) (T:Txt Z.mg):zd0 Z:=by
 refine' okN ["_law_hand_here","_law_bits_here","_law_block_here","_law_begin","_law_height","_law_size","_law_some"] D fun v=>⟨_,(Jb (QV (Jk 2) (JK rfl (Jh (dgv 3 (ndB rfl)) (Jh (dgv 4 (ndB rfl)) JJ)))) (Jb (dsv 5 (ndB rfl) (Qw dli (dlv 4))) (Jb (U0 (i:=6) (ndB rfl) rfl (dP rfl) (J6 (dbv 2 (dbc (JF (dbv 3 (dbc (Jw (zgQ rfl) znU T.max zgV (Jl dli (Jl (dl (QT (dlv 4) dli)) Jn znq) zjq)) Ja))) (dbc (Jd C v (dbv 0 (dbv 1 Ja))) (dbc (Jd C v (dbv 0 (dbv 1 Ja))) Ja)))))) (Jb (Jq (Jp Uy gp_B (dlv 4) dli (Jj _)) (Jc (UM 6 (JF (dbc (JR (dlv 3) (dl (zpq (dlv 5) dli))) (dbc (QT (dlv 4) dli) Ja))))) Js) (Jb (Jq (Jp (Ua v) Q7 (dlv 4) (dlv 1) (Jj _)) (Jb (UM 6 (JF (dbc (QT (dlv 3) (dl (ZO (dlv 3) (dl (YU dli (dlv 5)))))) (dbc (JR (dlv 4) dli) Ja)))) (Jc (UM 6 (JF (dbc (zsl (dlv 3) (dlv 5)) (dbv 4 Ja)))))) Js) (Jb (Jq (Jp JZ JY (dl (JR (dlv 3) (dl (YU dli (dlv 5))))) (dl (Qw dli (dlv 1))) (Jj _)) (Jc (UM 6 (JF (dbc (JR (dlv 3) (dlv 5)) (dbv 4 Ja))))) Js) (Yb 6 (Jc (Jg (Jd I v (dbv 0 (dbv 6 Ja)))))))))))),?_⟩;rintro ts n R hl @⟨bits,i,h,n,R,b0,b1,hn,B,hh⟩;have h0:=B.1;have J:=B.2.1;have o:∀j g:Int,IsBk bits j g->∀m,m=n+7->R (.tuple [.int j,.int g]) m:=fun j g b m e=>e▸hh j g b;have G:IsBk bits i (if h - 1 > 0 then h - 1 else 0):=by
  split;exact B.low (by lia);by_cases z:h=0;subst z;exact B;have:h=1:=by lia
  subst this;exact B.low (by decide)
 wp_walk using zdw ?_ ?_ ?_ (fun _ _ _=>?_),Yc ?_ ?_ ?_ ?_;all_goals first
  | lia
  | exact cpow (by lia) (by lia)
  | exact zuV
  | exact zuW
  | (rw[Uc];exact Int.mul_pos (by decide) (Qp _))
  | (intro z;simp at z;done)
  | (simp only[cA,cV,aF,bO];decide)
  | skip
 all_goals
  simp only[cA,cV,lH,Uc]at *;repeat' (with_reducible refine kh ?_ ?_)
 all_goals first
  | exact o _ _ B _ rfl
  | exact o _ _ G _ rfl
  | exact o _ _ (by assumption) _ rfl
  | exact o _ _ (B.up (by lia)) _ rfl
  | exact o _ _ (B.abt (by lia)) _ rfl
  | exact o _ _ (B.oth (by lia)) _ rfl
  | exact o _ _ (B.nxt (by assumption)) _ rfl
  | (intro x hx;simp at hx)
inductive zb0:List ae->Nat->(ae->Nat->Prop)->Prop
 | c {bits most:Int} {n:Nat} {R:qN} (b0:1<=bits) (b1:bits<=64) (m0:0<=most) (m1:most<=1000) (hn:n<=1000000000000 - 100000) (h:∀(bs:qB) (m:Nat),Bks bits bs->bs.length<=most.toNat->m<=n+1+12*most.toNat->R (.list (pD bs)) m):zb0 [HAND,.int bits,.int most] n R
def zcO(Z:ZZ):Prop:=QF Z "_law_blocks" 40 ["_law_hand_here","_law_bits_here","_law_most"] 5 3 zb0
theorem zeo(D:DQ Z "_law_blocks" 40 ["_law_hand_here","_law_bits_here","_law_most"]) (ER:UT Z) (ES:zca Z) (Hf:zd0 Z) (EO:Uw Z) (T:Txt Z.mg):zcO Z:=by
 refine' okN ["_law_hand_here","_law_bits_here","_law_most","_law_found","_law_k","_law_block_here"] D fun G=>⟨_,(Jb (U0 (i:=3) (ndB rfl) rfl (dP rfl) (J6 Ja)) (Jb (UF cW rfl (VG T.ran (Jd ER G (dbv 0 (dbc (JR (dlv 2) dli) Ja)))) (dgv 4 (ndB rfl)) (Jb (dsv 5 (ndB rfl) (Jd ES G (dbv 0 (dbv 1 Ja)))) (Jb (Jq (JT (YW (Jp (QX G) QP (zk4 3) (dl (Jy (J6 Ja))) (Jj _)) (Y5 (Jp Uy gp_B (dl (Jd ER G (dbv 0 (dbc Ji Ja)))) dli (Jj _))))) (Jc (dsv 5 (ndB rfl) (Jd Hf G (dbv 0 (dbv 1 (dbc (zsn EO G (Jl (dlv 0) (Jl (zk4 3) Jn Jm) Jm)) Ja)))))) Js) (Jc (UM 3 (Jk 5)))))) (Yb 3 (Jc (Jg (Jk 3)))))),?_⟩;rintro ts n R hl @⟨bits,most,n,R,b0,b1,m0,m1,hn,hh⟩;wp_walk using Ul ?_ ?_ ?_ (fun r r0 r1=>?_);lia;lia;lia;lia;lia;refine Zn (fun k S m=>∃bs:List (Int×Int),∃I J,S=[some (.val HAND),some (.val (.int bits)),some (.val (.int most)),some (.own (pD bs)),I,J]/\Bks bits bs/\bs.length=k/\m<=n+1+12*k) ⟨[],_,_,rfl,(fun b hb=>nomatch hb),rfl,by lia⟩ ?_ ?_
 ·rintro k t S m K et ⟨bs,I,J,rfl,B,N,hm⟩ hK;obtain⟨hk2,rfl⟩:=zeF et;have hk3:k<1000:=by lia
  have fin:∀(i h:Int) (U Y:Option Cell) (L:Nat),IsBk bits i h->L<=m+12->K [some (.val HAND),some (.val (.int bits)),some (.val (.int most)),some (.own (pD bs++[.tuple [.int i,.int h]])),U,Y] L:=fun i h U Y L C hm' =>
   hK _ _ ⟨bs++[(i,h)],_,_,by rw[<- znJ],B.app C,by simp[N],by lia⟩
  wp_walk using zdw ?_ ?_ ?_ (fun i h C=>?_),Ul ?_ ?_ ?_ (fun q q0 q1=>?_),Yc ?_ ?_ ?_ ?_,VI.c ?_ ?_ ?_ ?_ (fun j g C'=>?_);all_goals first
   | lia
   | exact zq0
   | exact zhe
   | (rw[QC];lia)
   | decide
   | (intro z
      have y:dh (.list (pD bs)) (.list [])=false:=by assumption
      rw[zpi]at y;have y2:bs=[]:=by have:=congrArg eI z;rw[QC]at this;exact dM.mp this
      rw[y2]at y;cases y)
   | exact fin _ _ _ _ _ (by assumption) (by lia)
   | skip
  all_goals
   intro x hx;obtain⟨b,hb,rfl⟩:=aY.mp hx;refine⟨ziV,?_⟩;have C0:=B b hb;wp_walk using VI.c ?_ ?_ ?_ ?_ (fun j g C'=>?_);all_goals first
    | lia
    | exact C0
    | (rw[QC];lia)
    | exact fin _ _ _ _ _ (by assumption) (by lia)
 ·rintro S m ⟨bs,I,J,rfl,B,N,hm⟩;have el:bs.length<=most.toNat:=by
   rw[N];unfold QM;simp;lia
  wp_walk;exact hh bs m B el (by lia)
inductive VM:List ae->Nat->(ae->Nat->Prop)->Prop
 | c {bits most:Int} {n:Nat} {R:qN} (b0:1<=bits) (b1:bits<=64) (m0:0<=most) (m1:most<64) (hn:n<=1000000000000 - 100000) (h:∀(bs:qB) (m:Nat),Ptc bits bs->bs.length<=most.toNat->m<=n+1+12*most.toNat->R (.tuple (pD bs)) m):VM [HAND,.int bits,.int most] n R
def zdq(Z:ZZ):Prop:=QF Z "_law_patch" 41 ["_law_hand_here","_law_bits_here","_law_most"] 6 3 VM
theorem zfj(D:DQ Z "_law_patch" 41 ["_law_hand_here","_law_bits_here","_law_most"]) (E9:zcO Z) (T:Txt Z.mg):zdq Z:=by
 refine' okN ["_law_hand_here","_law_bits_here","_law_most","_law_found","_law_begin","_law_height"] D fun U=>⟨_,(Jb (U0 (i:=3) (ndB rfl) rfl (dP rfl) (J6 Ja)) (Jb (UF cW rfl (Vh (Jd E9 U (dbv 0 (dbv 1 (dbv 2 Ja))))) (JK rfl (Jh (dgv 4 (ndB rfl)) (Jh (dgv 5 (ndB rfl)) JJ))) (Jc (Jq (JI (dl (Jw (Uf rfl) Q6 T.all Ue (Jl (dl (Jy (dnc ["_law_one"] [4,5] (znd (zk4 3)) (fun _ _ _ _=>(dgv 0 (ndB rfl))) (fun _ _ _ _=>(zsm (Qk JZ JY (dl (JR (dlv 1) (dl (Qw dli (dlv 2))))) (dl (Jt (dlv 0) dli)) (Jj _)) (QK (Qk JZ JY (dl (JR (dl (Jt (dlv 0) dli)) (dl (Qw dli (dl (Jt (dlv 0) dli)))))) (dlv 1) (Jj _)))))))) Jn Q3)))) (Jc (UM 3 (JF (dbv 4 (dbv 5 Ja))))) Js))) (Yb 3 (Jc (Jg (Q5 Yg Vv T.tup Qz (Jl (dl (Jy (zk2 U T.srt (dlv 3) Jm))) Jn Vo))))))),?_⟩;rintro ts n R hl @⟨bits,most,n,R,b0,b1,m0,m1,hn,hh⟩;wp_walk using zb0.c ?_ ?_ ?_ ?_ ?_ (fun bs m B hlen hm=>?_);lia;lia;lia;lia;lia;refine Zn (fun k N L=>L=m/\∃cs:List (Int×Int),∃I J,N=[some (.val HAND),some (.val (.int bits)),some (.val (.int most)),some (.own (pD cs)),I,J]/\Bks bits cs/\(cs.Pairwise fun a b=>eB a<=b.1\/eB b<=a.1)/\cs.length<=k) ⟨rfl,[],_,_,rfl,(fun b hb=>nomatch hb),.nil,aw _⟩ ?_ ?_
 ·rintro k t N L K et ⟨rfl,cs,I,J,rfl,C,u,hk⟩ hK;obtain⟨i,h,Y,rfl⟩:=zj3 et;have hb:=B _ (aX Y);have h0:0<=h:=hb.1;have h1:h<=bits:=hb.2.1;have hk3:k<64:=by
   have:=(aL.mp Y).1;lia
  wp_walk;refine Qr (D:=prD) (fun b=>.bool (decide (i+2 ^ h.toNat<=b.1)||decide (eB b<=i))) (by lia) ?_ ?_
  ·rintro⟨S,h'⟩ x K2 X2 hK2;have G:=C _ x;have h0':0<=h':=G.1;have h1':h'<=bits:=G.2.1;wp_walk;exact cpow (by lia) (by lia);have hc:i+2 ^ h.toNat<=S:=by rw[Uc]at hc;exact hc
   rw[decide_eq_true hc]at hK2;exact hK2;exact cpow (by lia) (by lia);have hc:¬i+2 ^ h.toNat<=S:=by rw[Uc]at hc;exact hc
   rw[decide_eq_false hc]at hK2;rw[Uc];exact hK2
  ·wp_walk using Um ?_;rw[QC];lia;have al:∀b∈cs,i+2 ^ h.toNat<=b.1\/eB b<=i:=fun b hb=>by
    have:=bw.mp hc b hb;simpa using this
   refine hK _ _ ⟨rfl,cs++[(i,h)],_,_,by rw[<- znJ],C.app hb,?_,by simp;lia⟩;rw[lC];refine⟨u,List.pairwise_singleton _ _,fun a ha b x=>?_⟩;cases ba.mp x;rcases al a ha with z|z;exact .inr z;exact .inl z;exact hK _ _ ⟨rfl,cs,_,_,rfl,C,u,by lia⟩
 ·rintro N L ⟨rfl,cs,I,J,rfl,C,u,hk⟩;rw[QC]at hk;wp_walk;refine zrv b1 C u (by lia) fun es P pm=>?_;wp_walk;exact hh es _ P (by have:=pm.length_eq;lia) (by lia)
def nmL(l:List Nat)(k c:Nat):Str:=⟨(l.take k++[c]++l.drop k).toArray⟩
theorem zq6{u:List Nat}{k c:Nat}(C:u.length<=7)(v:∀x∈u,97<=x/\x<=122)(hc:97<=c/\c<=122):IsNm (nmL u k c):=by
 have e:(nmL u k c).cps.toList=u.take k++[c]++u.drop k:=rfl;have l:(nmL u k c).length=u.length+1:=by rw[<- JV,e];simp;lia
 refine⟨by lia,by lia,fun x hx=>?_⟩;rw[e]at hx;simp only[aD,ba]at hx;rcases hx with(hx|rfl)|hx;exact v x (dD hx);exact hc;exact v x (fM hx)
theorem zoO{l:List Nat}{k c d:Nat}(h:nmL l k c=nmL l k d):c=d:=by have e:l.take k++[c]++l.drop k=l.take k++[d]++l.drop k:=congrArg (fun s:Str=>s.cps.toList) h;rw[aA,aA]at e;have:=List.append_cancel_left e;simpa using this
theorem zlh{step:Int}(h:step=1\/step=3\/step=5\/step=7\/step=9\/step=11){first i j:Int}(l:0<=i)(i1:i<26)(o:0<=j)(j1:j<26)(e:(first+step*i) % 26=(first+step*j) % 26):i=j:=by rcases h with rfl|rfl|rfl|rfl|rfl|rfl <;> lia
inductive zcf:List ae->Nat->(ae->Nat->Prop)->Prop
 | c {many:Int} {n:Nat} {R:qN} (m0:0<=many) (m1:many<=26) (hn:n<=1000000000000 - 1000) (h:∀nms:List Str,nms.length=many.toNat->(∀s∈nms,IsNm s)->nms.Nodup->R (.list (nms.map .str)) (n+5)):zcf [HAND,.int many] n R
def zdr(Z:ZZ):Prop:=QF Z "_law_names" 42 ["_law_hand_here","_law_many"] 3 2 zcf
theorem zfk(D:DQ Z "_law_names" 42 ["_law_hand_here","_law_many"]) (S:UT Z) (EO:Uw Z) (T:Txt Z.mg):zdr Z:=by
 refine' okN ["_law_hand_here","_law_many","_law_letters","_law_first","_law_step","_law_stem","_law_at"] D fun G=>⟨_,(Jb (dsv 2 (ndB rfl) Jo) (Jb (QV (JF (dbc (Jd S G (dbv 0 (dbc Ji Ja))) (dbc (Jd EO G (dbv 0 (dbc (Jy (J6 (dbc Ji (dbc Ji (dbc Ji (dbc Ji (dbc Ji (dbc Ji Ja)))))))) Ja))) Ja))) (JK rfl (Jh (dgv 3 (ndB rfl)) (Jh (dgv 4 (ndB rfl)) JJ)))) (Jb (dsv 5 (ndB rfl) (zlc (dl (Jt (dlv 2) (dl (Jd S G (dbv 0 (dbc Ji Ja)))))) (dl (Jd EO G (dbv 0 (dbc (Jy (J6 (dbc Ji (dbc Ji (dbc Ji (dbc Ji (dbc Ji Ja))))))) Ja)))))) (Jb (dsv 6 (ndB rfl) (Jd S G (dbv 0 (dbc (JR (dl (Jw Qa J7 T.len J2 (Jl (dlv 5) Jn Jm))) dli) Ja)))) (Jc (Jg (Jy (dnc ["_law_k"] [5,2,6,3,4] (dil (VG T.ran (Jk 1))) (fun _ _ _ _=>(dgv 0 (ndB rfl))) (fun _ _ _ _=>(JR (dl (JR (dl (VF (dlv 1) Vi (Vj (Jk 3)))) (dl (Jt (dlv 2) (dl (ZO (dl (JR (dlv 4) (dl (YU (dlv 5) (dlv 0))))) dli)))))) (dl (VF (dlv 1) (Vj (Jk 3)) Vi)))))))))))),?_⟩;intro ts n R hl h;obtain @⟨many,n,R,m0,m1,hn,h⟩:=h;wp_walk using Ul ?_ ?_ ?_ (fun r r0 r1=>?_),Yc ?_ ?_ ?_ (fun x hx=>?_);all_goals first|lia|exact cpow (by lia) (by lia)|(simp;done)|skip
 rename_i first f0 f1
 revert r r0 r1;intro l l0 l1;obtain⟨step,rfl,v⟩:∃s:Int,x=.int s/\(s=1\/s=3\/s=5\/s=7\/s=9\/s=11):=by simp only[aq,av,or_false]at hx;rcases hx with rfl|rfl|rfl|rfl|rfl|rfl <;> exact⟨_,rfl,by simp⟩
 refine zoX (k:=l.toNat) (by decide) (by lia) (letters (by lia)) ?_;wp_walk using Yc ?_ ?_ ?_ (fun y hy=>?_);all_goals first|lia|exact cpow (by lia) (by lia)|(simp;done)|skip
 obtain⟨m,rfl,mm0,mm7⟩:∃m:Int,y=.int m/\0<=m/\m<=7:=by simp only[aq,av,or_false]at hy;rcases hy with rfl|rfl|rfl|rfl|rfl <;> exact⟨_,rfl,by decide,by decide⟩
 have C:(repS (⟨#[97+l.toNat]⟩:Str) m).cps.toList=bM m.toNat (97+l.toNat):=by
  rw[zmb];show(bM m.toNat [97+l.toNat]).flatten=_;generalize m.toNat=k;induction k with
  | zero=>rfl
  | succ k ih=>rw[bT,gJ,ih,bT];rfl
 have u:(repS (⟨#[97+l.toNat]⟩:Str) m).length=m.toNat:=by rw[<- JV,C,gL]
 wp_walk using Ul ?_ ?_ ?_ (fun a a0 a1=>?_);lia;lia;show 1<=100;decide;rw[u];lia;rw[u];lia;rw[u];lia;lia;lia;lia;rw[u]at a1;generalize repS (⟨#[97+l.toNat]⟩:Str) m=EU at C u;have U:∀x∈EU.cps.toList,97<=x/\x<=122:=fun x hx=>by rw[C]at hx;have:=List.eq_of_mem_replicate hx;lia
 refine Qr (cs:=cg many.toNat) (D:=fun(i:Nat)=>.int (0+(i:Int))) (fun i=>.str (nmL EU.cps.toList a.toNat (97+((first+step*(i:Int)) % 26).toNat))) (by simp;lia) ?_ ?_
 ·intro i hi K2 X2 J;have hi:=dz.mp hi;have q0:0<=(first+step*(0+(i:Int))) % 26:=fz _ (by decide);have q1:(first+step*(0+(i:Int))) % 26<26:=fo _ (by decide);wp_walk using zoX (k:=((first+step*(0+(i:Int))) % 26).toNat) (by decide) (by lia) (letters (by lia)) ?_;all_goals first
   | lia
   | exact .inl ⟨by lia,by lia⟩
   | skip
  have l3:(cutS EU none (some a)).length<=7:=by rw[<- JV,zei (k:=a.toNat) (by lia)];have:=JV EU;simp;lia
  show(cutS EU none (some a)).length+1<=16777216;lia;have l3:(cutS EU none (some a)).length<=7:=by rw[<- JV,zei (k:=a.toNat) (by lia)];have:=JV EU;simp;lia
  have l4:(cutS EU (some a) none).length<=7:=by rw[<- JV,zgN (k:=a.toNat) (by lia) (by lia),de];have:=JV EU;lia
  rw[<- JV,Q0,aM,JV];show _+1+_<=_;lia;have e:(cutS EU none (some a)++(⟨#[97+((first+step*(0+(i:Int))) % 26).toNat]⟩:Str)++cutS EU (some a) none)=nmL EU.cps.toList a.toNat (97+((first+step*(i:Int)) % 26).toNat):=by apply L2.Str.ext';rw[Q0,Q0,zei (k:=a.toNat) (by lia),zgN (k:=a.toNat) (by lia) (by lia),sY];rfl
  rw[e];exact J
 have e:((cg many.toNat).map fun(i:Nat)=>bH (nmL EU.cps.toList a.toNat (97+((first+step*(i:Int)) % 26).toNat)))=((cg many.toNat).map fun(i:Nat)=>nmL EU.cps.toList a.toNat (97+((first+step*(i:Int)) % 26).toNat)).map .str:=by rw[cx];rfl
 rw[e];have I:∀i:Nat,0<=(first+step*(i:Int)) % 26/\(first+step*(i:Int)) % 26<26:=fun i=>⟨fz _ (by decide),fo _ (by decide)⟩;refine h _ (by simp) (fun s hs=>?_) ?_;obtain⟨i,hi,rfl⟩:=aY.mp hs;have:=I i;have:=JV EU;exact zq6 (by lia) U (by lia);rw[List.Nodup,eM];refine kb ?_ (List.nodup_range (n:=many.toNat));intro i j hi Y ne e;have hi:=dz.mp hi;have Y:=dz.mp Y;have e':=zoO e;have:=I i;have:=I j;have:=zlh v (first:=first) (i:=i) (j:=j) (by lia) (by lia) (by lia) (by lia) (by lia);exact ne (by lia)
def zec:GD:=fun ts n R=>∃(bits most:Int) (o:List Str),ts=[HAND,.int bits,.list (nD o),.int most]/\1<=bits/\bits<=64/\0<=most/\most<64/\o≠[]/\o.length<=1000/\(∀s∈o,IsNm s)/\n<=1000000000000 - 200000 /\
 ∀(d:Deal) (m:Nat),Dl d->d.1=bits->d.2.1.length<=most.toNat->d.2.2.length<=most.toNat->(∀p∈d.2.1++d.2.2,p.2∈o)->m<=n+10000->R (dlD d) m
theorem zhO{bits most:Int}{o:List Str}{n:Nat}{R:qN}(u:1<=bits)(C:bits<=64)(m0:0<=most)(m1:most<64)(ne:o≠[])(l:o.length<=1000)(v:∀s∈o,IsNm s)(x:n<=1000000000000 - 200000)
 (h:∀(d:Deal) (m:Nat),Dl d->d.1=bits->d.2.1.length<=most.toNat->d.2.2.length<=most.toNat->(∀p∈d.2.1++d.2.2,p.2∈o)->m<=n+10000->R (dlD d) m):zec [HAND,.int bits,.list (nD o),.int most] n R:=⟨bits,most,o,rfl,u,C,m0,m1,ne,l,v,x,h⟩
def zd2(Z:ZZ):Prop:=QF Z "_law_deal" 43 ["_law_hand_here","_law_bits_here","_law_names_here","_law_most"] 7 4 zec
theorem zge(D:DQ Z "_law_deal" 43 ["_law_hand_here","_law_bits_here","_law_names_here","_law_most"]) (EZ:zdq Z) (EO:Uw Z) (ER:UT Z) (T:Txt Z.mg):zd2 Z:=by
 refine' okN ["_law_hand_here","_law_bits_here","_law_names_here","_law_most","_law_outs","_law_kept","_law_block_here","_law_name","_law_size","_law_there"] D fun N=>⟨_,(Jb (Z9 (Vs (i:=4) (ndB rfl) rfl (dP rfl) (own:=["_law_block_here"]) (capt:=[0,2]) rfl (JD.of rfl) (dil (QU (Jd EZ N (dbv 0 (dbv 1 (dbv 3 Ja)))))) (fun _ _ _ _=>(dgv 0 (ndB rfl))) (by decide) (fun _ _ _ _=>Va) (fun _ _ _ _=>(JF (dbv 0 (dbc (Jd EO N (dbv 1 (dbv 2 Ja))) Ja)))))) (Jb (U0 (i:=5) (ndB rfl) rfl (dP rfl) (J6 Ja)) (Jb (UF cW rfl (QU (Jd EZ N (dbv 0 (dbv 1 (dbv 3 Ja))))) (dgv 6 (ndB rfl)) (Jb (dsv 7 (ndB rfl) (Jd EO N (dbv 0 (dbv 2 Ja)))) (Jb (dsv 8 (ndB rfl) (Qw dli (dl (Jt (dlv 6) dli)))) (Jb (Z9 (Vs (i:=9) (ndB rfl) rfl (dP rfl) (own:=["_law_one"]) (capt:=[8,6]) rfl (JD.of rfl) (dil (Vh (Jk 4))) (fun _ _ _ _=>(dgv 0 (ndB rfl))) (by decide) (fun _ _ _ _=>(zkZ (JT (YW (Jp (Ua N) Q7 (dl (Jt (dl (Jt (dlv 0) dli)) dli)) (dl (JR (dl (Jt (dlv 2) dli)) (dlv 1))) (Jj _)) (Y5 (Jp (Ua N) Q7 (dl (Jt (dlv 2) dli)) (dl (JR (dl (Jt (dl (Jt (dlv 0) dli)) dli)) (dl (Qw dli (dl (Jt (dl (Jt (dlv 0) dli)) dli)))))) (Jj _))))))) (fun _ _ _ _=>(Jk 0)))) (Jb (Jq (JT (Qf (Jp (Qx N) Qt (dlv 9) (dl (Jy (J6 Ja))) (Jj _)) (Qm (Jp (Qx N) Qt (dl (Jd ER N (dbv 0 (dbc Ji Ja)))) dli (Jj _))))) (Jc (dsv 7 (ndB rfl) (Jt (dl (Jy (zsj (dl (Jy (dnc ["_law_one"] [] (dil (Vh (Jk 9))) (fun _ _ _ _=>(dgv 0 (ndB rfl))) (fun _ _ _ _=>(Jt (dlv 0) dli))))) (dl (Jy (J6 (dbv 7 Ja))))))) dli))) Js) (Jc (Jq (Jp (Qx N) Qt (dl (Jy (dnf ["_law_one"] [7] (dil (Vh (Jk 9))) (fun _ _ _ _=>(dgv 0 (ndB rfl))) (fun _ _ _ _=>(zkZ (Jp (QX N) QP (dl (Jt (dlv 0) dli)) (dlv 1) (Jj _)))) (fun _ _ _ _=>(Jk 0))))) (dl (Jy (J6 Ja))) (Jj _)) (Jc (UM 5 (JF (dbv 6 (dbv 7 Ja))))) Js))))))) (Yb 5 (Jc (Jg (JF (dbv 1 (dbc (Q5 Yg Vv T.tup Qz (Jl (dlv 4) Jn Jm)) (dbc (Q5 Yg Vv T.tup Qz (Jl (dlv 5) Jn Jm)) Ja)))))))))),?_⟩;intro ts n R hl h;obtain⟨bits,most,I,rfl,b0,b1,m0,m1,ne,l,hm,hn,h⟩:=h;have pick:∀{n:Nat} {Q:qN},n<=1000000000000->(∀s∈I,Q (.str s) (n+1))->Yd [HAND,.list (nD I)] n Q:=fun {n Q} hn J=>Yc (by intro z;cases I with|nil=>exact ne rfl|cons a b=>cases z) (by simp[nD];lia) hn fun x hx=>by obtain⟨s,hs,rfl⟩:=aY.mp hx;exact J s hs
 wp_walk using VM.c b0 b1 m0 m1 ?_ (fun bs m P hlen hm1=>?_);lia;refine zll (fun j acc Y=>Y=m+j/\∃os:List ((Int×Int)×Str),acc=oD os/\os.map (·.1)=bs.take j/\∀p∈os,p.2∈I) ⟨rfl,[],rfl,by simp,fun p C=>nomatch C⟩ ?_ ?_
 ·rintro j x acc Y K ej ⟨rfl,os,rfl,e1,e2⟩ hK;obtain⟨i,g,eb,rfl⟩:=zj3 ej;have jl:=(aL.mp eb).1;have lo:os.length=j:=by
   have:=congrArg eI e1;simp at this;lia
  wp_walk using pick ?_ (fun s hs=>?_);lia;rw[Q8];lia;refine hK _ _ ⟨by lia,os++[((i,g),s)],by simp[oD],?_,?_⟩;rw[dO,e1,dZ,eb];rfl;intro p C;rcases aD.mp C with z|z;exact e2 p z;cases ba.mp z;exact hs
 ·rintro acc Y ⟨rfl,os,rfl,e1,e2⟩;rw[QC,eU]at e1;wp_walk using VM.c b0 b1 m0 m1 ?_ (fun cs m2 P2 hlen2 hm2=>?_);rw[QC];lia;rw[QC]at hm2;have lo:os.length=bs.length:=by rw[<- aJ (f:=(·.1)),e1]
  have Bo:∀p∈os,IsBk bits p.1.1 p.1.2:=fun p C=>P.1 _ (by rw[<- e1];exact aY.mpr ⟨p,C,rfl⟩);refine zsg 5 6 7 8 9 (fun k a5 _ _ _ _ Y=>Y<=m2+2*k/\∃L:List ((Int×Int)×Str),a5=some (.own (oD L))/\(L.map (·.1)).Sublist (cs.take k)/\(∀q∈L,q.2∈I)/\Agr os L) ⟨by lia,[],rfl,by simp,fun q J=>(nomatch J),fun p C q J=>(nomatch J)⟩ ?_ ?_
  ·rintro k t a5 a6 a7 a8 a9 Y K RT BK et ⟨hm',L,rfl,sb,kn,ag⟩ hK hRT hBK;obtain⟨i,g,eb,rfl⟩:=zj3 et;have kl:=(aL.mp eb).1;have Bb:=P2.1 _ (aX eb);have g0:0<=g:=Bb.1;have g1:g<=bits:=Bb.2.1;have pg:=Qp g.toNat;have tk:cs.take (k+1)=cs.take k++[(i,g)]:=by rw[dZ,eb];rfl
   have lks:L.length<=64:=by have:=sb.length_le;simp at this;lia
   have skip:∀(G:Nat) (b6 b7 b8 b9:Option Cell),G<=Y+2->K [some (.val HAND),some (.val (.int bits)),some (.val (.list (nD I))),some (.val (.int most)),some (.val (.list (oD os))),some (.own (oD L)),b6,b7,b8,b9] G:=fun G b6 b7 b8 b9 h2 =>
    hK _ _ _ _ _ _ ⟨by lia,L,rfl,by rw[tk];exact sb.trans (List.sublist_append_left _ _),kn,ag⟩
   have put:∀(G:Nat) (b6 b7 b8 b9:Option Cell) (s:Str),G<=Y+2->s∈I->(∀p∈os,p.1.1<i+2 ^ g.toNat->i<p.1.1+2 ^ p.1.2.toNat->p.2=s)->K [some (.val HAND),some (.val (.int bits)),some (.val (.list (nD I))),some (.val (.int most)),some (.val (.list (oD os))),some (.own (oD L++[.tuple [.tuple [.int i,.int g],.str s]])),b6,b7,b8,b9] G:=fun G b6 b7 b8 b9 s h2 hs al =>
    hK _ _ _ _ _ _ ⟨by lia,L++[((i,g),s)],by simp[oD],by rw[tk,dO];exact sb.append (xC _),(fun q J=>by
     rcases aD.mp J with z|z;exact kn q z;cases ba.mp z;exact hs),fun p C q J=>by
     rcases aD.mp J with z|z;exact ag p C q z;cases ba.mp z;by_cases y:p.1.1<i+2 ^ g.toNat/\i<p.1.1+2 ^ p.1.2.toNat;exact .inl (al p C y.1 y.2);right;show eB p.1<=i\/i+2 ^ g.toNat<=p.1.1;unfold eB;lia⟩
   wp_walk using pick ?_ (fun s hs=>?_);lia;exact cpow (by lia) (by lia);refine zej (cs:=os) (D:=fun p=>.tuple [prD p.1,.str p.2]) (fun p=>decide (p.1.1<i+2 ^ g.toNat)&&decide (i<p.1.1+2 ^ p.1.2.toNat)) (fun p=>.tuple [prD p.1,.str p.2]) (by lia) ?_ ?_
   ·intro p C K2 X2 U hX2;have Bp:=Bo p C;have p0:=Bp.1;have p1:=Bp.2.1;wp_walk;exact cpow (by lia) (by lia);all_goals simp only[Uc]at *
    rename_i y;exact U (by rw[decide_eq_true y,decide_eq_true hc];rfl);exact hX2 (by rw[decide_eq_false hc,lp]);exact hX2 (by rw[decide_eq_false hc,dW])
   ·rw[show((os.filter fun p=>decide (p.1.1<i+2 ^ g.toNat)&&decide (i<p.1.1+2 ^ p.1.2.toNat)).map fun p=>cG [prD p.1,bH p.2])=oD (os.filter fun p=>decide (p.1.1<i+2 ^ g.toNat)&&decide (i<p.1.1+2 ^ p.1.2.toNat)) from rfl];generalize ets:(os.filter fun p=>decide (p.1.1<i+2 ^ g.toNat)&&decide (i<p.1.1+2 ^ p.1.2.toNat))=us;have H0:∀p∈us,p∈os:=fun p C=>by rw[<- ets]at C;exact(eC.mp C).1
    have uin:∀p∈os,p.1.1<i+2 ^ g.toNat->i<p.1.1+2 ^ p.1.2.toNat->p∈us:=fun p C y z=>by rw[<- ets];exact eC.mpr ⟨C,by rw[decide_eq_true y,decide_eq_true z];rfl⟩
    have lus:us.length<=64:=by have:=k6 (fun p:(Int×Int)×Str=>decide (p.1.1<i+2 ^ g.toNat)&&decide (i<p.1.1+2 ^ p.1.2.toNat)) os;rw[ets]at this;lia
    have ok3:∀vs:List ((Int×Int)×Str),(∀p∈vs,p∈os)->Okd (.list (oD vs)):=fun vs hv=>(zoI (k:=2) fun t ht=>by obtain⟨p,C,rfl⟩:=aY.mp ht;refine zj_ fun u hu=>?_;simp only[aq,av,or_false]at hu;rcases hu with rfl|rfl;exact zq2;exact(zt8 (hm _ (e2 _ (hv p C)))).mono (by decide)).okd;have tail:∀(G:Nat) (s':Str) (b8:Option Cell),G<=Y+2->s'∈I ->
      sIf (J5 (dOp oEq (dNew (dComp [aa "_law_one"].length [7] (dItL (dVar 9)) (Jv 0) (J5 (dOp oNe (dOp oIx (dVar 0) (dC (cI 1))) (dVar 1))) (dVar 0))) (dNew dNil))) (U7 5 (dTup (JG (dVar 6) (JG (dVar 7) dNil)))) ZM { nx:=K,rt:=RT,bk:=BK,ct:=K }
       [some (.val HAND),some (.val (.int bits)),some (.val (.list (nD I))),some (.val (.int most)),some (.val (.list (oD os))),some (.own (oD L)),some (.val (.tuple [.int i,.int g])),some (.val (.str s')),b8,some (.val (.list (oD us)))] G:=by
     intro G s' b8 hm'' hs';wp_walk;refine zej (cs:=us) (D:=fun p=>.tuple [prD p.1,.str p.2]) (fun p=>!decide (p.2=s')) (fun p=>.tuple [prD p.1,.str p.2]) (by lia) ?_ ?_
     ·intro p C K2 X2 U hX2;wp_walk;exact hX2 (by rw[decide_eq_true hc];rfl);exact U (by rw[decide_eq_false hc];rfl)
     ·wp_walk;exact ok3 _ fun p C=>H0 p (eC.mp C).1;exact zhe;rw[Q8];lia;rw[zm7]at hc;refine put _ _ _ _ _ s' hm'' hs' fun p C y z=>?_;by_cases w:p.2=s';exact w;exfalso;have:p∈us.filter fun p=>!decide (p.2=s'):=eC.mpr ⟨uin p C y z,by rw[decide_eq_false w];rfl⟩;have e0:us.filter (fun p=>!decide (p.2=s'))=[]:=by simpa using hc
      rw[e0]at this;cases this;exact skip _ _ _ _ _ hm''
    have nm:∀{Q:ae->Prop},(∀s'∈I,Q (.str s'))->oIx (.list ((us.map fun p=>bH p.2)++[.str s])) (.int 0) Q:=fun {Q} J=>by
     cases us with
     | nil=>exact zkF (J s hs)
     | cons u v=>exact zkF (J u.2 (e2 u (H0 u (by simp))))
    wp_walk using Ul ?_ ?_ ?_ (fun r r0 r1=>?_),tail _ _ _ ?_ ?_;all_goals first
     | exact ok3 _ H0
     | exact zhe
     | exact hs
     | lia
     | skip
    all_goals
     refine Qr (cs:=us) (D:=fun p=>.tuple [prD p.1,.str p.2]) (fun p=>.str p.2) (by lia) ?_ ?_
     ·intro p C K2 X2 U;wp_walk;exact U
     ·wp_walk using nm (fun s' hs'=>?_),tail _ _ _ ?_ ?_;simp;lia;lia;exact hs'
  ·rintro a5 a6 a7 a8 a9 Y ⟨hm',L,rfl,sb,kn,ag⟩;rw[QC,eU]at sb;wp_walk;refine h (bits,os,L) _ ⟨b0,b1,⟨by rw[e1];exact P,fun p C=>hm _ (e2 p C)⟩,⟨⟨fun b hb=>P2.1 b (sb.subset hb),P2.2.sublist sb⟩,fun q J=>hm _ (kn q J)⟩,ag⟩ rfl (by show os.length<=_;lia) ?_ ?_ ?_;have:=sb.length_le;rw[aJ]at this;show L.length<=_;lia;intro p C;rcases aD.mp C with z|z;exact e2 p z;exact kn p z;rw[QC]at hm';lia
inductive VO:List ae->Nat->(ae->Nat->Prop)->Prop
 | c {bits i h:Int} {n:Nat} {R:qN} (b0:0<=bits) (b1:bits<=64) (B:IsBk bits i h) (r:R (.str (mkS (begL bits i h))) n):VO [.int bits,.tuple [.int i,.int h]] n R
def zb4(Z:ZZ):Prop:=QF Z "_law_beginning" 44 ["_law_bits_here","_law_block_here"] 1 2 VO
theorem zdd(D:DQ Z "_law_beginning" 44 ["_law_bits_here","_law_block_here"]) (T:Txt Z.mg):zb4 Z:=by
 refine' okN ["_law_bits_here","_law_block_here","_law_figures"] D fun hr=>⟨_,(Jb (Z9 (Vs (i:=2) (ndB rfl) rfl (dP rfl) (own:=["_law_k"]) (capt:=[1]) rfl (JD.of rfl) (dil (zk7 T.ran (QT (dlv 0) dli) (QT (dl (Jt (dlv 1) dli)) dli) (zn0 Ji))) (fun _ _ _ _=>(dgv 0 (ndB rfl))) (by decide) (fun _ _ _ _=>Va) (fun _ _ _ _=>(Q5 zdu znS T.str VD (Jl (dl (ZO (dl (zlb (dl (Jt (dlv 1) dli)) (dlv 0))) dli)) Jn znq))))) (Jc (Jg (JR (dl (Y4 (dl Jo) (Jk 2))) (dl (zlc (dl Jo) (dl (Q5 zgT zsa T.int boot_int (Jl (dl (Qk Uy gp_B (dl (Jt (dlv 1) dli)) dli (Jj _))) Jn zp5))))))))),?_⟩;rintro ts n R hl @⟨bits,i,h,n,R,b0,b1,B,r⟩;have g0:0<=h:=B.1;have g1:h<=bits:=B.2.1;have bd:=B.bounds b0;have rn:rngN (bits - 1) (h - 1) (-1)=(bits - h).toNat:=by unfold rngN bU;rw[if_neg (by decide)];split;rw[Int.neg_neg,sE];lia;lia
 wp_walk;lia;lia;lia;lia;decide;decide;decide;rw[rn];refine Qr (cs:=cg (bits - h).toNat) (D:=fun j:Nat=>.int (bits - 1+(j:Int)*-1)) (fun j:Nat=>.str (if (i / 2 ^ (bits - 1+(j:Int)*-1).toNat) % 2=0 then aa "0" else aa "1")) (by rw[fI];lia) ?_ ?_
 ·intro j v Y X2 u;have v:=dz.mp v;have nn:0<=i / 2 ^ (bits - 1+(j:Int)*-1).toNat:=eG bd.1 (by have:=Qp (bits - 1+(j:Int)*-1).toNat;lia);have C:(i / 2 ^ (bits - 1+(j:Int)*-1).toNat) % 2=0\/(i / 2 ^ (bits - 1+(j:Int)*-1).toNat) % 2=1:=by lia
  wp_walk;lia;decide;rcases C with z|z <;> rw[z];exact nL _;exact Nat.one_lt_two_pow (by decide);rcases C with z|z;rw[if_pos z]at u;rw[z];exact u;rw[if_neg (by lia)]at u;rw[z];exact u
 ·wp_walk;refine⟨(cg (bits - h).toNat).map fun j:Nat=>(if (i / 2 ^ (bits - 1+(j:Int)*-1).toNat) % 2=0 then aa "0" else aa "1"),by rw[cx];rfl,joinOk_of (k:=1) (fun s I=>?_) (by rw[aJ,fI,show(aa "").length=0 by decide +kernel];lia),?_⟩;obtain⟨j,_,rfl⟩:=aY.mp I;split <;> decide +kernel;rw[join_nil];have e:((((cg (bits - h).toNat).map fun j:Nat=>(if (i / 2 ^ (bits - 1+(j:Int)*-1).toNat) % 2=0 then aa "0" else aa "1")).map (·.cps.toList)).flatten)=figL (bits - h).toNat (i / 2 ^ h.toNat):=by
   rw[cx];have e2:∀(l:List Nat),(∀j∈l,j<(bits - h).toNat)->(l.map ((fun x:Str=>x.cps.toList)∘fun j:Nat=>(if (i / 2 ^ (bits - 1+(j:Int)*-1).toNat) % 2=0 then aa "0" else aa "1"))).flatten=l.map fun j=>48+(((i / 2 ^ h.toNat) / 2 ^ ((bits - h).toNat - 1 - j)) % 2).toNat:=by
    intro l;induction l with
    | nil=>intro _;rfl
    | cons j r S =>
     intro v;have h1:=v j (by simp);rw[aK,gJ,aK,S fun q J=>v q (by simp[J])];have U:(i / 2 ^ h.toNat) / 2 ^ ((bits - h).toNat - 1 - j)=i / 2 ^ (bits - 1+(j:Int)*-1).toNat:=by rw[kF (by have:=Qp h.toNat;omega),<- g6,show h.toNat+((bits - h).toNat - 1 - j)=(bits - 1+(j:Int)*-1).toNat by omega]
     rw[U];show(if (i / 2 ^ (bits - 1+(j:Int)*-1).toNat) % 2=0 then aa "0" else aa "1").cps.toList++_=_;by_cases z:(i / 2 ^ (bits - 1+(j:Int)*-1).toNat) % 2=0;rw[if_pos z,z,s_0,JW];rfl;have G:(i / 2 ^ (bits - 1+(j:Int)*-1).toNat) % 2=1:=by omega
     rw[if_neg z,G,s_1,JW];rfl
   exact e2 _ fun j v=>dz.mp v
  rw[e];unfold begL at r;wp_walk;split <;> decide;split <;> decide;decide +kernel;rw[Qs,U8];by_cases hc:0<h;rw[decide_eq_true hc,if_pos rfl,show(repS (aa "*") 1).length=1 by decide +kernel];lia;rw[decide_eq_false hc,if_neg (by decide),show(repS (aa "*") 0).length=0 by decide +kernel];lia;by_cases hc:0<h;rw[if_pos hc]at r;rw[decide_eq_true hc,if_pos rfl,show repS (aa "*") 1=mkS [42] by decide +kernel,Ve];exact r;rw[if_neg hc]at r;rw[decide_eq_false hc,if_neg (by decide),show repS (aa "*") 0=mkS [] by decide +kernel,Ve];exact r
inductive zcE:List ae->Nat->(ae->Nat->Prop)->Prop
 | c {d:Deal} {n:Nat} {R:qN} (D:Dl d) (h1:d.2.1.length<=1000) (h2:d.2.2.length<=1000) (h:R (.str (UC d)) n):zcE [dlD d] n R
def zdY(Z:ZZ):Prop:=QF Z "_law_text" 45 ["_law_deal_here"] 2 1 zcE
theorem zf9(D:DQ Z "_law_text" 45 ["_law_deal_here"]) (EX:zb4 Z) (T:Txt Z.mg):zdY Z:=by
 refine' okN ["_law_deal_here","_law_bits_here","_law_outs","_law_kept","_law_rows","_law_word","_law_pairs"] D fun hr=>⟨_,(Jb (QV (Jk 0) (JK rfl (Jh (dgv 1 (ndB rfl)) (Jh (dgv 2 (ndB rfl)) (Jh (dgv 3 (ndB rfl)) JJ))))) (Jb (U0 (i:=4) (ndB rfl) rfl (dP rfl) (J6 (dbc (JR (dl Jo) (dl (Q5 zdu znS T.str VD (Jl (dlv 1) Jn Jm)))) Ja))) (Jb (UF cW rfl (QU (JF (dbc (JF (dbc Jo (dbv 2 Ja))) (dbc (JF (dbc Jo (dbv 3 Ja))) Ja)))) (JK rfl (Jh (dgv 5 (ndB rfl)) (Jh (dgv 6 (ndB rfl)) JJ))) (Jc (zgJ 4 (Jy (dnc ["_law_block_here","_law_name"] [5,1] (dil (QU (Jk 6))) (fun _ _ _ _=>(JK rfl (Jh (dgv 0 (ndB rfl)) (Jh (dgv 1 (ndB rfl)) JJ)))) (fun _ _ _ _=>(Y4 (dl Jo) (Jy (J6 (dbv 2 (dbc (Jd EX hr (dbv 3 (dbv 0 Ja))) (dbv 1 Ja)))))))))))) (Yb 4 (Jc (Jg (Y4 (dl Jo) (Jk 4)))))))),?_⟩;rintro ts n R hl @⟨⟨bits,os,ks⟩,n,R,D,I,J,h⟩;obtain⟨G,o,L,N,ag⟩:=D;have G:1<=bits:=G;have o:bits<=64:=o;have I:os.length<=1000:=I;have J:ks.length<=1000:=J;rw[show dlD (bits,os,ks)=.tuple [.int bits,.tuple (oD os),.tuple (oD ks)] from rfl];have x:∀{os:List NP},Shr bits os->∀p∈os,IsBk bits p.1.1 p.1.2/\IsNm p.2:=fun S p C=>⟨S.1.1 _ (aY.mpr ⟨p,C,rfl⟩),S.2 p C⟩;have lb:=(Vq G o).1;have Y:aa "bits " ++ aa (toString bits)=QG bits:=by unfold QG;rw[zhn];rfl
 have rows:∀{os:List NP} {w:Str} {n:Nat} {R:List ae->Nat->Prop},Shr bits os->os.length<=1000->IsW w->R ((os.map (rowS bits w)).map .str) n->QJ (Qd (JB (Jv 0) (JB (Jv 1) Qc))) dYes (zpv (dC (bH (aa " "))) (dNew (JG (dVar 2) (JG (dFn VO (JG (dVar 3) (JG (dVar 0) dNil))) (JG (dVar 1) dNil))))) [none,none,some (.val (.str w)),some (.val (.int bits))] (oD os) [] n R:=by intro os w n R S l hw h;refine Qr (cs:=os) (D:=fun p=>.tuple [prD p.1,.str p.2]) (fun p=>.str (rowS bits w p)) (by lia) ?_ (by rw[cx]at h;exact h);rintro⟨⟨i,g⟩,nm⟩ C K X hK;obtain⟨B,hn⟩:=x S _ C;have l3:=zdl (i:=i) o B.1;have lw:=hw.ok.1;rw[aP]at lw;wp_walk using VO.c (by lia) o B ?_;refine⟨[w,mkS (begL bits i g),nm],rfl,joinOk_of (k:=65) (fun s U=>?_) (by rw[show(aa " ").length=1 by decide +kernel];show 3*_<=_;decide),?_⟩;simp only[aq,av,or_false]at U;rcases U with rfl|rfl|rfl;exact aH lw (by decide);rw[Qs];exact l3;exact aH hn.2.1 (by decide);rw[zfT]at hK;exact hK
 wp_walk;exact iu (show bits.natAbs<65 by lia) (au (show 65<2 ^ 7 by decide) (lq (by decide) (by decide)));rw[<- gY,Y];lia;rw[Y];have w1:IsW (aa "out"):=.inl rfl;have w2:IsW (aa "kept"):=.inr rfl;wp_walk using zio ?_,zgF ?_,rows L I w1 ?_,rows N J w2 ?_;simp only[aJ,aF,bO];lia;simp only[aM,aJ,aF,bO];lia;refine⟨J1 bits os ks,?_,zeQ G o (fun p C=>⟨(x L p C).1.1,(x L p C).2⟩) (fun p C=>⟨(x N p C).1.1,(x N p C).2⟩) I J,h⟩;rw[J1,aK,dO];rfl
def SmD:Nat->ae->Prop
 | 0,_=>False
 | j+1,t=>(∃i:Int,t=.int i)\/(∃s:Str,t=.str s)\/∃ts,t=.tuple ts/\ts.length<=100000/\∀x∈ts,SmD j x
def Zp:Nat->GD
 | 0=>fun _ _ _=>False
 | j+1=>fun ts n R=>R (.bool true) n/\∃t,ts=[t,t]/\SmD (j+1) t
theorem zjx{j:Nat}{t:ae}{n:Nat}{R:qN}(h:R (.bool true) n)(k:SmD j t):Zp j [t,t] n R:=by rcases j with _|j;exact k.elim;exact⟨h,t,rfl,k⟩
theorem zp6{p:NP}:SmD 3 (.tuple [prD p.1,.str p.2]):=by refine .inr (.inr ⟨_,rfl,by simp,fun x hx=>?_⟩);simp only[aq,av,or_false]at hx;rcases hx with rfl|rfl;refine .inr (.inr ⟨_,rfl,by simp,fun x hx=>?_⟩);simp only[aq,av,or_false]at hx;rcases hx with rfl|rfl <;> exact .inl ⟨_,rfl⟩;exact .inr (.inl ⟨_,rfl⟩)
theorem zns{os:List NP}(l:os.length<=1000):SmD 4 (.tuple (oD os)):=.inr (.inr ⟨_,rfl,by rw[Q8];lia,fun x hx=>by obtain⟨p,_,rfl⟩:=aY.mp hx;exact zp6⟩)
theorem zhN{d:Deal}{n:Nat}{R:qN}(v:d.2.1.length<=1000)(u:d.2.2.length<=1000)(h:R (.bool true) n):Zp 5 [dlD d,dlD d] n R:=⟨h,_,rfl,.inr (.inr ⟨_,rfl,by simp,fun x hx=>by simp only[aq,av,or_false]at hx;rcases hx with rfl|rfl|rfl;exact .inl ⟨_,rfl⟩;exact zns v;exact zns u⟩)⟩
theorem zlQ:∀{xs:qD},zipD xs xs=xs.map fun t=>.tuple [t,t]:=by
 intro xs;unfold zipD;induction xs with
 | nil=>rfl
 | cons x xs o=>simpa using o
def zdZ(Z:ZZ):Prop:=FQ Z "_law_same" (top 46) ["_law_one","_law_due"] 6 (spD Z.K 2 (Zp 5))
theorem Zr(D:DQ Z "_law_same" 46 ["_law_one","_law_due"]) (T:Txt Z.mg) (j:Nat) (C:FQ Z "_law_same" (top 46) ["_law_one","_law_due"] (1+j) (spD Z.K 2 (Zp j))):FQ Z "_law_same" (top 46) ["_law_one","_law_due"] (1+j+1) (spD Z.K 2 (Zp (j+1))):=by
 refine' okN ["_law_one","_law_due"] D fun v=>⟨_,(Jb (Jq (JI (dl (J8 UO T.isi T.tup Qz (dlv 1) Jm))) (Jc (Jg (Qq (J8 UO T.isi T.tup Qz (dlv 0) Jm) (Qq (Qk (Qx v) Qt (dl (Jw Qa J7 T.len J2 (Jl (dlv 0) Jn Jm))) (dl (Jw Qa J7 T.len J2 (Jl (dlv 1) Jn Jm))) (Jj _)) (QK (Jw (Uf rfl) Q6 T.all Ue (Jl (dl (Jy (dnc ["_law_a","_law_b"] [] (dil (zk5 T.zip (Jk 0) (Jk 1))) (fun _ _ _ _=>(JK rfl (Jh (dgv 0 (ndB rfl)) (Jh (dgv 1 (ndB rfl)) JJ)))) (fun _ _ _ _=>(Jd C v (dbv 0 (dbv 1 Ja)) (by omega)))))) Jn Q3))))))) Js) (Jb (Jq (JI (dl (J8 zkN T.isi T.lst zeW (dlv 1) Jm))) (Jc (Jg (Qq (J8 zkN T.isi T.lst zeW (dlv 0) Jm) (Qq (Qk (Qx v) Qt (dl (Jw Qa J7 T.len J2 (Jl (dlv 0) Jn Jm))) (dl (Jw Qa J7 T.len J2 (Jl (dlv 1) Jn Jm))) (Jj _)) (QK (Jw (Uf rfl) Q6 T.all Ue (Jl (dl (Jy (dnc ["_law_a","_law_b"] [] (dil (zk5 T.zip (Jk 0) (Jk 1))) (fun _ _ _ _=>(JK rfl (Jh (dgv 0 (ndB rfl)) (Jh (dgv 1 (ndB rfl)) JJ)))) (fun _ _ _ _=>(Jd C v (dbv 0 (dbv 1 Ja)) (by omega)))))) Jn Q3))))))) Js) (Jb (Jq (JI (dl (zpp T.isi T.boo T.int (Jk 1) Jm))) (Jc (Jg (Qq (J8 zkO T.isi T.int boot_int (dlv 0) Jm) (Qq (Qk (Qx v) Qt (dl (J8 Vc T.isi T.boo Vz (dlv 0) Jm)) (dl (J8 Vc T.isi T.boo Vz (dlv 1) Jm)) (Jj _)) (QK (Qk (Qx v) Qt (dlv 0) (dlv 1) (Jj _))))))) Js) (Jc (Jg (Qk (Qx v) Qt (dlv 0) (dlv 1) (Jj _))))))),?_⟩;intro ts n R L h;obtain⟨h,t,rfl,⟨i,rfl⟩|⟨s,rfl⟩|⟨ts,rfl,l,I⟩⟩:=h
 ·wp_walk;rw[decide_eq_true rfl];exact h;exact absurd rfl hc
 ·wp_walk;rw[decide_eq_true rfl];exact h
 ·wp_walk
  ·rw[zlQ];refine Qr (cs:=ts) (D:=fun t=>.tuple [t,t]) (fun _=>.bool true) (by lia) ?_ ?_
   ·intro t G J N x;wp_walk;exact zjx x (I t G)
   wp_walk using Um (f:=fun _=>true) ?_;rw[show(ts.all fun _=>true)=true from bw.mpr fun _ _=>rfl];exact h
  exact absurd rfl hc
theorem zga(D:DQ Z "_law_same" 46 ["_law_one","_law_due"]) (T:Txt Z.mg):zdZ Z:=(Zr D T 4 (Zr D T 3 (Zr D T 2 (Zr D T 1 (Zr D T 0 (zph D fun _ _ _ h=>h))))))
theorem zq1{f:ah}{fd:cJ}(D:Def Z.K Z.mg "law" (top 47) ["_law_script"] f fd) (Hg:zd1 Z) (Hh:zd3 Z) (Hb:zdr Z) (Hi:zd2 Z) (Hj:zdY Z) (EO:Uw Z) (ET:zdZ Z) (ER:UT Z) (E6:zdT Z) (E7:zdU Z) (T:Txt Z.mg):FnOk Z.P Z.w Z.K Z.mg Z.base CX0 8 f fd ["_law_script"] (spD Z.K 1 zsc):=by
 refine D.okD (fnS (N:=["_law_script","_law_k","_law_hand_here","_law_bits_here","_law_names_here","_law_deal_here","_law_text_here"]) (by decide +kernel)) rfl fun cdv A outer s H E o=>?_;refine'⟨_,(Jb (UF cW rfl (VG T.ran (Jw (zgQ rfl) znU T.max zgV (Jl dli (Jl (dl (Jw (zgP rfl) znT T.min zgU (Jl (dl (Jw Qa J7 T.len J2 (Jl (dlv 0) Jn Jm))) (Jl dli Jn zjq) Vo))) Jn Vo) zjq))) (dgv 1 (ndB rfl)) (zk0 (i:=2) (j:=1) Hg o (ndB rfl) rfl (dP rfl) (Jb (dsv 3 (ndB rfl) (Jd Hh o (dbv 2 Ja))) (Jb (dsv 4 (ndB rfl) (Jd Hb o (dbv 2 (dbc (JR dli (dl (Jd ER o (dbv 2 (dbc Ji Ja))))) Ja)))) (Jb (dsv 5 (ndB rfl) (Jd Hi o (dbv 2 (dbv 3 (dbv 4 (dbc (Jd EO o (dbv 2 (dbc (Jy (J6 (dbc Ji (dbc Ji (dbc Ji (dbc Ji (dbc Ji (dbc Ji (dbc Ji (dbc Ji Ja)))))))))) Ja))) Ja)))))) (Jb (dsv 6 (ndB rfl) (Jd Hj o (dbv 5 Ja))) (Jb (Jq (JT (Qf (Jp (QX o) QP (dl (Jd E6 o (dbv 5 Ja))) (dlv 6) (Jj _)) (Qm (JN (JI (dl (Jd ET o (dbc (Jd E7 o (dbv 6 Ja)) (dbv 5 Ja))))))))) (Jc (Jg Qi)) Js) (Jc (Jq (JN (JI (dl (Jd ET o (dbc (Jd E7 o (dbc (Jd E6 o (dbv 5 Ja)) Ja)) (dbv 5 Ja)))))) (Jc (Jg Qi)) Js))))))))) (Jc (Jg Qi))),?_⟩;intro ts n R hl hh;obtain⟨ns,rfl,C,hh⟩:=hh;wp_walk;split <;> (try split) <;> lia;split <;> (try split) <;> lia;refine Zn (fun _ Y m=>∃a1 a2 G U J S,Y=[some (.val (SCR ns)),a1,a2,G,U,J,S]/\m=n) ⟨_,_,_,_,_,_,rfl,rfl⟩ ?_ ?_
 ·rintro k t Y m K et ⟨a1,a2,G,U,J,S,rfl,rfl⟩ hK;obtain⟨hk,rfl⟩:=zeF et;have hk8:k<8:=by
   revert hk;split <;> (try split) <;> lia
  with_reducible refine Stp.go ?_
  refine zm0 C (by lia) (by lia) fun NX RT BK CT I hRT hBK hCT=>?_;have pk:∀{n:Nat} {R:qN},n<=1000000000000->(∀most:Int,0<=most->most<=30->R (.int most) (n+1))->Yd [HAND,.list [.int 6,.int 6,.int 6,.int 6,.int 6,.int 6,.int 6,.int 30]] n R:=fun h1 h2=>Yc (by simp) (by simp) h1 fun x hx=>by simp only[aq,av,or_false]at hx;rcases hx with rfl|rfl|rfl|rfl|rfl|rfl|rfl|rfl <;> exact h2 _ (by decide) (by decide)
  wp_walk using zhP ?_ (fun bits b0 b1=>?_),Ul ?_ ?_ ?_ (fun r r0 r1=>?_),zcf.c ?_ ?_ ?_ (fun u nl nk nd=>?_),pk ?_ (fun mo m0 m1=>?_);all_goals first|lia|skip
  rw[show(u.map bH)=nD u from rfl];have L:u≠[]:=fun z=>by rw[z]at nl;simp at nl;lia
  have nl':u.length<=9:=by lia
  refine zhO b0 b1 m0 (by lia) L (by lia) nk (by lia) fun d m3 D e l1 l2 ho hm=>?_;have l1:d.2.1.length<=1000:=by lia
  have l2:d.2.2.length<=1000:=by lia
  wp_walk using zcE.c D l1 l2 ?_,zcB.c D l1 l2 ?_,zcC.c D l1 l2 ?_,zhN l1 l2 ?_;all_goals first
   | exact absurd rfl hc
   | exact absurd hc (by decide)
   | exact I _ _ (hK _ _ ⟨_,_,_,_,_,_,rfl,rfl⟩)
   | skip
 ·rintro Y m ⟨a1,a2,G,U,J,S,rfl,rfl⟩;wp_walk;exact hh _
end
section
open PySem.W PyProof.Rows
theorem zsx{U:oa->Option af}{mg mb:qM}{h:bt}{w:aT}{G:ah}(T0:gU qv (looseW qv []) U mg mb h)(C:mg (defName (top 47))=some (.ref G)) :
  ∃fd:cJ,(∀(s:ak) (v:af),n0 s fd ⟨[v],[]⟩ [("_law_script",v)])/\∀base:bt,(Qj h).In base->base.Ns mainGlobals mg->FnOk aG.prog w (Qj h) mg base CX0 8 G fd ["_law_script"] (zoa (Qj h)):=by
 have T:=zpW T0;have E5:∃t,mg "MOST_FIGURES" = some (.int 20 t):=by obtain⟨v,e,r⟩:=T0.const _ _ zdx;cases r h with|int i t=>exact⟨t,e⟩
 obtain⟨f,fd,DL⟩:=dq_g (x:="law") (ps:=["_law_script"]) T0 (znM (i:=47) (by kernel_rfl)) (by kernel_rfl) fun _ _ _ _ _ _ us hl=>by obtain⟨_,rfl⟩:=len1 hl;rfl
 have e0:cu f=cu G:=aQ (DL.m.symm.trans C);cases e0;refine⟨fd,fun s v=>?_,fun base _ _=>?_⟩;obtain⟨oc,od,kV,doc,pm,an,cdv,ct,osl,rfl,_,_⟩:=DL.F.ex;exact .of_eq rfl;let Z:ZZ:=⟨aG.prog,w,Qj h,mg,base⟩;have Hc:=zf8 (Z:=Z) (dqG T0)  T;have Ho:=zhj (Z:=Z) (dqG T0)  T;have E6:=zf5 (Z:=Z) (dqG T0) Hc T;have N:=zhg (Z:=Z) (dqG T0)  T;have S:=zhi (Z:=Z) (dqG T0) N T;have Hs:=ziQ (Z:=Z) (dqG T0)  T;have Hz:=zj9 (Z:=Z) (dqG T0)  T;have Hx:=zmt (Z:=Z) (dqG T0) Hz T;have HB:=zmu (Z:=Z) (dqG T0) Hx T;have J:=ziS (Z:=Z) (dqG T0)  T;have L:=zj8 (Z:=Z) (dqG T0) Hs T;have Hm:=zhh (Z:=Z) (dqG T0) S L T;have Ha:=zfi (Z:=Z) (dqG T0)  T;have Ht:=ziR (Z:=Z) (dqG T0)  T;have EY:=zfh (Z:=Z) (dqG T0) Hm Ha J Ht T;have HC:=zmv (Z:=Z) (dqG T0) L HB T;have Hv:=ziT (Z:=Z) (dqG T0) EY HC N T;have He:=zf7 (Z:=Z) (dqG T0) E5 T;have Hu:=ziU (Z:=Z) (dqG T0) He T;have Y:=zhf (Z:=Z) (dqG T0) Ho J T;have E7:=zf6 (Z:=Z) (dqG T0) Hu Y Hv T;have Hg:=zfg (Z:=Z) (dqG T0)  T;have u:=zff (Z:=Z) (dqG T0)  T;have l:=zgb (Z:=Z) (dqG T0) u T;have Hh:=zgf (Z:=Z) (dqG T0) l T;have R:=zfl (Z:=Z) (dqG T0) l u T;have Hf:=zgc (Z:=Z) (dqG T0) l R T;have E9:=zeo (Z:=Z) (dqG T0) u R Hf l T;have EZ:=zfj (Z:=Z) (dqG T0) E9 T;have Hb:=zfk (Z:=Z) (dqG T0) u l T;have Hi:=zge (Z:=Z) (dqG T0) EZ l u T;have EX:=zdd (Z:=Z) (dqG T0)  T;have Hj:=zf9 (Z:=Z) (dqG T0) EX T;have ET:=zga (Z:=Z) (dqG T0)  T;exact(zq1 (Z:=Z) DL Hg Hh Hb Hi Hj l ET u E6 E7 T).imp zoU
end
end Bd
open PySem PySem.W PyProof.Rows
set_option maxRecDepth 100000 in
set_option maxHeartbeats 0 in
theorem PySem.Challenge.cw_blockdeal_k45_deals_shown_and_read_holds : PySem.Challenge.rw_blockdeal_k45_deals_shown_and_read.Holds := by
 w_on
 refine holds_law Bd.zoe fun l=>?_;refine holds_open (r:=aG.row) (d:=Bd.recD (Bd.top 47)) (kwd:=[]) Bd.zoS (Hook.of gV) (Hook.keeps gV) (fun s e=>xl_of s (lJ.mp e).1) XL.keeps (by kernel_rfl) (by kernel_rfl) (by kernel_rfl) (fun s e=>recFacts_of (lJ.mp e).2) (by kernel_rfl) l (by kernel_rfl) ⟨rfl,rfl,rfl,rfl,rfl,by decide +kernel⟩ ?hw ?hc
 case hw=>w_witness2
 case hc=>exact Bd.ztf (lw:=aG) (k:=8) (by decide) rfl rfl fun w s₀ mg u v h G o=>Bd.zsx G.T o