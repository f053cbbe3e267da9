import PyProof.Rows.All
import Wide.All
import OpenK.AllK
import Wide.FinOn
import Lean
import PyProof.EqAt
import PyProof.EqKinds
import PyProof.TupleCall
import PySem.Challenge.RW_blockdeal_k26_blocks_taken
open PySem renaming wpAny_bind->aa,PyData->af,Value->ah,wpAny_pure->aj,Addr->ak,Shared->au,Program->aG,Heap->aN,Expr->aO,World->aP,Around->bo,wpAny_truthy_bool->bq,wpAny_holding->bz,FuncData->cD,wpAny_mono->cE,wpAny_newObj_type->cF,wpAny_field->cG,wpAny_seqItems->cI,Stmt->cT,DictEntry->cW,wpAny_standAt->c9,Paired->dh,wpAny_callSpecial?_slot->dE,wpAny_call_entry->dO,NameKind->dU,wpAny_setField_rec->dX,wpAny_passesOwn->ee,wpAny_rule->eI,mem_of_lookup->eN,OsState->eP,Scope->eU,wpAny_Call_Name_kw->eZ,wpAny_execs_nil->e8,codeAny_builtin->fe,wpAny_pyIter_list->fq,Builtin->fH,wpAny_typeOf->fI,wpAny_comprehension_free->fV,wpAny_letGo->gj,codeAny_mono->gp,wpAny_attempt->gW,wpAny_newList->gX,wpAny_onRaise->g6,wpAny_updateSeq_pair->g9,wpAny_pyIter_tuple->iE,wpAny_tryCatch->iN,IsPart->i9,plainId_quiet->kb,wpAny_execs_cons->kh,noFill_tuple_add->ki,codeAny_compStart_list->kI,IsPair->kK,wpAny_updateSeq->kU,wpAny_isTrue_Compare1->kW,wpAny_bindName->kY,sizeLine_eq->kZ,codeAny_call_builtin->lG,seq_tuple_add->lS,Result->lY,wpAny_call->lZ,wpAny_assign_Name->my,concat_meets->mH,wpAny_sequenceKey->mI,seqIndex_neg->mJ,slot_list_getitem->mK,codeAny_loop->mM,ExcName->m4,PassesOwn->m7,wpAny_pyIter_zip->nB,wpAny_getItem_of->nF,CmpOp->nI,seqIndex_of->nJ,wpAny_noted->nK,wpAny_of_eq->nM,IsZip->nN,wpAny_loadPart'->nT,wpAny_specialOf->oi,BindsTo->oj,wpAny_Name->om,wpAny_Expr_any->oo,typeIs_str->oB,sliceRange_one->oC,Params->oE,ReadsAll->oH,repr_of_reads'->oI,wpAny_newTuple->oN,wpAny_setField->oR,Model->rM,PyData->so,Within->sr,Keyword->sG,Value->tZ,pick_run->ug,call->vR
open PySem.Str renaming ofString->ae,empty->iB,length->kG
open PySem.Heap renaming get?_push_of_some->aq,lt_size->av,get?_push_size->ay,get?_update_other->bP,get?_push_ne->b5,size_update->cn,size_push->dm,SameBut->dJ,get?_update_self->fk,get?_update_ne->fR,FlyingW->mQ,ExtBut->uH
open List renaming mem_cons->aw,size_toArray->ax,getElem?_eq_some_iff->aA,mem_singleton->aC,mem_append->aE,getElem?_eq_getElem->aI,not_mem_nil->aK,length_map->aL,getElem?_set_ne->aM,length_cons->aR,getElem?_map->aU,mem_of_getElem?->aV,getD_eq_getElem?_getD->aY,mem_map->ba,all_eq_true->bc,length_append->bw,replicate->bE,mem_append_right->bH,pairwise_iff_getElem->bL,append_nil->bM,pairwise_append->bR,getElem_of_mem->bW,getElem?_append_left->cc,drop_eq_getElem_cons->cf,getElem?_set_self->cg,map_cons->cm,replicate_succ->cu,pairwise_singleton->cx,mem_cons_of_mem->cy,getElem?_append_right->cz,lookup_cons->cA,map_map->cB,getElem?_eq_none->cH,length_nil->cK,mem_cons_self->cL,length->cM,take_length->cN,filterMap_cons->cS,mem_filter->cU,of_mem_zip->cV,getElem_mem->cZ,pairwise_cons->c8,take_succ->dz,getElem?_replicate->dB,pairwise_map->dF,length_take->dM,length_drop->dN,map_snd_zip->dP,cons_append->dQ,length_filter_le->dY,nodup_cons->eh,map_append->eu,nil_append->eD,getElem?_cons_succ->eR,length_eq_zero_iff->eS,range->eX,mem_filterMap->eY,length_set->fc,find?_cons->fh,mem_of_mem_take->fE,map_fst_zip->fK,getElem?_cons_zero->gk,mem_range->gm,map_nil->gv,getElem?_set->gz,mapM_toArray->gF,take_of_length_le->gG,length_replicate->gM,mem_iff_getElem?->gN,drop_length->gO,all_toArray->gR,filter_cons->gS,mem_append_left->g7,forIn_cons->hV,map_congr_left->ib,length_pos_iff->ic,replicate_zero->ig,getD_cons_succ->ik,getD_cons_zero->ip,zip_cons_cons->iH,set_cons_succ->iP,set_cons_zero->iQ,getElem?_zip_eq_some->iS,append_assoc->i6,drop_sublist->i7,idxOf_lt_length_iff->ke,length_zip->kS,take_eq_take_iff->kX,map->lx,forIn_nil->lC,drop_zero->lD,mem_of_mem_drop->lF,getElem?_range->lN,mem_map_of_mem->lP,map_eq_nil_iff->lQ,filter_append->mi,any_eq_false->mD,take_sublist->mF,zip_nil_left->mG,ext_getElem?->mS,flatten_cons->mW,perm_middle->nt,zipIdx_cons->ny,zipIdx_nil->n9,lt_irrefl->oV,idxOf->oX,take_nil->rn,drop_nil->rq,lookup->uj,map_id->uG,not_lt->uM
open Nat renaming le_refl->az,lt_of_lt_of_le->aB,ne_of_lt->aD,lt_or_ge->br,le_trans->bG,zero_le->eF,lt_trichotomy->eG,lt_irrefl->fi,le_add_right->fL,testBit_succ->fM,zero_add->gA,mod_eq_zero_of_dvd->gJ,dvd_of_mod_eq_zero->gK,le_succ->iX,shiftLeft_eq->km,testBit_zero->ko,ne_of_gt->kC,mul_comm->kL,pow_succ->kM,sub_self->kP,testBit_and->kT,eq_of_testBit_eq->lE,eq_zero_or_pos->l9,lt_or_eq_of_le->mj,le_of_lt->mw,le_of_eq->mL,sub_zero->mU,lt_succ_of_lt->mZ,le_of_not_lt->nq,min_eq_left->oa,and_le_left->oh,mul_assoc->rC,min_self->sN,le_total->sX,log2_lt->um,one_mul->ur
open Bool renaming and_eq_true->aF,false_eq_true->aH,false_ne_true->aS,and_eq_true_iff->aT,false_and->cj,true_and->df,eq_false_iff->dG,eq_iff_iff->e9,not_true->fj,not_false->gE,and_false->gH,and_true->gY,not_eq_true'->i5,or_eq_false_iff->ly
open Option.some renaming inj->aJ
open Iff renaming rfl->aQ
open Int renaming dvd_of_emod_eq_zero->aW,le_refl->aX,pow_succ->bV,emod_eq_zero_of_dvd->cO,mul_le_mul_of_nonneg_right->cY,mul_comm->dg,one_mul->dw,toNat_natCast->dD,mul_assoc->eM,add_mul->eV,mul_le_mul_of_nonneg_left->eW,natCast_pow->fg,lt_trichotomy->fw,mul_neg_of_pos_of_neg->fQ,emod_lt_of_pos->gf,pow_add->g8,emod_nonneg->ia,le_of_lt->iq,lt_or_le->iw,lt_of_mul_lt_mul_right->iM,lt_of_mul_lt_mul_left->iT,mul_one->iW,eq_ofNat_of_zero_le->kj,natCast_zero->kA,natCast_nonneg->l8,le_trans->mX,add_emod->mY,mul_add->nQ,emod_two_eq->og,sub_mul->uw
open PySem.PyData renaming canLayAll0->aZ,canLay0->bp,int->bK,depthAll->bN,hasDict_of_canLay->bS,hasDict->ck,bool->cq,depth->cC,eqv->dW,leavesShortAll->fo,hasDictAll->fv,str->fF,leavesShort->fY,showableAll->fZ,shown->gy,weightAll->gQ,eqvAll->gZ,showable->hW,tuple->iz,none->lh,weight->lT,noDict_hsm->mP,dict->uu,list->uv
open PySem.W renaming boot_heap->bf,kia_one->bu,fnOf->cQ,kitx_dict->eE,keepIn->gq,codeIn->gr,callWith_K->iF,methodObj->iV,cellsFrom_some->kE,boot_drawn->kN,instObj->kQ,lookIn->k8,boot_toks->lJ,hideAll_get->lK,of_hideAll->lW,kitx_tuple->lX,kitx_list->mE,looks_findIn->m5,plainGet->m8,hideAll->nS,findIn->ot,kitOne->ou,Looks->se,SharedT->tf
open PySem.Builtin.SmallTypes renaming nextOf->bg,ownedTupleIsFree->cJ,ownedTupleHandOut->fS
open PySem.Value renaming type->bh,ref->bT,isStrOf->cP,bool->dS,str->iA,none->iC,builtin->kc,int->rL,isInt->t4,float->t5
open PySem.PassesOwn renaming never->bO
open PyProof.Rows renaming wpS_bind->bQ,slot_tuple_getitem->bU,wpS_pure->cR,size_push'->dH,callWith_type1->ft,IntsAre->fG,listItems_at->fJ,wpS_forRange->gC,Top->gT,AllBare->gV,assignInOrder_cons->iD,SortKind->iK,subscriptTail_builtinR->kF,pairsOf_size->kJ,SortSt->lz,wpS_reverse->lA,mirror_perm->lB,entry_tuple_getitem->lM,Keyed->lU,listUpdate_at->lV,args_tuple_getitem->l7,IsTup->mn,assignInOrder_nil->mC,wpS_get->mT,callWith_builtin1->m9,get?_update_seq->nX,entry_list_sort->nZ,oneTypeOnly'_eq->n8,slicePart_none->oz,Subscript_->oA,wpS_mono->oK,wpS_modify->oM,slot_list_sort->oO,args_list_sort->oP,oneLt'_eq->rX,wpS_lift->uA,lt_int->uZ,lt_str->vg
open ForInStep renaming yield->bX
open False renaming elim->bY
open PySem.NameKind renaming free->bZ
open Classical renaming choose_spec->cw,byContradiction->fO,choose->gP
open Option renaming getD_some->cX,map_some->ei,isSome_iff_exists->i8,map_eq_some_iff->kO,getD_none->nc,bind_some->nH
open Or renaming inl->dA,inr->oU
open Array renaming length_toList->dI,perm_iff_toList_perm->fD,getElem?_eq_getElem->fP,toList->kB,toList_inj->nu,toList_map->nv
open PySem.F renaming plain_min_loop->dR,excBase_ValueError->fC,args_tuple_add_2->fT,entry_tuple_add->gh,plainAttrs_list->gi,slot_tuple_add->gu,args_tuple_iterator_next_1->hY,slot_zip_next->hZ,entry_tuple_iterator_next->iu,slot_tuple_iterator_next->iL,excAttr_ValueError->iO,slot_dict_getitem->iU,entry_min_loop->ku,slot_list_index->ky,args_zip_next_1->mV,entry_zip_next->nA
open PySem.Builtin.Slice renaming slicePlaces->dZ,sliceAdjust->fN,sliceApplied->iI,slicePartIndex->nU,sliceFields->pE
open PySem.Builtin.Tuple renaming tupleExact->eJ,tupleItemsOf->iJ,tupleCompareSizes->m6,tupleIsExact->oQ,tupleHashOf->pG
open PySem.Obj renaming mapSeq->eK,data_mapFields->mh
open PySem.Builtin.Int renaming intBits->eO
open PySem.Builtin renaming bitXor->eQ,bitNot->eT,bitAnd->fB
open PySem.Calls renaming Name_function_global->fA,call_function_entry->iR,loadGlobal_global->kg,callWith_builtin->kH,call_len_list->lL
open Prod renaming ext->fU,ext_iff->tv
open List.Pairwise renaming imp_of_mem->fW,nil->wL,and->wO
open List.cons renaming injEq->fX
open Ne renaming symm->gn
open PySem.Builtin.List renaming listItems->gD,listExtendWith->ir,listUpdate->rW
open PySem.W.RowW renaming records->gL
open Sum renaming inl->gU,inr->lH
open PySem.Around renaming under_plainId->hU
open PySem.Builtin.Builtins renaming bindParams->iy
open PySem.SeqAt.EqAt renaming int_int->iG,bool_bool->oW
open Function renaming comp_def->iY
open PySem.PyData.dict renaming injEq->iZ,inj->kR
open Prod.mk renaming injEq->ka,inj->uN
open True renaming intro->kD
open And renaming intro->lI
open PySem.Heap.SameBut renaming update->lO,refl->wM
open PySem.Paired renaming length->lR
open PySem.SeqAt renaming EqAt->l5,list_indexAt->rG
open PySem.Code renaming quiet_builtin->ma
open PySem.PyData.list renaming injEq->mO
open PySem.Txt renaming slice->nE
open Array.Perm renaming refl->nY
open PySem.EqNone renaming eq_none_none->oY,eq_none_bool->oZ,eq_bool_none->o5,ne_none_none->o8,ne_none_bool->o9,ne_bool_none->pd,eq_none_int->pN,eq_none_str->pO,eq_int_none->pP,eq_str_none->pR,ne_none_int->pT,ne_none_str->pU,ne_int_none->pV,ne_str_none->pX
open PySem.EqMixed renaming eq_bool_str->o6,eq_str_bool->o7,ne_bool_str->pf,ne_str_bool->ph,eq_int_str->pQ,eq_str_int->pS,ne_int_str->pW,ne_str_int->pY
open PyProof.Rows.LSm renaming kept_iter->rh
open PySem.Builtin.Range renaming rangeSize->rO
open Nat.succ renaming inj->sZ
open PySem.Shared renaming heap->uI
open PySem.Heap.IsSliceOf renaming new->vJ
open PySem.W.WShape renaming has->vQ
open PySem.Walks renaming list->vS
open PyProof.Rows.SortSt renaming mk'->vV
open PySem.Heap.IsTuple renaming push->wR
open List.Sublist renaming refl->xa
open PySem.Flow renaming next->xk
open PySem.W.WData renaming int->xE
open PySem.Heap.IsList renaming push->xK
open PySem.W.Looks renaming ld->y7
local macro_rules | `(tactic| walk_at "V") => `(tactic| first | exact Or.inl rfl | exact Or.inr (Or.inl rfl) | exact Or.inr (Or.inr rfl))
local macro_rules | `(tactic| walk_at "F") => `(tactic| first | exact .inl rfl | exact .inr rfl | assumption)
abbrev qF:=PySem.W.Frag
abbrev qB:=List (Int×Int)
abbrev qN:=so->Nat->Prop
abbrev qM:=PySem.Str->Option tZ
abbrev qV:=tZ->PySem.Shared->Prop
abbrev qD:=List so
abbrev qO:=List (PySem.Addr×PySem.Obj)
set_option Elab.async false
set_option linter.all false
set_option maxRecDepth 100000
set_option maxHeartbeats 4000000
namespace L2
open PySem PySem.Spec PyProof.Rows
abbrev Key:=Sum Int Str
def Y7:Key->ah->Bool
 | .inl k,v=>t4 k v
 | .inr x,v=>cP x v
def keyH(w:aP):Key->Int
 | .inl k=>hashInt k
 | .inr x=>hashStr w x
theorem Ue:∀{k:Key}{v:ah},Y7 k v=true->(∃i t,k=gU i/\v=rL i t)\/(∃x t,k=lH x/\v=iA x t)
 | .inl i,v,h=>by
  obtain⟨t,e⟩:=Value.isInt_shape (k:=i) (v:=v) h;exact .inl ⟨i,t,rfl,e⟩
 | .inr x,v,h=>by
  obtain⟨t,e⟩:=Value.isStrOf_shape (x:=x) (v:=v) h;exact .inr ⟨x,t,rfl,e⟩
theorem zgG(i:Int)(t:Tok):Y7 (.inl i) (.int i t)=true:=by simp[Y7,t4]
theorem zr_(a b:Int):decide ((gU a:Key)=gU b)=(a == b):=by
 by_cases e:a=b
 ·subst e;simp
 ·have h:¬(gU a:Key)=gU b:=fun q=>e (Sum.inl.inj q)
  rw[decide_eq_false h];exact(beq_eq_false_iff_ne.mpr e).symm
theorem zr7(a b:Str):decide ((lH a:Key)=lH b)=decide (a=b):=by
 by_cases e:a=b
 ·subst e;simp
 ·have h:¬(lH a:Key)=lH b:=fun q=>e (Sum.inr.inj q)
  rw[decide_eq_false h,decide_eq_false e]
theorem zr9(a:Int)(b:Str):decide ((gU a:Key)=lH b)=false:=decide_eq_false (fun q=>nomatch q)
theorem zr8(a:Str)(b:Int):decide ((lH a:Key)=gU b)=false:=decide_eq_false (fun q=>nomatch q)
def YW(prog:aG)(w:aP):PySem.KeyKind prog w Key where
 is:=Y7
 hash:=keyH w
 inj:=fun v a b I C=>by
  rcases Ue I with⟨i,t,rfl,rfl⟩|⟨x,t,rfl,rfl⟩
  ·rcases Ue C with⟨j,u,rfl,e⟩|⟨y,u,rfl,e⟩
   ·injection e with e1 _;rw[e1]
   ·exact nomatch e
  ·rcases Ue C with⟨j,u,rfl,e⟩|⟨y,u,rfl,e⟩
   ·exact nomatch e
   ·injection e with e1 _;rw[e1]
 byValue:=fun k v h=>by
  rcases Ue h with⟨i,t,rfl,rfl⟩|⟨x,t,rfl,rfl⟩ <;> rfl
 pyHash:=fun l h=>by
  rcases Ue l with⟨i,t,rfl,rfl⟩|⟨x,t,rfl,rfl⟩
  ·exact wpAny_pyHash_int h
  ·exact wpAny_pyHash_str h
 eqBool:=fun G l h=>by
  rcases Ue G with⟨i,t,rfl,rfl⟩|⟨x,t,rfl,rfl⟩
  ·rcases Ue l with⟨j,u,rfl,rfl⟩|⟨y,u,rfl,rfl⟩
   ·rw[zr_]at h;exact wpAny_eqBool_int h
   ·rw[zr9]at h;exact SeqAt.EqAt.int_str i t y u _ _ _ _ h
  ·rcases Ue l with⟨j,u,rfl,rfl⟩|⟨y,u,rfl,rfl⟩
   ·rw[zr8]at h;exact SeqAt.EqAt.str_int x t j u _ _ _ _ h
   ·rw[zr7]at h;exact wpAny_eqBool_str h
 «strs»:=fun k x t v h=>by
  rcases Ue h with⟨i,u,rfl,e⟩|⟨y,u,rfl,e⟩
  ·exact nomatch e
  ·injection e with e1 _
   subst e1;cases v <;> rfl
inductive V where
 | non|bl (b:Bool)|int (i:Int)|str (x:Str)|byt (b:Array UInt8)|flt (b:UInt64)|ref (a:ak)|ty (n:String)
 deriving DecidableEq
def RelV:V->ah->Prop
 | .non,u=>u=iC
 | .bl b,u=>u=dS b
 | .int i,u=>∃t,u=rL i t
 | .str x,u=>∃t,u=iA x t
 | .byt b,u=>∃t,u=Value.bytes b t
 | .flt b,u=>∃t,u=t5 b t
 | .ref a,u=>u=bT a
 | .ty n,u=>u=bh n
abbrev Vals:List V->List ah->Prop:=dh RelV
theorem Vals.length{xs:List V}{l:List ah}(r:Vals xs l):xs.length=l.length:=lR r
theorem Vals.get:∀{xs:List V}{v:List ah}{i:Nat}{x:V},Vals xs v->xs[i]?=some x->∃u,v[i]?=some u/\RelV x u
 | _,_,_,_,.nil,e=>by simp at e
 | _,_,0,_,.cons r _,e=>by simp at e;subst e;exact⟨_,rfl,r⟩
 | _,_,i+1,x,.cons _ t,e=>by
  obtain⟨u,y,C⟩:=Vals.get (i:=i) (x:=x) t (by simpa using e)
  exact⟨u,by simpa using y,C⟩
theorem Vals.set{x:V}{u:ah}(r:RelV x u):∀{xs:List V}{v:List ah} (i:Nat),Vals xs v->Vals (xs.set i x) (v.set i u)
 | _,_,_,.nil=>.nil
 | _,_,0,.cons _ t=>.cons r t
 | _,_,i+1,.cons q t=>.cons q (Vals.set r i t)
theorem Vals.append{xs ys:List V}{l u:List ah}(h:Vals xs l)(s:Vals ys u):Vals (xs++ys) (l++u):=by
 induction h with
 | nil=>exact s
 | cons r _ v=>exact .cons r v
theorem Vals.take:∀{xs:List V}{u:List ah} (n:Nat),Vals xs u->Vals (xs.take n) (u.take n)
 | _,_,0,_=>.nil
 | _,_,_+1,.nil=>.nil
 | _,_,n+1,.cons r t=>.cons r (Vals.take n t)
theorem Vals.drop:∀{xs:List V}{u:List ah} (n:Nat),Vals xs u->Vals (xs.drop n) (u.drop n)
 | _,_,0,r=>r
 | _,_,_+1,.nil=>.nil
 | _,_,n+1,.cons _ t=>Vals.drop n t
def RelO:Option V->Option ah->Prop
 | some v,some u=>RelV v u
 | none,none=>True
 | _,_=>False
def KV{l:Type}:List (l×V)->List (l×ah)->Prop:=dh fun(p:l×V) (q:l×ah)=>p.1=q.1/\RelV p.2 q.2
def kV:Key->V
 | .inl i=>.int i
 | .inr x=>.str x
inductive HO where
 | lst (xs:List V)
 | tup (xs:List V)
 | dK (kvs:List (Key×V))|dT (kvs:List (List Key×V))
 | set (S:Int->Bool) (n:Nat)
 | ins (C dx:ak) (fs:List (Str×V))
 | own (x:ak)
 | xd (fs:List (Str×V))
 | met (f x:ak)
 | rng (lo hi:Int)
 | frz (o:Obj) (u:HO)
 | tbl (q:Str)
 | ext (φ:aN->Prop)
abbrev Hp:=ak->Option HO
def upd(H:Hp)(a:ak)(o:HO):Hp:=fun b=>if b=a then some o else H b
theorem JM{H:Hp}{a:ak}{o:HO}:upd H a o a=some o:=by unfold upd;rw[if_pos rfl]
theorem Jn{H:Hp}{a b:ak}{o:HO}(h:b≠a):upd H a o b=H b:=by unfold upd;rw[if_neg h]
theorem Qs{H:Hp}{a b:ak}{o:HO}(h:H a=some o)(h':H b=none):a≠b:=by
 intro e;subst e;rw[h]at h';cases h'
def IsTD(h:aN)(a:ak)(items:Array ah):Prop:=∃o,h.get? a=some o/\o.cls=.type "tuple" /\ (∃n,o.data=.seq items n)/\o.dict=none
theorem IsTD.tup{h:aN}{a:ak}{items:Array ah}(x:IsTD h a items):mn h a items:=by
 obtain⟨o,e,c,d,_⟩:=x;exact⟨o,e,c,d⟩
theorem IsTD.lt{h:aN}{a:ak}{items:Array ah}(x:IsTD h a items):a<h.objs.size:=x.tup.lt
theorem IsTD.new(h:aN)(items:Array ah):IsTD (h.push { cls:=.type "tuple",data:=.seq items }) h.objs.size items:=⟨_,ay _ rfl,rfl,⟨_,rfl⟩,rfl⟩
def TabOk(H:Hp)(q:Str)(ps:Array ah):Prop:=TriplesOk ps.toList/\∀(pos:Pos) (x:ah),codeAmong pos ps.toList=some x->∃(c:ak) (o:Obj) (u:HO) (v:Array ah) (t:Tok),x=.ref c/\H c=some (.frz o u)/\o.data=.fields v/\v[1]?=some (.str q t)
section
variable(P:aG)(w:aP)
def JL(H:Hp)(h:aN)(a:ak):HO->Prop
 | .lst xs=>xs.length<=sizeLine/\∃(G:List ah) (n:Nat),Vals xs G/\h.get? a=some { cls:=.type "list",data:=.seq G.toArray n }
 | .tup xs=>xs.length<=sizeLine/\∃G:List ah,Vals xs G/\IsTD h a G.toArray
 | .dK I=>I.length<=sizeLine/\(a == sysModules)=false/\∃U,KV I U/\h.DictOf (YW P w) a U
 | .dT I=>I.length<=sizeLine/\(a == sysModules)=false/\∃xs:List (List Key×ak×ah),
   dh (fun(p:List Key×V) (q:List Key×ak×ah)=>p.1=q.1/\H q.2.1=some (.tup (p.1.map kV))/\RelV p.2 q.2.2) I xs /\
   ∃o es ep,h.get? a=some o/\o.ExactDict/\o.data=.dict es ep/\es.toList=xs.map (entryOfKey (tupleKind (YW P w)))/\(xs.map (·.1)).Nodup
 | .set S n=>h.SetOf (intKind P w) a S n
 | .ins C L fs=>H L=some (.own a)/\fs.length<=1000/\L≠a/\h.get? a=some (kQ C L) /\
   ∃J,h.Ns1 L J/\(∀f,RelO (fs.lookup f) (J f))/\sr J (fs.map (·.1))
 | .own _=>∃o,h.get? a=some o
 | .xd fs=>∃J,h.Ns1 a J/\∀f,RelO (fs.lookup f) (J f)
 | .rng lo hi=>∃t u v,h.get? a=some { cls:=.type "range",data:=.fields #[.int lo t,.int hi u,.int 1 v] }
 | .frz o u=>h.get? a=some o/\JL H h a u
 | .tbl q=>∃ps:Array ah,h.get? a=some { cls:=.none,data:=.fields ps }/\TabOk H q ps
 | .met f x=>h.get? a=some (iV (.ref f) (.ref x))
 | .ext R=>R h/\(∃o,h.get? a=some o)/\∀Y Z:aN,R Y->(∀o,Y.get? a=some o->Z.get? a=some o)->R Z
def HOk(H:Hp)(h:aN):Prop:=∀a o,H a=some o->JL P w H h a o
end
section
variable{P:aG}{w:aP}{H H':Hp}{h h':aN}{a:ak}{o:HO}
theorem JL.lt(x:JL P w H h a o):a<h.objs.size:=by
 cases o with
 | lst xs=>obtain⟨_,_,_,_,e⟩:=x;exact av e
 | tup xs=>obtain⟨_,_,_,p⟩:=x;exact p.lt
 | dK l=>obtain⟨_,_,_,_,o,_,_,e,_⟩:=x;exact av e
 | dT l=>obtain⟨_,_,_,_,o,_,_,e,_⟩:=x;exact av e
 | set S n=>obtain⟨o,_,_,_,e,_⟩:=x;exact av e
 | ins C I fs=>obtain⟨_,_,_,e,_⟩:=x;exact av e
 | own y=>obtain⟨_,e⟩:=x;exact av e
 | xd fs=>obtain⟨_,⟨_,_,_,e,_⟩,_⟩:=x;exact av e
 | rng lo hi=>obtain⟨_,_,_,e⟩:=x;exact av e
 | frz v u=>obtain⟨e,_⟩:=x;exact av e
 | tbl q=>obtain⟨_,e,_⟩:=x;exact av e
 | met f y=>exact av (show h.get? a=some _ from x)
 | ext G=>obtain⟨_,⟨_,e⟩,_⟩:=x;exact av e
theorem Paired.mapP{α x:Type}{F G:α->x->Prop}{v:List α}{u:List x}(h:dh F v u)(f:∀a b,F a b->G a b):dh G v u:=by
 induction h with
 | nil=>exact .nil
 | cons r _ y=>exact .cons (f _ _ r) y
theorem JL.stay(x:JL P w H h a o)(k:∀b u,(b=a\/H b=some (.own a))->h.get? b=some u->h'.get? b=some u)
  (ho:∀b,H b=some (.own a)->H' b=some (.own a)) (ht:∀b xs,H b=some (.tup xs)->H' b=some (.tup xs)) (hf:∀b G u,H b=some (.frz G u)->H' b=some (.frz G u)):JL P w H' h' a o:=by
 induction o with
 | lst xs=>obtain⟨z,L,n,r,e⟩:=x;exact⟨z,L,n,r,k _ _ (.inl rfl) e⟩
 | tup xs=>obtain⟨z,L,r,G,e,c⟩:=x;exact⟨z,L,r,G,k _ _ (.inl rfl) e,c⟩
 | dK Y=>obtain⟨z,y,N,r,G,J,I,e,c⟩:=x;exact⟨z,y,N,r,G,J,I,k _ _ (.inl rfl) e,c⟩
 | dT Y =>
  obtain⟨z,y,xs,r,G,J,I,e,c⟩:=x;exact⟨z,y,xs,Paired.mapP r fun p q z=>⟨z.1,ht _ _ z.2.1,z.2.2⟩,G,J,I,k _ _ (.inl rfl) e,c⟩
 | set S n=>obtain⟨G,J,I,t,e,c⟩:=x;exact⟨G,J,I,t,k _ _ (.inl rfl) e,c⟩
 | ins C dx fs =>
  obtain⟨d,z,ne,e,R,⟨U,J,I,Z,c⟩,r⟩:=x;exact⟨ho _ d,z,ne,k _ _ (.inl rfl) e,R,⟨U,J,I,k _ _ (.inr d) Z,c⟩,r⟩
 | own y=>obtain⟨G,e⟩:=x;exact⟨G,k _ _ (.inl rfl) e⟩
 | xd fs=>obtain⟨R,⟨U,J,I,e,c⟩,r⟩:=x;exact⟨R,⟨U,J,I,k _ _ (.inl rfl) e,c⟩,r⟩
 | rng lo hi=>obtain⟨t,u,v,e⟩:=x;exact⟨t,u,v,k _ _ (.inl rfl) e⟩
 | frz G u ih=>obtain⟨e,q⟩:=x;exact⟨k _ _ (.inl rfl) e,ih q⟩
 | tbl q =>
  obtain⟨ps,e,z,r⟩:=x;refine⟨ps,k a _ (.inl rfl) e,z,fun pos cv m=>?_⟩
  obtain⟨c,o,u,N,t,e1,Z,e3⟩:=r pos cv m;exact⟨c,o,u,N,t,e1,hf _ _ _ Z,e3⟩
 | met f y =>
  have e:h.get? a=some (iV (.ref f) (.ref y)):=x;show h'.get? a=some (iV (.ref f) (.ref y))
  exact k a _ (.inl rfl) e
 | ext φ=>obtain⟨p,⟨o,e⟩,st⟩:=x;exact⟨st _ _ p fun o q=>k _ _ (.inl rfl) q,⟨o,k _ _ (.inl rfl) e⟩,st⟩
theorem HOk.lt(x:HOk P w H h)(e:H a=some o):a<h.objs.size:=(x a o e).lt
theorem HOk.fresh(x:HOk P w H h)(e:h.objs.size<=a):H a=none:=by
 cases q:H a with
 | none=>rfl
 | some u=>exact absurd (aB (x.lt q) e) (fi _)
theorem HOk.kept(x:HOk P w H h)(k:∀b u,h.get? b=some u->h'.get? b=some u):HOk P w H h':=fun a o e =>
 (x a o e).stay (fun b u _ q=>k b u q) (fun _ q=>q) (fun _ _ q=>q) fun _ _ _ q=>q
theorem HOk.laid(x:HOk P w H h)(k:∀b u,h.get? b=some u->h'.get? b=some u)(C:h.objs.size<=a)(new:JL P w (upd H a o) h' a o):HOk P w (upd H a o) h':=fun b u e=>by
 have l:=x.fresh C
 by_cases hb:b=a
 ·subst hb;rw[JM]at e;cases e;exact new
 ·rw[Jn hb]at e;exact(x b u e).stay (fun c v _ q=>k c v q) (fun c q=>by rw[Jn (Qs q l)];exact q) (fun c xs q=>by rw[Jn (Qs q l)];exact q) fun c G xs q=>by rw[Jn (Qs q l)];exact q
end
def Rd(H:Hp)(a:ak)(u:HO):Prop:=H a=some u\/∃o,H a=some (.frz o u)
theorem Rd.ok{P:aG}{w:aP}{H:Hp}{h:aN}{a:ak}{u:HO}(r:Rd H a u)(x:HOk P w H h):JL P w H h a u:=by
 rcases r with r|⟨o,r⟩
 ·exact x a u r
 ·obtain⟨_,q⟩:=x a _ r;exact q
def Mut:Option HO->Prop
 | some (.lst _)=>True
 | some (.dK _)=>True
 | some (.dT _)=>True
 | some (.set _ _)=>True
 | some (.ins _ _ _)=>True
 | some (.ext _)=>True
 | _=>False
section
variable{P:aG}{w:aP}{H:Hp}{h h':aN}{x e:ak}{o':HO}
theorem HOk.write(ok:HOk P w H h)(l:Mut (H x))(L:e=x\/H e=some (.own x))(k:∀b u,b≠e->h.get? b=some u->h'.get? b=some u)(J:∃u,h'.get? e=some u)
  (new:JL P w (upd H x o') h' x o'):HOk P w (upd H x o') h':=fun b u q=>by
 have N:∀c y,H c=some (.own y)->c≠x:=fun c y r z=>by subst z;rw[r]at l;exact l
 have C:∀c xs,H c=some (.tup xs)->c≠x:=fun c xs r z=>by subst z;rw[r]at l;exact l
 have G:∀c I xs,H c=some (.frz I xs)->c≠x:=fun c I xs r z=>by subst z;rw[r]at l;exact l
 by_cases hb:b=x
 ·subst hb;rw[JM]at q;cases q;exact new
 ·rw[Jn hb]at q
  by_cases hbe:b=e
  ·have R:H b=some (.own x):=by
    rcases L with z|z
    ·exact absurd (hbe.trans z) hb
    ·rw[hbe];exact z
   rw[q]at R;cases R;obtain⟨v,S⟩:=J;exact⟨v,by rw[hbe];exact S⟩
  ·refine(ok b u q).stay (fun c v hc r=>k c v ?_ r) (fun c r=>by rw[Jn (N c b r)];exact r) (fun c xs r=>by rw[Jn (C c xs r)];exact r) fun c I xs r=>by rw[Jn (G c I xs r)];exact r
   rcases hc with rfl|hc
   ·exact hbe
   ·rintro rfl;rcases L with z|z
    ·exact N c b hc z
    ·rw[hc]at z;cases z;exact hb rfl
end
structure Un(fs ex:List ak)(H H':Hp)(h h':aN):Prop where
 keep:∀b o,h.get? b=some o->H b=none->b∉fs->b∉ex->h'.get? b=some o
 slot:∀b o,h.get? b=some o->H b=none->b∈fs->b∉ex->∃sl,h'.get? b=some { o with slots:=sl }
 free:∀b o,h.get? b=some o->H b=none->b∉ex->H' b=none
 there:∀b o,h.get? b=some o->b∉ex->∃o',h'.get? b=some o'
 tups:∀b xs,H b=some (.tup xs)->H' b=some (.tup xs)
 frzs:∀b o u,H b=some (.frz o u)->H' b=some (.frz o u)
 tbls:∀b q,H b=some (.tbl q)->H' b=some (.tbl q)
section
variable{fs fs' ex ex':List ak}{H H1 H2:Hp}{h h1 h2 h':aN}{a x e:ak}{o:HO}
theorem Un.any(u:Un fs ex H H1 h h1){b:ak}{l:Obj}(q:h.get? b=some l)(n:H b=none)(hx:b∉ex):∃v,h1.get? b=some { l with slots:=v }:=by
 by_cases hb:b∈fs
 ·exact u.slot b l q n hb hx
 ·exact⟨l.slots,u.keep b l q n hb hx⟩
theorem Un.kept(k:∀b u,h.get? b=some u->h'.get? b=some u):Un fs ex H H h h' :=
 ⟨fun b l q _ _ _=>k b l q,fun b l q _ _ _=>⟨l.slots,k b l q⟩,fun _ _ _ n _=>n,fun b l q _=>⟨l,k b l q⟩,fun _ _ q=>q,fun _ _ _ q=>q,fun _ _ q=>q⟩
theorem Un.refl:Un fs ex H H h h:=Un.kept fun _ _ q=>q
theorem Un.laid(k:∀b u,h.get? b=some u->h'.get? b=some u)(v:h.objs.size<=a)(l:H a=none):Un fs ex H (upd H a o) h h' where
 keep:=fun b u q _ _ _=>k b u q
 slot:=fun b u q _ _ _=>⟨u.slots,k b u q⟩
 free:=fun b u q n _=>by rw[Jn (aD (aB (av q) v))];exact n
 there:=fun b u q _=>⟨u,k b u q⟩
 tups:=fun b xs q=>by rw[Jn (Qs q l)];exact q
 frzs:=fun b u xs q=>by rw[Jn (Qs q l)];exact q
 tbls:=fun b ps q=>by rw[Jn (Qs q l)];exact q
theorem Un.write(l:Mut (H x))(G:e=x\/H e=some (.own x))(k:∀b u,b≠e->h.get? b=some u->h'.get? b=some u)(v:∃u,h'.get? e=some u):Un fs ex H (upd H x o) h h':=by
 have hx:∀b,H b=none->b≠x:=fun b n z=>by subst z;rw[n]at l;exact l
 have C:∀b,H b=none->b≠e:=fun b n z=>by
  subst z;rcases G with r|r
  ·exact hx b n r
  ·rw[n]at r;cases r
 have y:∀b u,H b=some u->¬Mut (some u)->b≠x:=fun b u q nm z=>by subst z;rw[q]at l;exact nm l
 refine⟨fun b u q n _ _=>k b u (C b n) q,fun b u q n _ _=>⟨u.slots,k b u (C b n) q⟩,fun b u q n _=>by rw[Jn (hx b n)];exact n,fun b u q _=>?_,
  fun b xs q=>by rw[Jn (y b _ q fun z=>z)];exact q,fun b u xs q=>by rw[Jn (y b _ q fun z=>z)];exact q,fun b ps q=>by rw[Jn (y b _ q fun z=>z)];exact q⟩
 by_cases hbe:b=e
 ·subst hbe;exact v
 ·exact⟨u,k b u hbe q⟩
end
def trk(h:aN)(H:Hp):List ak:=(eX h.objs.size).filter fun a=>(H a).isSome
def hidT(h:aN)(H:Hp):aN:=nS h (trk h H)
theorem zlr(h:aN)(H:Hp):(hidT h H).objs.size=h.objs.size:=PySem.W.hideAll_size _ _
theorem znL{h:aN}{H:Hp}{b:ak}{o:Obj}(e:h.get? b=some o)(n:H b=none):(hidT h H).get? b=some o :=
 lK _ e fun l=>by
  have q:(H b).isSome=true:=(cU.mp l).2;rw[n]at q;simp at q
theorem zph{h:aN}{H:Hp}{b:ak}{o:Obj}(e:(hidT h H).get? b=some o):h.get? b=some o/\H b=none:=by
 have l:h.get? b=some o:=lW (trk h H) e;refine⟨l,?_⟩;cases q:H b with
 | none=>rfl
 | some x =>
  have u:b∈trk h H:=cU.mpr ⟨gm.mpr (av l),by simp[q]⟩
  have z:(hidT h H).get? b=none:=PySem.W.hideAll_none (trk h H) u;rw[z]at e;cases e
structure Mod(K:qF)(mg:qM)(base:aN):Prop where
 kin:K.In base
 glob:base.Ns mainGlobals mg
 blt:∃mb,base.Ns builtinsNs mb/\∀x:Str,x ≠ "__name__" -> mb x=bootBuiltins x
 nolimit:base.NoLimit
structure Cx where
 prog:aG
 w:aP
 K:qF
 mg:Str->Option ah
 base:aN
 A:bo
 N:List Str
 s₀:au
 H₀:Hp
 env:Env
 outer:List Env
 stack:List Env
 ex:List ak
 fn:Str->Bool
 calm:Bool
 pn:List (ak×Obj)
 xe:ah->au->Prop
def frs(l:List Env):List ak:=l.filterMap (·.frame)
abbrev Cx.fs(X:Cx):List ak:=frs X.outer
def Vis(sc:eU)(x:Str):Prop:=sc.names.lookup x=some .local\/sc.names.lookup x=some .cell\/sc.names.lookup x=some .free
def Loc(sc:eU)(x:Str):Prop:=sc.names.lookup x=some .local\/sc.names.lookup x=some .cell
def Look(env:Env)(h:aN)(m:qM)(x:Str)(u:ah):Prop :=
 (env.kindOf x=some .local/\m x=some u)\/((env.kindOf x=some .cell\/env.kindOf x=some .free)/\∃c,env.cells.lookup x=some c/\h.IsCell c (some u))
structure Cx.Ok(X:Cx):Prop where
 mod:Mod X.K X.mg X.base
 kind:X.env.scope.kind=.function
 glob:X.env.globals=mainGlobals
 blt:X.env.builtins=builtinsNs
 above:X.s₀.heap.objs.size<=X.env.locals
 inj:∀x y c,X.env.cells.lookup x=some c->X.env.cells.lookup y=some c->x=y
 has:∀x,(X.env.kindOf x=some .cell\/X.env.kindOf x=some .free)->∃c,X.env.cells.lookup x=some c
 cab:∀x c,X.fn x=true->X.env.cells.lookup x=some c->X.s₀.heap.objs.size<=c
 hd:X.calm=true->X.A.handled=none
 frames:X.A.frames=some X.stack
 stk:X.stack=X.outer\/(X.stack=X.env::X.outer/\X.env.frame=some X.env.locals)
 exf:∀b∈X.ex,b≠X.env.locals/\∀x c,X.env.cells.lookup x=some c->c≠b
 bs:∀b o,X.base.get? b=some o->X.s₀.heap.get? b=some o/\X.H₀ b=none
 bsz:X.base.objs.size<=X.s₀.heap.objs.size
 noex:∀b o,X.base.get? b=some o->b∉X.ex
 exfs:∀b∈X.ex,b∉X.fs
 funs:X.s₀.heap.FunFrames X.base X.outer
 frf:∀b∈X.fs,X.H₀ b=none
structure Inv(X:Cx)(pins:qO)(σ:List (Option V))(H:Hp)(s:au):Prop where
 ok:X.Ok
 os:s.os=X.s₀.os
 bare:gV s.gens
 base:Un X.fs X.ex X.H₀ H X.s₀.heap s.heap
 loc:∃m,s.heap.Ns X.env.locals m/\∀(i:Nat) (x:Str) (v:V),X.N[i]?=some x->σ[i]?=some (some v)->Vis X.env.scope x->∃u,RelV v u/\Look X.env s.heap m x u
 cell:∀x c,X.env.cells.lookup x=some c->∃v,s.heap.IsCell c v
 free:H X.env.locals=none
 freeC:∀x c,X.env.cells.lookup x=some c->H c=none
 pin:∀p∈X.pn++pins,s.heap.get? p.1=some p.2/\H p.1=none/\p.1≠X.env.locals/\p.1∉X.fs/\∀v,p.2.data≠.cell v
 hok:HOk X.prog X.w H s.heap
 len:σ.length=X.N.length
section
variable{X:Cx}{pins:qO}{σ:List (Option V)}{H H':Hp}{s:au}{h':aN}
theorem Cx.Ok.nofr(ok:X.Ok){b:ak}{o:Obj}(e:X.base.get? b=some o):b∉X.fs:=fun l=>by
 have:=(ok.funs.mem l).1;rw[e]at this;cases this
theorem Inv.bs(I:Inv X pins σ H s):∀b o,X.base.get? b=some o->s.heap.get? b=some o/\H b=none:=fun b o e =>
 ⟨I.base.keep b o (I.ok.bs b o e).1 (I.ok.bs b o e).2 (I.ok.nofr e) (I.ok.noex b o e),I.base.free b o (I.ok.bs b o e).1 (I.ok.bs b o e).2 (I.ok.noex b o e)⟩
theorem Inv.bk(I:Inv X pins σ H s):∀b o,X.base.get? b=some o->s.heap.get? b=some o:=fun b o e=>(I.bs b o e).1
theorem Inv.mod(I:Inv X pins σ H s):Mod X.K X.mg X.base:=I.ok.mod
theorem Inv.kIn(I:Inv X pins σ H s):X.K.In s.heap:=I.ok.mod.kin.keeps I.bk
theorem Inv.lt(I:Inv X pins σ H s):X.env.locals<s.heap.objs.size:=let ⟨_,hn,_⟩:=I.loc;hn.lt
theorem Inv.sz(I:Inv X pins σ H s):X.s₀.heap.objs.size<=s.heap.objs.size:=bG I.ok.above (mw I.lt)
theorem Inv.nofs(I:Inv X pins σ H s){a:ak}(h:s.heap.objs.size<=a):a∉X.fs:=fun u=>by
 obtain⟨_,o,l,_⟩:=I.ok.funs.mem u;exact absurd (aB (av l) (bG I.sz h)) (fi _)
theorem Inv.cne(I:Inv X pins σ H s):∀x c,X.env.cells.lookup x=some c->c≠X.env.locals:=fun x c e z=>by
 obtain⟨v,o,y,hd⟩:=I.cell x c e;obtain⟨m,⟨C,J,G,l,u,_⟩,_⟩:=I.loc;rw[z,l]at y;cases y;rw[u]at hd;cases hd
theorem Inv.funs(I:Inv X pins σ H s):s.heap.FunFrames X.base X.outer:=by
 have all:∀(l:List Env),(∀b∈frs l,b∈X.fs)->X.s₀.heap.FunFrames X.base l->s.heap.FunFrames X.base l:=by
  intro l;induction l with
  | nil=>intro _ _;trivial
  | cons env r N =>
   intro x J;obtain⟨G,⟨L,o,hf,R,y,hd⟩,C⟩:=J;have u:L∈X.fs:=x L (by unfold frs;rw[cS,hf];exact cL)
   obtain⟨S,e⟩:=I.base.slot L o y (I.ok.frf L u) u fun z=>I.ok.exfs L z u
   exact⟨G,⟨L,_,hf,R,e,hd⟩,N (fun b v=>x b (by unfold frs;rw[cS,hf];exact cy _ v)) C⟩
 exact all X.outer (fun _ v=>v) I.ok.funs
theorem Inv.stack(I:Inv X pins σ H s):s.heap.FunFrames X.base X.stack:=by
 rcases I.ok.stk with e|⟨e,hf⟩
 ·rw[e];exact I.funs
 ·rw[e];obtain⟨m,l,_⟩:=I.loc;refine .cons (by rw[I.ok.kind];decide) hf l ?_ I.funs
  exact Heap.get?_none_of_le (bG I.ok.bsz I.ok.above)
theorem Inv.stkSub(I:Inv X pins σ H s):∀b∈frs X.stack,b∈X.env.locals::X.fs:=fun b l=>by
 rcases I.ok.stk with e|⟨e,hf⟩
 ·rw[e]at l;exact cy _ l
 ·rw[e]at l;unfold frs at l;rw[cS,hf]at l;exact l
theorem Inv.stkFree(I:Inv X pins σ H s):∀b∈frs X.stack,H b=none:=fun b l=>by
 rcases aw.mp (I.stkSub b l) with e|l
 ·rw[e];exact I.free
 ·obtain⟨_,o,u,_⟩:=I.ok.funs.mem l;exact I.base.free b o u (I.ok.frf b l) fun z=>I.ok.exfs b z l
theorem Inv.step{g':Array GenState}{t':Nat}{d':Drawn}{ch:List ak}(I:Inv X pins σ H s)
  (C:∀b∈ch,(b∈X.ex\/X.s₀.heap.objs.size<=b)/\b≠X.env.locals/\(∀x c,X.env.cells.lookup x=some c->c≠b)/\∀p∈X.pn++pins,p.1≠b)
  (keep:∀b o,b≠X.env.locals->b∉X.fs->b∉ch->s.heap.get? b=some o->H b=none->h'.get? b=some o)
  (slot:∀b o,b≠X.env.locals->b∈X.fs->b∉ch->s.heap.get? b=some o->H b=none->∃Z,h'.get? b=some { o with slots:=Z }) (free:∀b o,b∉ch->s.heap.get? b=some o->H b=none->H' b=none)
  (there:∀b o,b∉ch->s.heap.get? b=some o->∃S,h'.get? b=some S)
  (tups:∀b xs,H b=some (.tup xs)->H' b=some (.tup xs)) (frzs:∀b o u,H b=some (.frz o u)->H' b=some (.frz o u)) (tbls:∀b q,H b=some (.tbl q)->H' b=some (.tbl q))
  (ns:∀m,s.heap.Ns X.env.locals m->h'.Ns X.env.locals m) (hok:HOk X.prog X.w H' h') (hg:gV g') :
  Inv X pins σ H' { s with heap:=h',gens:=g',drawn:=d',toks:=t' }:=by
 have R:∀b o,X.s₀.heap.get? b=some o->b≠X.env.locals:=fun b o e=>aD (aB (av e) I.ok.above)
 have G:∀b o,X.s₀.heap.get? b=some o->b∉X.ex->b∉ch:=fun b o e hx J=>by
  rcases(C b J).1 with z|z
  ·exact hx z
  ·exact absurd (aB (av e) z) (fi _)
 have cellK:∀x c,X.env.cells.lookup x=some c->∀v,s.heap.IsCell c v->h'.IsCell c v:=fun x c e v ⟨o,N,hd⟩=>by
  have y:c∉ch:=fun z=>(C c z).2.2.1 x c e rfl
  by_cases hc:c∈X.fs
  ·obtain⟨Z,q⟩:=slot c o (I.cne x c e) hc y N (I.freeC x c e);exact⟨_,q,hd⟩
  ·exact⟨o,keep c o (I.cne x c e) hc y N (I.freeC x c e),hd⟩
 refine⟨I.ok,I.os,hg,⟨fun b o e n J hx=>?_,fun b o e n J hx=>?_,fun b o e n hx=>?_,fun b o e hx=>?_,fun b xs e=>tups b xs (I.base.tups b xs e),fun b o xs e=>frzs b o xs (I.base.frzs b o xs e),fun b ps e=>?_⟩,?_,fun x c e=>?_,?_,fun x c e=>?_,fun p hp=>?_,hok,I.len⟩
 ·exact keep b o (R b o e) J (G b o e hx) (I.base.keep b o e n J hx) (I.base.free b o e n hx)
 ·obtain⟨Z,L⟩:=I.base.slot b o e n J hx;obtain⟨U,Y⟩:=slot b _ (R b o e) J (G b o e hx) L (I.base.free b o e n hx);exact⟨U,Y⟩
 ·obtain⟨S,L⟩:=I.base.there b o e hx;exact free b S (G b o e hx) L (I.base.free b o e n hx)
 ·obtain⟨S,L⟩:=I.base.there b o e hx;exact there b S (G b o e hx) L
 ·exact tbls b ps (I.base.tbls b ps e)
 ·obtain⟨m,hn,hl⟩:=I.loc;refine⟨m,ns m hn,fun i x v L Y e3=>?_⟩
  obtain⟨u,r,l⟩:=hl i x v L Y e3;refine⟨u,r,?_⟩;rcases l with l|⟨k,c,e,z⟩
  ·exact .inl l
  ·exact .inr ⟨k,c,e,cellK x c e _ z⟩
 ·obtain⟨v,z⟩:=I.cell x c e;exact⟨v,cellK x c e v z⟩
 ·obtain⟨m,⟨o,_,_,N,_⟩,_⟩:=I.loc;exact free _ o (fun z=>(C _ z).2.1 rfl) N I.free
 ·obtain⟨v,o,N,hd⟩:=I.cell x c e;exact free c o (fun z=>(C c z).2.2.1 x c e rfl) N (I.freeC x c e)
 ·obtain⟨e,n,ne,nf,d⟩:=I.pin p hp;have y:p.1∉ch:=fun z=>(C p.1 z).2.2.2 p hp rfl
  exact⟨keep p.1 p.2 ne nf y e n,free p.1 p.2 y e n,ne,nf,d⟩
theorem Inv.un{t':Nat}(I:Inv X pins σ H s)(u:Un X.fs [] H H' s.heap h')(hok:HOk X.prog X.w H' h'):Inv X pins σ H' { s with heap:=h',toks:=t' }:=by
 obtain⟨m,⟨o,Y,S,C,r⟩,_⟩:=id I.loc;obtain⟨U,G⟩:=u.any C I.free (by simp)
 exact I.step (g':=s.gens) (d':=s.drawn) (ch:=[]) (fun _ z=>nomatch z) (fun b o _ v _ e n=>u.keep b o e n v (by simp)) (fun b o _ v _ e n=>u.slot b o e n v (by simp)) (fun b o _ e n=>u.free b o e n (by simp)) (fun b o _ e=>u.there b o e (by simp)) u.tups u.frzs u.tbls (fun R J=>by
  obtain⟨N,x,y,l,L⟩:=J;rw[C]at l;cases l;exact⟨_,x,y,G,L⟩) hok I.bare
theorem Inv.call{g':Array GenState}{t':Nat}{d':Drawn}{ch:List ak}(I:Inv X pins σ H s)(u:Un (frs X.stack) ch H H' s.heap h')(hok:HOk X.prog X.w H' h')(R:gV g')
  (y:∀b∈ch,(b∈X.ex\/X.s₀.heap.objs.size<=b)/\b≠X.env.locals/\(∀x c,X.env.cells.lookup x=some c->c≠b)/\∀p∈X.pn++pins,p.1≠b) :
  Inv X pins σ H' { s with heap:=h',gens:=g',drawn:=d',toks:=t' }:=by
 obtain⟨m,⟨o,es,ep,L,r⟩,_⟩:=id I.loc;obtain⟨sl,C⟩:=u.any L I.free fun z=>(y _ z).2.1 rfl
 exact I.step (ch:=ch) y (fun b o C S hc e n=>u.keep b o e n (fun z=>(aw.mp (I.stkSub b z)).elim C S) hc) (fun b o _ _ hc e n=>u.any e n hc) (fun b o hc e n=>u.free b o e n hc) (fun b o hc e=>u.there b o e hc) u.tups u.frzs u.tbls (fun Z N=>by
  obtain⟨Y,G,J,v,U⟩:=N;rw[L]at v;cases v;exact⟨_,G,J,C,U⟩) hok R
theorem Inv.turned{t':Nat}{it:ak}(I:Inv X pins σ H s)(k:∀b o,b≠it->s.heap.get? b=some o->h'.get? b=some o)(Z:H it=none)(C:it≠X.env.locals)
  (L:it∈X.ex\/X.s₀.heap.objs.size<=it) (N:∀x c,X.env.cells.lookup x=some c->c≠it) (U:∀p∈X.pn++pins,p.1≠it):Inv X pins σ H { s with heap:=h',toks:=t' }:=by
 have l:∀b u,H b=some u->b≠it:=fun b u e z=>by rw[z,Z]at e;cases e
 refine I.step (g':=s.gens) (d':=s.drawn) (ch:=[it]) (fun b S=>?_) (fun b o _ _ hc e _=>k b o (fun z=>hc (by simp[z])) e) (fun b o _ _ hc e _=>⟨o.slots,k b o (fun z=>hc (by simp[z])) e⟩) (fun _ _ _ _ n=>n)
  (fun b o hc e=>⟨o,k b o (fun z=>hc (by simp[z])) e⟩) (fun _ _ e=>e) (fun _ _ _ e=>e) (fun _ _ e=>e) (fun m R=>?_) (fun b u e=>?_) I.bare
 ·have e:b=it:=by simpa using S
  subst e;exact⟨L,C,N,U⟩
 ·obtain⟨o,Y,J,G,r⟩:=R;exact⟨o,Y,J,k _ o (gn C) G,r⟩
 ·refine(I.hok b u e).stay (fun c v hc q=>k c v ?_ q) (fun _ q=>q) (fun _ _ q=>q) fun _ _ _ q=>q
  rcases hc with z|z
  ·rw[z];exact l b u e
  ·exact l c _ z
theorem Inv.tok(I:Inv X pins σ H s)(t:Nat):Inv X pins σ H { s with toks:=t }:=I.un (h':=s.heap) (t':=t) Un.refl I.hok
theorem Inv.kept{t':Nat}(I:Inv X pins σ H s)(k:∀b u,s.heap.get? b=some u->h'.get? b=some u):Inv X pins σ H { s with heap:=h',toks:=t' }:=I.un (Un.kept k) (I.hok.kept k)
theorem Inv.laid{a:ak}{o:HO}{t':Nat}(I:Inv X pins σ H s)(k:∀b u,s.heap.get? b=some u->h'.get? b=some u)(l:s.heap.objs.size<=a)(new:JL X.prog X.w (upd H a o) h' a o) :
  Inv X pins σ (upd H a o) { s with heap:=h',toks:=t' }:=I.un (Un.laid k l (I.hok.fresh l)) (I.hok.laid k l new)
theorem Inv.write{x e:ak}{o:HO}{t':Nat}(I:Inv X pins σ H s)(v:Mut (H x))(y:e=x\/H e=some (.own x))(k:∀b u,b≠e->s.heap.get? b=some u->h'.get? b=some u)(l:∃u,h'.get? e=some u)
  (new:JL X.prog X.w (upd H x o) h' x o):Inv X pins σ (upd H x o) { s with heap:=h',toks:=t' }:=I.un (Un.write v y k l) (I.hok.write v y k l new)
theorem Inv.weak{σ':List (Option V)}(I:Inv X pins σ H s)(u:σ'.length=σ.length)(w:∀(i:Nat) v,σ'[i]?=some (some v)->σ[i]?=some (some v)):Inv X pins σ' H s :=
 ⟨I.ok,I.os,I.bare,I.base,let ⟨m,hn,hl'⟩:=I.loc;⟨m,hn,fun i x v l C y=>hl' i x v l (w i v C) y⟩,I.cell,I.free,I.freeC,I.pin,I.hok,u.trans I.len⟩
theorem Inv.pins_of{u:qO}(I:Inv X pins σ H s)(h:∀p∈u,s.heap.get? p.1=some p.2/\H p.1=none/\p.1≠X.env.locals/\p.1∉X.fs/\∀v,p.2.data≠.cell v):Inv X u σ H s :=
 ⟨I.ok,I.os,I.bare,I.base,I.loc,I.cell,I.free,I.freeC,fun p x=>(aE.mp x).elim (fun z=>I.pin p (g7 _ z)) (h p),I.hok,I.len⟩
theorem zfA{N:List Str}(u:N.Nodup){i j:Nat}{x:Str}(a:N[i]?=some x)(b:N[j]?=some x):i=j:=by
 obtain⟨y,l⟩:=aA.mp a;obtain⟨C,v⟩:=aA.mp b;exact(List.getElem_inj u).mp (l.trans v.symm)
theorem zf4{M:rM}{A:bo}{E:qV}{i:Nat}{x:Str}{v:V}{u:ah}{Q:Unit->au->Prop}(I:Inv X pins σ H s)(hN:X.N.Nodup)(hi:X.N[i]?=some x)(hx:Loc X.env.scope x)(r:RelV v u)
  (h:∀s',Inv X pins (σ.set i (some v)) H s'->(∃a,dJ a s.heap s'.heap/\(a=X.env.locals\/X.env.cells.lookup x=some a))->Q () s') (hf:X.fn x=true\/X.env.scope.names.lookup x=some .local:=by walk_at "F"):wpAny M A (storeName X.env x u) Q E s:=by
 obtain⟨m,hn,hl⟩:=id I.loc;have U:(X.env.scope.kind == .class||(X.env.scope.kind == .module&&X.env.locals != X.env.globals))=false:=by rw[I.ok.kind];rfl
 have L:i<σ.length:=by rw[I.len];exact(aA.mp hi).1
 have cne:=I.cne;have tracked:∀{a:ak} {h':aN},(∃o,s.heap.get? a=some o/\H a=none)->dJ a s.heap h'->HOk X.prog X.w H h':=fun {a h'} ha C b ob e=>by
  obtain⟨_,_,HB⟩:=ha;refine(I.hok b ob e).stay (fun c w' hc q=>(C.2 c ?_).trans q) (fun _ q=>q) (fun _ _ q=>q) fun _ _ _ q=>q
  rintro rfl;rcases hc with rfl|hc
  ·rw[HB]at e;cases e
  ·rw[HB]at hc;cases hc
 rcases hx with hk|hk
 ·refine wpAny_storeName_local hk hn (fun h' hn' C=>?_) U
  obtain⟨oL,_,_,hoL,_⟩:=id hn;refine h _ ⟨I.ok,I.os,I.bare,⟨fun b o e n R hx=>?_,fun b o e n R hx=>?_,I.base.free,fun b o e hx=>?_,I.base.tups,I.base.frzs,I.base.tbls⟩,⟨_,hn',fun j y v' G J e3=>?_⟩,fun y c e=>?_,I.free,I.freeC,fun p hp=>?_,tracked ⟨oL,hoL,I.free⟩ C,by simpa using I.len⟩ ⟨_,C,.inl rfl⟩
  ·exact(C.2 b (aD (aB (av e) I.ok.above))).trans (I.base.keep b o e n R hx)
  ·obtain⟨sl,G⟩:=I.base.slot b o e n R hx;exact⟨sl,(C.2 b (aD (aB (av e) I.ok.above))).trans G⟩
  ·obtain⟨o',G⟩:=I.base.there b o e hx;exact⟨o',(C.2 b (aD (aB (av e) I.ok.above))).trans G⟩
  ·by_cases hj:j=i
   ·subst hj;rw[hi]at G;cases G;rw[cg L]at J;cases J;exact⟨u,r,.inl ⟨hk,by simp⟩⟩
   ·rw[aM (gn hj)]at J;obtain⟨u',r',q⟩:=hl j y v' G J e3;refine⟨u',r',?_⟩;rcases q with⟨k,e⟩|⟨k,c,e,z⟩
    ·refine .inl ⟨k,?_⟩;have:y≠x:=fun e=>hj (zfA hN G (e▸hi))
     simp[this,e]
    ·exact .inr ⟨k,c,e,z.sameBut C (cne y c e)⟩
  ·obtain⟨w',z⟩:=I.cell y c e;exact⟨w',z.sameBut C (cne y c e)⟩
  ·obtain⟨e,n,ne,nf,d⟩:=I.pin p hp;exact⟨(C.2 p.1 ne).trans e,n,ne,nf,d⟩
 ·have N:X.fn x=true:=by
   rcases hf with z|z
   ·exact z
   ·rw[z]at hk;cases hk
  obtain⟨c,hc⟩:=I.ok.has x (.inl hk);obtain⟨w',z⟩:=I.cell x c hc;refine wpAny_storeName_cell I.ok.kind hk hc z (fun h' Y C=>?_)
  obtain⟨oc,S,Z⟩:=id z;refine h { s with heap:=h' } ⟨I.ok,I.os,I.bare,⟨fun b o e n R hx=>?_,fun b o e n R hx=>?_,I.base.free,fun b o e hx=>?_,I.base.tups,I.base.frzs,I.base.tbls⟩,⟨m,hn.sameBut C (gn (cne x c hc)),fun j y v' G J e3=>?_⟩,fun y c' e=>?_,I.free,I.freeC,fun p hp=>?_,tracked ⟨oc,S,I.freeC x c hc⟩ C,by simpa using I.len⟩ ⟨c,C,.inr hc⟩
  ·exact(C.2 b (aD (aB (av e) (I.ok.cab x c N hc)))).trans (I.base.keep b o e n R hx)
  ·obtain⟨sl,G⟩:=I.base.slot b o e n R hx;exact⟨sl,(C.2 b (aD (aB (av e) (I.ok.cab x c N hc)))).trans G⟩
  ·obtain⟨o',G⟩:=I.base.there b o e hx;exact⟨o',(C.2 b (aD (aB (av e) (I.ok.cab x c N hc)))).trans G⟩
  ·by_cases hj:j=i
   ·subst hj;rw[hi]at G;cases G;rw[cg L]at J;cases J;exact⟨u,r,.inr ⟨.inl hk,c,hc,Y⟩⟩
   ·rw[aM (gn hj)]at J;obtain⟨u',r',q⟩:=hl j y v' G J e3;refine⟨u',r',?_⟩;rcases q with q|⟨k,c',e,z'⟩
    ·exact .inl q
    ·refine .inr ⟨k,c',e,z'.sameBut C ?_⟩;rintro rfl;exact hj (zfA hN G (I.ok.inj _ _ _ e hc▸hi))
  ·by_cases hcc:c'=c
   ·subst hcc;exact⟨_,Y⟩
   ·obtain⟨w2,z2⟩:=I.cell y c' e;exact⟨w2,z2.sameBut C hcc⟩
  ·obtain⟨e,n,ne,nf,d⟩:=I.pin p hp;refine⟨(C.2 p.1 ?_).trans e,n,ne,nf,d⟩;intro q;rw[q,S]at e;have q':oc=p.2:=aJ e;exact d w' (by rw[<- q'];exact Z)
theorem Yh{M:rM}{A:bo}{E:qV}{i:Nat}{x:Str}{v:V}{u:ah}{Q:Unit->au->Prop}(I:Inv X pins σ H s)(y:X.N.Nodup)(hi:X.N[i]?=some x)(hx:Loc X.env.scope x)(r:RelV v u)
  (h:∀s',Inv X pins (σ.set i (some v)) H s'->Q () s') (hf:X.fn x=true\/X.env.scope.names.lookup x=some .local:=by walk_at "F"):wpAny M A (storeName X.env x u) Q E s :=
 zf4 I y hi hx r (fun s' C _=>h s' C) hf
theorem Inv.call'{s':au}{ch:List ak}(I:Inv X pins σ H s)(v:s'.os=s.os)(u:Un (frs X.stack) ch H H' s.heap s'.heap)(hok:HOk X.prog X.w H' s'.heap)(C:gV s'.gens)
  (l:∀b∈ch,(b∈X.ex\/X.s₀.heap.objs.size<=b)/\b≠X.env.locals/\(∀x c,X.env.cells.lookup x=some c->c≠b)/\∀p∈X.pn++pins,p.1≠b):Inv X pins σ H' s':=by
 obtain⟨h',g',d',t',y⟩:=s';have e:y=s.os:=v;subst e;exact I.call (g':=g') (t':=t') (d':=d') u hok C l
end
abbrev XK:=ah->Option ak->Hp->Prop
abbrev St:=List (Option V)
abbrev VK:=V->Hp->Prop
abbrev TE:=St->Hp->VK->Prop
abbrev TT:=St->Hp->(Bool->Hp->Prop)->Prop
abbrev TA:=St->Hp->(List V->Hp->Prop)->Prop
structure Ends where
 nx:St->Hp->Prop
 rt:VK
 bk:St->Hp->Prop:=fun _ _=>False
 ct:St->Hp->Prop:=fun _ _=>False
abbrev TS:=Ends->St->Hp->Prop
def EP(X:Cx)(pins:qO)(σ:St)(Q:VK)(u:ah)(s':au):Prop:=∃v l,Inv X pins σ l s'/\RelV v u/\Q v l
def TP(X:Cx)(pins:qO)(σ:St)(Q:Bool->Hp->Prop)(b:Bool)(s':au):Prop:=∃l,Inv X pins σ l s'/\Q b l
def AP(X:Cx)(pins:qO)(σ:St)(Q:List V->Hp->Prop)(v:List ah)(s':au):Prop:=∃l u,Inv X pins σ u s'/\Vals l v/\Q l u
def SP(X:Cx)(pins:qO)(D:Ends)(f:Flow)(s':au):Prop :=
 match f with
 | .next=>∃σ' l,Inv X pins σ' l s'/\D.nx σ' l
 | .brk=>∃σ' l,Inv X pins σ' l s'/\D.bk σ' l
 | .cont=>∃σ' l,Inv X pins σ' l s'/\D.ct σ' l
 | .ret u=>∃v σ' l,Inv X pins σ' l s'/\RelV v u/\D.rt v l
def PE(X:Cx)(e:aO)(t:TE):Prop :=
 ∀(pins:qO) (s:au) (σ:St) (H:Hp) (Q:VK),Inv X pins σ H s->t σ H Q->wpAny (model X.prog X.w) X.A (eval e X.env) (EP X pins σ Q) X.xe s
def PT(X:Cx)(e:aO)(t:TT):Prop :=
 ∀(pins:qO) (s:au) (σ:St) (H:Hp) (Q:Bool->Hp->Prop),Inv X pins σ H s->t σ H Q->wpAny (model X.prog X.w) X.A (isTrue e X.env (eval e X.env)) (TP X pins σ Q) X.xe s
def PW(X:Cx)(e:aO)(t:TT):Prop :=
 ∀(whole:Sem ah) (pins:qO) (s:au) (σ:St) (H:Hp) (Q:Bool->Hp->Prop),Inv X pins σ H s->t σ H Q->wpAny (model X.prog X.w) X.A (isTrue e X.env whole) (TP X pins σ Q) X.xe s
theorem PW.pt{X:Cx}{e:aO}{t:TT}(h:PW X e t):PT X e t:=h _
def PA(X:Cx)(l:List aO)(t:TA):Prop :=
 ∀(pos:Pos) (pins:qO) (s:au) (σ:St) (H:Hp) (Q:List V->Hp->Prop),Inv X pins σ H s->t σ H Q->wpAny (model X.prog X.w) X.A (spliced (backTo pos (starEach l X.env))) (AP X pins σ Q) X.xe s
def PS(X:Cx)(st:cT)(t:TS):Prop :=
 ∀(pins:qO) (s:au) (σ:St) (H:Hp) (D:Ends),Inv X pins σ H s->t D σ H->wpAny (model X.prog X.w) X.A (exec st X.env) (SP X pins D) X.xe s
def PSs(X:Cx)(st:List cT)(t:TS):Prop :=
 ∀(pins:qO) (s:au) (σ:St) (H:Hp) (D:Ends),Inv X pins σ H s->t D σ H->wpAny (model X.prog X.w) X.A (execs st X.env) (SP X pins D) X.xe s
theorem thn{α:Type}{t:Sem α}{Q l:α->au->Prop}{M:rM}{A:bo}{E:qV}{s:au}(h:wpAny M A t Q E s)(u:∀a s,Q a s->l a s):wpAny M A t l E s:=cE h u fun _ _ x=>x
section
variable{X:Cx}
def tVar(i:Nat):TE:=fun σ H Q=>∃v,σ[i]?=some (some v)/\Q v H
def tC(v:V):TE:=fun _ H Q=>Q v H
theorem QV{i:Nat}{x:Str}{pos:Pos}(J:X.N[i]?=some x)(L:Vis X.env.scope x)(hd:(x == ("__debug__":Str))=false:=by decide) (G:(x == ("__classdict__":Str))=false:=by decide):PE X (.Name x pos) (tVar i):=by
 intro pins s σ H Q I h;obtain⟨v,e,h⟩:=h;obtain⟨m,U,S⟩:=I.loc;obtain⟨u,r,l⟩:=S i x v J e L;have fin:EP X pins σ Q u s:=⟨v,H,I,r,h⟩;rcases l with⟨C,R⟩|⟨C,c,hc,y⟩
 ·exact om (wpAny_loadName_local I.ok.kind C U R fin) hd
 ·rcases C with C|C
  ·exact om (wpAny_loadName_cell I.ok.kind C hc y fin) hd
  ·exact om (wpAny_loadName_free I.ok.kind C hc y fin G) hd
theorem JD{i j pos}:PE X (.Constant (.int i) j pos) (tC (.int i)):=fun _ _ _ H _ I h=>wpAny_Constant_int ⟨.int i,H,I.tok _,⟨_,rfl⟩,h⟩
theorem zo2{b j pos}:PE X (.Constant (.bool b) j pos) (tC (.bl b)):=fun _ _ _ H _ I h=>Constant_bool ⟨.bl b,H,I,rfl,h⟩
theorem zru{j pos}:PE X (.Constant .none j pos) (tC .non):=fun _ _ _ H _ I h=>Constant_none ⟨.non,H,I,rfl,h⟩
theorem zrq{x j pos}:PE X (.Constant (.str x) j pos) (tC (.str x)):=fun _ _ _ H _ I h=>Calls.Constant_str ⟨.str x,H,I.tok _,⟨_,rfl⟩,h⟩
def Gl(X:Cx)(x:Str):Prop:=X.env.kindOf x=some .globalImplicit
theorem UM{E:qV}{pins:qO}{s:au}{σ:St}{H:Hp}{x:Str}{u:ah}{pos:Pos}{Q:qV}(I:Inv X pins σ H s)(v:Gl X x)(l:X.mg x=some u)(h:Q u s)
  (hd:(x == ("__debug__":Str))=false:=by decide):wpAny (model X.prog X.w) X.A (eval (.Name x pos) X.env) Q E s :=
 fA I.ok.kind v (kg (by rw[I.ok.glob];exact I.mod.glob.keeps I.bk) l h) hd
theorem YN{E:qV}{pins:qO}{s:au}{σ:St}{H:Hp}{x:Str}{u:ah}{pos:Pos}{Q:qV}(I:Inv X pins σ H s)(G:Gl X x)(C:X.mg x=none)(y:bootBuiltins x=some u)(h:Q u s)
  (J:x ≠ "__name__":=by decide) (hd:(x == ("__debug__":Str))=false:=by decide):wpAny (model X.prog X.w) X.A (eval (.Name x pos) X.env) Q E s:=by
 obtain⟨L,l,v⟩:=I.mod.blt;exact fA I.ok.kind G (Calls.loadGlobal_builtin (by rw[I.ok.glob];exact I.mod.glob.keeps I.bk) C (by rw[I.ok.blt];exact l.keeps I.bk) ((v x J).trans y) h) hd
theorem zo1{x:Str}{v:V}{u:ah}{pos:Pos}(G:Gl X x)(y:X.mg x=none)(l:bootBuiltins x=some u)(r:RelV v u)(C:x ≠ "__name__":=by decide) (hd:(x == ("__debug__":Str))=false:=by decide):PE X (.Name x pos) (tC v) :=
 fun _ _ _ H _ I h=>YN I G y l ⟨v,H,I,r,h⟩ C hd
variable{a b:aO}{ta tb:TE}{pos:Pos}
def PC(X:Cx)(op:nI)(a b:aO)(t:TE):Prop :=
 ∀(pins:qO) (s:au) (σ:St) (H:Hp) (Q:VK),Inv X pins σ H s->t σ H Q ->
  wpAny (model X.prog X.w) X.A (eval a X.env) (fun v x=>wpAny (model X.prog X.w) X.A (eval b X.env) (fun u l=>wpAny (model X.prog X.w) X.A (compareOp op v u) (EP X pins σ Q) X.xe l) X.xe x) X.xe s
def tB(t:TE):TT:=fun σ H Q=>t σ H fun x u=>∃c,x=.bl c/\Q c u
theorem zrf{op:nI}{t:TE}(h:PC X op a b t)(l:behindInMarks op b=false:=by first|exact nobehind _ (by decide) (by decide)|rfl):PT X (.Compare a [op] [b] pos) (tB t):=by
 intro pins s σ H Q I hw;refine kW (thn (h pins s σ H _ I hw) fun v s1 l=>thn l fun u s2 J=>thn J fun c s3 ⟨x,G,y,L,N⟩=>?_) l
 obtain⟨d,rfl,q⟩:=N;cases L;exact bq ⟨G,y,q⟩
variable{tA tB':TT}{rest:List aO}
def tAnd(t u:TT):TT:=fun σ H Q=>t σ H fun c l=>if c=true then u σ l Q else Q false l
def tOr(t u:TT):TT:=fun σ H Q=>t σ H fun c l=>if c=true then Q true l else u σ l Q
def tNot(t:TT):TT:=fun σ H Q=>t σ H fun c l=>Q (!c) l
theorem zoM(u:PT X a tA):PW X (.BoolOp .And [a] pos) tA:=by
 intro v pins s σ H Q I h;refine isTrue_and (thn (u pins s σ H Q I h) fun c s1 e=>?_)
 cases c with
 | true=>exact isTrue_and_nil e
 | false=>exact e
theorem zra(u:PT X a tA):PW X (.BoolOp .Or [a] pos) tA:=by
 intro v pins s σ H Q I h;refine isTrue_or (thn (u pins s σ H Q I h) fun c s1 e=>?_)
 cases c with
 | false=>exact isTrue_or_nil e
 | true=>exact e
theorem zrb(G:PT X a tA)(y:PW X (.BoolOp .And (b::rest) pos) tB'):PW X (.BoolOp .And (a::b::rest) pos) (tAnd tA tB'):=by
 intro C pins s σ H Q I h;refine isTrue_and (thn (G pins s σ H _ I h) fun c s1 ⟨v,u,x⟩=>?_)
 cases c with
 | true=>exact y C pins s1 σ v Q u x
 | false=>exact⟨v,u,x⟩
theorem zu0(G:PT X a tA)(y:PW X (.BoolOp .Or (b::rest) pos) tB'):PW X (.BoolOp .Or (a::b::rest) pos) (tOr tA tB'):=by
 intro C pins s σ H Q I h;refine isTrue_or (thn (G pins s σ H _ I h) fun c s1 ⟨v,u,x⟩=>?_)
 cases c with
 | true=>exact⟨v,u,x⟩
 | false=>exact y C pins s1 σ v Q u x
theorem zre(u:PT X a tA):PT X (.UnaryOp .Not a pos) (tNot tA):=by
 intro pins s σ H Q I h;exact isTrue_not (u pins s σ H (fun c l=>Q (!c) l) I h)
def zur(ta tb:TE):TE:=fun σ H Q=>ta σ H fun x u=>∃c,x=.bl c/\if c=true then tb σ u Q else Q (.bl false) u
def tOrV(ta tb:TE):TE:=fun σ H Q=>ta σ H fun x u=>∃c,x=.bl c/\if c=true then Q (.bl true) u else tb σ u Q
def zul(ta:TE):TE:=fun σ H Q=>ta σ H fun x u=>∃c,x=.bl c/\Q (.bl (!c)) u
theorem zrs{op}{t:TE}(h:PE X a t):PE X (.BoolOp op [a] pos) t:=fun pins s σ H Q I hw=>BoolOp_one (h pins s σ H Q I hw)
theorem zry(L:PE X a ta)(J:PE X (.BoolOp .And (b::rest) pos) tb):PE X (.BoolOp .And (a::b::rest) pos) (zur ta tb):=by
 intro pins s σ H Q I h;refine BoolOp_and (thn (L pins s σ H _ I h) fun v s1 ⟨x,C,y,G,u⟩=>?_)
 obtain⟨c,rfl,u⟩:=u;cases G;refine bq ?_;cases c with
 | true=>exact J pins s1 σ C Q y u
 | false=>exact⟨.bl false,C,y,rfl,u⟩
theorem zu2(L:PE X a ta)(J:PE X (.BoolOp .Or (b::rest) pos) tb):PE X (.BoolOp .Or (a::b::rest) pos) (tOrV ta tb):=by
 intro pins s σ H Q I h;refine BoolOp_or (thn (L pins s σ H _ I h) fun v s1 ⟨x,C,y,G,u⟩=>?_)
 obtain⟨c,rfl,u⟩:=u;cases G;refine bq ?_;cases c with
 | false=>exact J pins s1 σ C Q y u
 | true=>exact⟨.bl true,C,y,rfl,u⟩
theorem zrt(L:PE X a ta):PE X (.UnaryOp .Not a pos) (zul ta):=by
 intro pins s σ H Q I h;refine UnaryOp_ (thn (L pins s σ H _ I h) fun v s1 ⟨x,J,G,C,u⟩=>?_)
 obtain⟨c,rfl,u⟩:=u;cases C;exact not_of (bq ⟨.bl (!c),J,G,rfl,u⟩)
def tIf(t:TT)(ta tb:TE):TE:=fun σ H Q=>t σ H fun c l=>if c=true then ta σ l Q else tb σ l Q
theorem zm0{c:aO}(hc:PT X c tA)(C:PE X a ta)(y:PE X b tb):PE X (.IfExp c a b pos) (tIf tA ta tb):=by
 intro pins s σ H Q I h;refine wpAny_IfExp (thn (hc pins s σ H _ I h) fun d s1 ⟨u,l,v⟩=>?_)
 cases d with
 | true=>exact C pins s1 σ u Q l v
 | false=>exact y pins s1 σ u Q l v
end
def SqL(K:qF)(H:Hp)(a:ak)(xs:List V):Prop :=
 Rd H a (.lst xs) \/
  ∃(o:Obj) (u:Array ah) (n:Nat),K.lookup a=some o/\o.cls=.type "list" /\ o.dict=none/\o.data=.seq u n/\u.size<=sizeLine/\Vals xs u.toList
def SqT(K:qF)(H:Hp)(a:ak)(xs:List V):Prop :=
 Rd H a (.tup xs) \/
  ∃(o:Obj) (l:Array ah) (n:Nat),K.lookup a=some o/\o.cls=.type "tuple" /\ o.data=.seq l n/\l.size<=sizeLine/\Vals xs l.toList
def absV:ah->Option V
 | .none=>some .non
 | .bool b=>some (.bl b)
 | .int i _=>some (.int i)
 | .str x _=>some (.str x)
 | .bytes b _=>some (.byt b)
 | .float b _=>some (.flt b)
 | .ref a=>some (.ref a)
 | .type n=>some (.ty n)
 | _=>none
theorem RelV.abs{x:V}{u:ah}(r:RelV x u):absV u=some x:=by
 cases x with
 | non=>cases r;rfl
 | bl _=>cases r;rfl
 | int _=>obtain⟨t,rfl⟩:=r;rfl
 | str _=>obtain⟨t,rfl⟩:=r;rfl
 | byt _=>obtain⟨t,rfl⟩:=r;rfl
 | flt _=>obtain⟨t,rfl⟩:=r;rfl
 | ref _=>cases r;rfl
 | ty _=>cases r;rfl
theorem RelV.inj{x y:V}{u:ah}(r:RelV x u)(q:RelV y u):x=y:=aJ (r.abs.symm.trans q.abs)
theorem Vals.inj{xs ys:List V}{l:List ah}(h:Vals xs l)(k:Vals ys l):xs=ys:=by
 induction h generalizing ys with
 | nil=>cases k;rfl
 | cons r t v =>
  cases k with
  | cons u t'=>rw[r.inj u,v t']
section
variable{X:Cx}{pins:qO}{σ:St}{H:Hp}{s:au}{a:ak}{xs ys:List V}
theorem SqL.of{K:qF}(h:H a=some (.lst xs)):SqL K H a xs:=.inl (.inl h)
theorem Inv.list(I:Inv X pins σ H s)(h:SqL X.K H a xs):∃l:List ah,Vals xs l/\PlainL s.heap a l.toArray/\xs.length<=sizeLine:=by
 rcases h with h|⟨o,l,n,v,hc,hd,u,x,r⟩
 ·obtain⟨z,l,n,r,e⟩:=h.ok I.hok;exact⟨l,r,⟨_,n,e,rfl,rfl,rfl⟩,z⟩
 ·refine⟨l.toList,r,⟨o,n,I.kIn a o v,hc,hd,by simpa using u⟩,?_⟩
  have e:=r.length;simp only[dI]at e;lia
theorem Inv.tuple(I:Inv X pins σ H s)(h:SqT X.K H a xs):∃l:List ah,Vals xs l/\mn s.heap a l.toArray/\xs.length<=sizeLine:=by
 rcases h with h|⟨o,l,n,v,hc,u,x,r⟩
 ·obtain⟨z,l,r,p⟩:=h.ok I.hok;exact⟨l,r,p.tup,z⟩
 ·refine⟨l.toList,r,⟨o,I.kIn a o v,hc,n,by simpa using u⟩,?_⟩
  have e:=r.length;simp only[dI]at e;lia
theorem Inv.list_inj(I:Inv X pins σ H s)(h:SqL X.K H a xs)(h':SqL X.K H a ys):xs=ys:=by
 obtain⟨l,r,⟨o,n,e,_,_,d⟩,_⟩:=I.list h;obtain⟨its',v,⟨x,y,u,_,_,d'⟩,_⟩:=I.list h';rw[e]at u;cases u;rw[d]at d'
 injection d' with d1 _
 have:l=its':=by simpa using congrArg kB d1
 subst this;exact r.inj v
theorem Inv.tuple_inj(I:Inv X pins σ H s)(h:SqT X.K H a xs)(h':SqT X.K H a ys):xs=ys:=by
 obtain⟨l,r,⟨o,e,_,n,d⟩,_⟩:=I.tuple h;obtain⟨its',v,⟨x,u,_,y,d'⟩,_⟩:=I.tuple h';rw[e]at u;cases u;rw[d]at d'
 injection d' with d1 _
 have:l=its':=by simpa using congrArg kB d1
 subst this;exact r.inj v
end
abbrev Cx.wish(X:Cx)(E:qV):Cx:={ X with xe:=E }
abbrev Cx.nox(X:Cx):Cx:=X.wish fun _ _=>False
theorem Cx.Ok.wish{X:Cx}(ok:X.Ok)(E:qV):(X.wish E).Ok :=
 ⟨ok.mod,ok.kind,ok.glob,ok.blt,ok.above,ok.inj,ok.has,ok.cab,ok.hd,ok.frames,ok.stk,ok.exf,ok.bs,ok.bsz,ok.noex,ok.exfs,ok.funs,ok.frf⟩
theorem Cx.Ok.unwish{X:Cx}{E:qV}(ok:(X.wish E).Ok):X.Ok :=
 ⟨ok.mod,ok.kind,ok.glob,ok.blt,ok.above,ok.inj,ok.has,ok.cab,ok.hd,ok.frames,ok.stk,ok.exf,ok.bs,ok.bsz,ok.noex,ok.exfs,ok.funs,ok.frf⟩
section
variable{X:Cx}{pins:qO}{σ:St}{H:Hp}{s:au}{E:qV}
theorem Inv.wish(I:Inv X pins σ H s)(E:qV):Inv (X.wish E) pins σ H s:=⟨I.ok.wish E,I.os,I.bare,I.base,I.loc,I.cell,I.free,I.freeC,I.pin,I.hok,I.len⟩
theorem Inv.unwish(I:Inv (X.wish E) pins σ H s):Inv X pins σ H s:=⟨I.ok.unwish,I.os,I.bare,I.base,I.loc,I.cell,I.free,I.freeC,I.pin,I.hok,I.len⟩
theorem SP.unwish{D:Ends}{f:Flow}{s':au}(h:SP (X.wish E) pins D f s'):SP X pins D f s':=by
 cases f with
 | next=>obtain⟨σ',l,I,q⟩:=h;exact⟨σ',l,I.unwish,q⟩
 | brk=>obtain⟨σ',l,I,q⟩:=h;exact⟨σ',l,I.unwish,q⟩
 | cont=>obtain⟨σ',l,I,q⟩:=h;exact⟨σ',l,I.unwish,q⟩
 | ret u=>obtain⟨v,σ',l,I,r,q⟩:=h;exact⟨v,σ',l,I.unwish,r,q⟩
theorem PSs.nox{st:List cT}{t:TS}(h:PSs X.nox st t):PSs X st t:=fun pins s σ H D I hw =>
 cE (h pins s σ H D (I.wish _) hw) (fun _ _ q=>q.unwish) fun _ _ z=>bY z
end
section
variable{X:Cx}{st:cT}{rest:List cT}{t u:TS}{e:aO}{te:TE}{pos:Pos}
def zum:TS:=fun D σ H=>D.nx σ H
def tSeq(t u:TS):TS:=fun D σ H=>t { D with nx:=u D } σ H
theorem zhB:PSs X [] zum:=fun _ _ σ H _ I h=>e8 ⟨σ,H,I,h⟩
theorem Qr(x:PS X st t)(y:PSs X rest u):PSs X (st::rest) (tSeq t u):=by
 intro pins s σ H D I h;refine kh (thn (x pins s σ H { D with nx:=u D } I h) fun f s1 q=>?_)
 cases f with
 | next =>
  obtain⟨σ',C,l,q⟩:=q;exact y pins s1 σ' C D l q
 | ret v=>exact q
 | brk=>exact q
 | cont=>exact q
theorem UO(l:PS X st t):PSs X [st] t:=by
 intro pins s σ H D I h;refine kh (thn (l pins s σ H D I h) fun f s1 q=>?_)
 cases f with
 | next=>exact e8 q
 | ret v=>exact q
 | brk=>exact q
 | cont=>exact q
theorem Inv.quiet{pins:qO}{σ:St}{H:Hp}{s:au}(I:Inv X pins σ H s):interactive X.env=false:=by simp[interactive,I.ok.kind]
def zuq(te:TE):TS:=fun D σ H=>te σ H fun _ l=>D.nx σ l
theorem zoQ(J:PE X e te)(C:swapsWith e none pos.line X.env=pure false:=by rfl):PS X (.Expr e pos) (zuq te):=by
 intro pins s σ H D I h;exact oo (thn (J pins s σ H _ I h) fun v s1 ⟨x,y,l,L,G⟩=>⟨σ,y,l,G⟩) I.quiet C
def tRet(te:TE):TS:=fun D σ H=>te σ H D.rt
theorem YK(J:PE X e te):PS X (.Return (some e) pos) (tRet te):=by
 intro pins s σ H D I h;exact wpAny_Return_some (thn (J pins s σ H _ I h) fun v s1 ⟨x,C,y,l,G⟩=>⟨x,σ,C,y,l,G⟩)
def tIfS(c:TT)(t u:TS):TS:=fun D σ H=>c σ H fun b l=>if b=true then t D σ l else u D σ l
theorem zoP{c:aO}{a b:List cT}{y:TT}(hc:PT X c y)(G:PSs X a t)(C:PSs X b u):PS X (.If c a b pos) (tIfS y t u):=by
 intro pins s σ H D I h;refine wpAny_If (thn (hc pins s σ H _ I h) fun d s1 ⟨v,l,x⟩=>?_)
 cases d with
 | true=>exact G pins s1 σ v D l x
 | false=>exact C pins s1 σ v D l x
end
abbrev TG:=V->St->Hp->(St->Hp->Prop)->Prop
abbrev TGs:=List V->St->Hp->(St->Hp->Prop)->Prop
def PG(X:Cx)(target:aO)(t:TG):Prop :=
 ∀(pins:qO) (s:au) (σ:St) (H:Hp) (v:V) (u:ah) (Q:St->Hp->Prop),Inv X pins σ H s->RelV v u->t v σ H Q ->
  wpAny (model X.prog X.w) X.A (assign target X.env u) (fun _ s'=>∃σ' l,Inv X pins σ' l s'/\Q σ' l) X.xe s
def PGs(X:Cx)(ts:List aO)(t:TGs):Prop :=
 ∀(pins:qO) (s:au) (σ:St) (H:Hp) (l:List V) (u:List ah) (Q:St->Hp->Prop),Inv X pins σ H s->Vals l u->t l σ H Q ->
  wpAny (model X.prog X.w) X.A (assignInOrder ((assignEach ts X.env).map (·.2)) u) (fun _ s'=>∃σ' v,Inv X pins σ' v s'/\Q σ' v) X.xe s
abbrev TSet:=V->V->V->Hp->(Hp->Prop)->Prop
def PSet(X:Cx)(t:TSet):Prop :=
 ∀(pins:qO) (s:au) (σ:St) (H:Hp) (o i v:V) (x l u:ah) (Q:Hp->Prop),Inv X pins σ H s->RelV o x->RelV i l->RelV v u->t o i v H Q ->
  wpAny (model X.prog X.w) X.A (setItem x l u) (fun _ s'=>∃y,Inv X pins σ y s'/\Q y) X.xe s
section
variable{X:Cx}{pos:Pos}
def Yv(i:Nat):TG:=fun v σ H Q=>Q (σ.set i (some v)) H
theorem Z5{i:Nat}{x:Str}(y:X.N.Nodup)(hi:X.N[i]?=some x)(hx:Loc X.env.scope x)(hf:X.fn x=true\/X.env.scope.names.lookup x=some .local:=by walk_at "F"):PG X (.Name x pos) (Yv i):=by
 intro pins s σ H v u Q I r h;exact my (Yh I y hi hx r (fun s' C=>⟨_,H,C,h⟩) hf)
def gNil:TGs:=fun l σ H Q=>l=[]/\Q σ H
def zvL(t:TG)(u:TGs):TGs:=fun l σ H Q=>∃v r,l=v::r/\t v σ H fun σ' x=>u r σ' x Q
theorem zkE:PGs X [] gNil:=by
 intro pins s σ H l u Q I r h;obtain⟨e,h⟩:=h;subst e;cases r;exact mC ⟨σ,H,I,h⟩
theorem Vt{e:aO}{l:List aO}{t:TG}{u:TGs}(G:PG X e t)(L:PGs X l u)
  (S:(assignEach (e::l) X.env).map (·.2)=assign e X.env::(assignEach l X.env).map (·.2):=by rfl):PGs X (e::l) (zvL t u):=by
 intro pins s σ H U Z Q I r h;obtain⟨v,Y,R,h⟩:=h;subst R;cases r with
 | cons r J =>
  rw[S];refine iD (thn (G pins s σ H _ _ _ I r h) fun _ s1 ⟨x,C,y,N⟩=>?_)
  exact L pins s1 x C _ _ Q y J N
def gTup(K:qF)(n:Nat)(t:TGs):TG:=fun v σ H Q=>∃a xs,v=.ref a/\SqT K H a xs/\xs.length=n/\t xs σ H Q
theorem zro{y:List aO}{k:Nat}{t:TGs}{n:Nat}(hc:X.calm=true)(h:PGs X y t)
  (Y:(assignEach y X.env).length=n:=by rfl) (C:(assignEach y X.env).findIdx? (·.1)=none:=by rfl):PG X (.Tuple y k pos) (gTup X.K n t):=by
 intro pins s σ H v u Q I r hw;obtain⟨a,xs,U,R,S,hw⟩:=hw;subst U;cases r;obtain⟨J,G,L,Z⟩:=I.tuple R;refine assign_Tuple_tuple (I.ok.hd hc) L (by simp[Y,<- S,G.length]) C fun h' hx=>?_
 have N:Inv X pins σ H { s with heap:=h' }:=I.kept (t':=s.toks) fun b o e=>hx b o (aD (av e)) e
 exact h pins _ σ H xs _ Q N (by simpa using G) hw
def gSub(to ti:TE)(t:TSet):TG:=fun v σ H Q=>to σ H fun o l=>ti σ l fun i u=>t o i v u fun x=>Q σ x
theorem pg_sub{o i:aO}{to ti:TE}{t:TSet}(L:PE X o to)(hi:PE X i ti)(hs:PSet X t)
  (ha:∀v,assign (.Subscript o i pos) X.env v=(do
   let l <- holding [v] (eval o X.env)
   let C <- holding [v,l] (eval i X.env)
   standAt pos
   holding [v,l,C] (setItem l C v)
   release [v,l,C] []):=by intro _;rfl):PG X (.Subscript o i pos) (gSub to ti t):=by
 intro pins s σ H v u Q I r h;rw[ha];refine aa (bz (thn (L pins s σ H _ I h) fun l s1 ⟨x,R,N,U,Z⟩=>?_))
 refine aa (bz (thn (hi pins s1 σ R _ N Z) fun C s2 ⟨y,H2,I2,J,Y⟩=>?_))
 refine aa (c9 (aa (bz (thn (hs pins s2 σ H2 x y v l C u _ I2 U J r Y) fun _ s3 ⟨H3,I3,G⟩=>?_))))
 exact wpAny_release ⟨σ,H3,I3,G⟩
def tAsg(u:TE)(g:TG):TS:=fun D σ H=>u σ H fun x l=>g x σ l D.nx
theorem YJ{l e:aO}{u:TE}{g:TG}(S:PE X e u)(J:PG X l g)(R:swapsWithSole [l] e pos.line X.env=pure false:=by rfl)(hw:swappedStores [l] e X.env=pure none:=by rfl)
  (G:(assignEach [l] X.env).map (·.2)=[assign l X.env]:=by rfl):PS X (.Assign [l] e pos) (tAsg u g):=by
 intro pins s σ H D I h;refine wpAny_Assign_stores (thn (S pins s σ H _ I h) fun v s1 ⟨x,C,y,L,N⟩=>?_) R hw
 rw[G];exact thn (J pins s1 σ C x v _ y L N) fun _ s2 q=>q
theorem QA{i:Nat}{x:Str}{e:aO}{C:TE}{u:Pos}(J:X.N.Nodup)(hi:X.N[i]?=some x)(hx:Loc X.env.scope x)(Z:PE X e C)(Y:swapsWith e (some (.Name x u)) pos.line X.env=pure false:=by rfl)(hf:X.fn x=true\/X.env.scope.names.lookup x=some .local:=by walk_at "F") :
  PS X (.Assign [.Name x u] e pos) (tAsg C (Yv i)):=by
 intro pins s σ H D I h;refine wpAny_Assign_Name (thn (Z pins s σ H _ I h) fun v s1 ⟨y,L,G,R,S⟩=>?_) Y
 exact Yh G J hi hx R (fun s2 U=>⟨_,L,U,S⟩) hf
def tPar(i j:Nat)(l:TA):TS:=fun D σ H=>l σ H fun u x=>∃v w,u=[v,w]/\D.nx ((σ.set i (some v)).set j (some w)) x
theorem zoi{i j:Nat}{x y:Str}{a b:aO}{ta:TA}{L py pt:Pos}{kt k2 pt2}(hc:X.calm=true)(Z:X.N.Nodup)(hi:X.N[i]?=some x)(hj:X.N[j]?=some y)(J:i≠j)
  (hx:X.env.scope.names.lookup x=some .local) (hy:X.env.scope.names.lookup y=some .local) (ha:PA X [a,b] ta)
  (hw:swappedStores [.Tuple [.Name x L,.Name y py] kt pt] (.Tuple [a,b] k2 pt2) X.env=pure (some [x,y]))
  (hs:swapsWithSole [.Tuple [.Name x L,.Name y py] kt pt] (.Tuple [a,b] k2 pt2) pos.line X.env=pure false:=by rfl) :
  PS X (.Assign [.Tuple [.Name x L,.Name y py] kt pt] (.Tuple [a,b] k2 pt2) pos) (tPar i j ta):=by
 intro pins s σ H D I h;rw[exec_Assign_arm];refine aa (c9 ?_);rw[hs];refine aa (aj ?_);rw[if_neg (by decide)]
 refine aa (Tuple_ (thn (ha _ pins s σ H _ I h) fun us s1 ⟨vs,H1,I1,r1,S⟩=>?_))
 obtain⟨v,w,e1,S⟩:=S;subst e1;obtain⟨C,G,rfl,rv,U⟩:∃C G,us=[C,G]/\RelV v C/\RelV w G:=by
  cases r1 with
  | cons p q =>
   cases q with
   | cons p' q' =>
    cases q';exact⟨_,_,rfl,p,p'⟩
 refine cF ?_ (by show 2<=sizeLine;decide)
 have I2:Inv X pins σ H1 { s1 with heap:=s1.heap.push { cls:=.type "tuple",data:=.seq [C,G].toArray } }:=I1.kept (t':=s1.toks) fun b o e=>aq _ e
 rw[hw];refine aa (aj ?_);show wpAny (model X.prog X.w) X.A (do rule "assign.swapped-stores";let items <- unpackItems (.ref s1.heap.objs.size) 2 none;assignInOrder [fun v=>bindName X.env y v,fun v=>bindName X.env x v] items.reverse;pure xk) _ _ _
 refine aa (eI (aa (unpackItems_tuple (items:=#[C,G]) (I.ok.hd hc) (IsTup.new s1.heap _) fun h' R=>?_)))
 have I3:=I2.kept (h':=h') (t':=s1.toks) fun b o e=>R b o (aD (av e)) e
 show wpAny _ _ (assignInOrder [fun v=>bindName X.env y v,fun v=>bindName X.env x v] [G,C] >>= fun _=>pure xk) _ _ _
 refine aa (iD (kY (Yh I3 Z hj (.inl hy) U (fun s2 I4=>?_) (.inr hy))))
 refine iD (kY (Yh I4 Z hi (.inl hx) rv (fun s3 Y=>mC (aj ?_)) (.inr hx)))
 rw[List.set_comm _ _ (gn J)]at Y;exact⟨_,H1,Y,S⟩
end
section
variable{X:Cx}{pos:Pos}
def zqD(c:TT)(x:TS):TS:=fun D σ H=>∃W:Nat->St->Hp->Prop,(∃m,W m σ H)/\∀m σ H,W m σ H ->
 c σ H fun b l=>if b=true then ∃N:St->Hp->Prop,(∀σ' v,N σ' v->∃u,u<m/\W u σ' v)/\x { D with nx:=N,ct:=N,bk:=D.nx } σ l else D.nx σ l
theorem zmT{c:aO}{body:List cT}{tc:TT}{tb:TS}(Z:m7 (model X.prog X.w) X.A X.env X.xe)(hc:PT X c tc)(hb:PSs X body tb):PS X (.While c body [] pos) (zqD tc tb):=by
 intro pins s σ H D I h;obtain⟨W,⟨m0,w0⟩,turn⟩:=h;refine wpAny_While (codeAny_whileLoop (fun n s'=>∃σ' Y,Inv X pins σ' Y s'/\W n σ' Y) ?_ m0 ⟨σ,H,I,w0⟩)
 rintro n s1 ⟨x,H1,I1,w1⟩;refine ee Z (thn (hc pins s1 x H1 _ I1 (turn n x H1 w1)) fun b s2 ⟨H2,I2,G⟩=>?_)
 cases b with
 | true =>
  obtain⟨N,hN,G⟩:=G;rw[if_pos rfl];refine ee Z (thn (hb pins s2 x H2 _ I2 G) fun f s3 C=>?_)
  cases f with
  | next =>
   obtain⟨u,y,U,J⟩:=C;obtain⟨L,R,S⟩:=hN u y J;exact⟨L,R,u,y,U,S⟩
  | cont =>
   obtain⟨u,y,U,J⟩:=C;obtain⟨L,R,S⟩:=hN u y J;exact⟨L,R,u,y,U,S⟩
  | brk=>exact C
  | ret v=>exact C
 | false =>
  rw[if_neg aS];exact e8 ⟨x,H2,I2,G⟩
end
structure It where
 go:Nat->Hp->Prop
 yld:Nat->Hp->V->Hp->Prop
 stop:Nat->Hp->Prop
def FpOk(X:Cx)(pins:qO)(H:Hp)(b:ak):Prop :=
 H b=none/\b≠X.env.locals/\b∉X.fs/\(b∈X.ex\/X.s₀.heap.objs.size<=b)/\(∀x c,X.env.cells.lookup x=some c->c≠b)/\∀p∈X.pn++pins,p.1≠b
theorem Inv.fpOk{X:Cx}{pins:qO}{σ:St}{H u:Hp}{s:au}{b:ak}(I:Inv X pins σ H s)(l:s.heap.objs.size<=b)(C:u b=none):FpOk X pins u b:=by
 refine⟨C,kC (aB I.lt l),I.nofs l,.inr (bG I.sz l),fun x c e z=>?_,fun p y z=>?_⟩
 ·obtain⟨v,q⟩:=I.cell x c e;exact absurd (aB q.lt (by rw[z];exact l)) (fi _)
 ·exact absurd (aB (av (I.pin p y).1) (by rw[z];exact l)) (fi _)
structure Turn(P:aG)(w:aP)(K:qF)(tg:aO)(J:It)(fp:List ak)(it:ak)(tn:Nat->aN->Prop):Prop where
 mem:it∈fp
 obj:∀i h,tn i h->∀b∈fp,∃o,h.get? b=some o/\∀v,o.data≠.cell v
 keep:∀i h h',tn i h->(∀b∈fp,∀o,h.get? b=some o->h'.get? b=some o)->tn i h'
 item:∀(X:Cx),X.prog=P->X.w=w->X.K=K->X.calm=true->∀(i:Nat) (pins:qO) (s:au) (σ:St) (H:Hp) (E:qV),Inv X pins σ H s->(∀b∈fp,FpOk X pins H b)->tn i s.heap->J.go i H ->
  wpAny (model P w) X.A (pyNext (.ref it)) (fun r s1=>∃u,r=some u /\
   wpAny (model P w) X.A (letOwnedTupleGo tg (.ref it) u) (fun _ s2=>∃x H',Inv X pins σ H' s2/\RelV x u/\J.yld i H x H'/\tn (i+1) s2.heap/\∀b∈fp,H' b=none) E s1) E s
 done:∀(X:Cx),X.prog=P->X.w=w->X.K=K->X.calm=true->∀(i:Nat) (pins:qO) (s:au) (σ:St) (H:Hp) (E:qV),Inv X pins σ H s->(∀b∈fp,FpOk X pins H b)->tn i s.heap->J.stop i H ->
  wpAny (model P w) X.A (pyNext (.ref it)) (fun r s1=>r=none/\Inv X pins σ H s1) E s
 self:∀(A:bo) (i:Nat) (s:au) (Q:qV) (E:qV),tn i s.heap->Q (.ref it) s->wpAny (model P w) A (pyIter (.ref it)) Q E s
abbrev TI:=St->Hp->(It->Hp->Prop)->Prop
def PIE(X:Cx)(pins:qO)(σ:St)(y:aO)(R:It->Hp->Prop)(l:ah)(s2:au):Prop :=
 ∃(it:ak) (v:List ak) (x:Nat->aN->Prop) (J:It) (u:Hp),l=.ref it/\Inv X pins σ u s2/\Turn X.prog X.w X.K y J v it x/\x 0 s2.heap/\(∀b∈v,FpOk X pins u b)/\R J u
def PI(X:Cx)(l iter:aO)(u:TI):Prop :=
 ∀(pins:qO) (s:au) (σ:St) (H:Hp) (R:It->Hp->Prop),Inv X pins σ H s->u σ H R ->
  wpAny (model X.prog X.w) X.A (eval iter X.env) (fun v s1=>wpAny (model X.prog X.w) X.A (pyIter v) (PIE X pins σ l R) X.xe s1) X.xe s
theorem Zn{M:rM}{A:bo}{E:qV}{s:au}{C:aO}{it:ak}{u:ah}{o:Obj}{n:String}{x:Array ah}{Q:Unit->au->Prop}(G:s.heap.get? it=some o)(hc:o.cls=.type n)(hd:o.data=.fields x)
  (I:["enumerate","zip","dict_itemiterator","dict_reverseitemiterator","odict_iterator","itertools.zip_longest","itertools.pairwise"].contains n=false) (v:Q () s):wpAny M A (letOwnedTupleGo C (.ref it) u) Q E s:=by
 unfold letOwnedTupleGo;cases C <;> first
  | exact aj v
  | (cases u <;> first
    | exact aj v
    | (refine aa (wpAny_load G ?_)
       rw[hc,hd];show wpAny M A (if (["enumerate","zip","dict_itemiterator","dict_reverseitemiterator","odict_iterator","itertools.zip_longest","itertools.pairwise"].contains n&&x[0]? == some (rawInt _))=true then _ else _) Q E s
       rw[if_neg (by intro h;rw[I,cj]at h;cases h)]
       exact aj v))
def Itl(K:qF)(a:ak):It :=
 ⟨fun i H=>∃xs x,SqL K H a xs/\xs[i]?=some x,fun i H x l=>l=H/\∀xs,SqL K H a xs->xs[i]?=some x,fun i H=>∃xs,SqL K H a xs/\xs.length<=i⟩
def Itt(K:qF)(a:ak):It :=
 ⟨fun i H=>∃xs x,SqT K H a xs/\xs[i]?=some x,fun i H x l=>l=H/\∀xs,SqT K H a xs->xs[i]?=some x,fun i H=>∃xs,SqT K H a xs/\xs.length<=i⟩
def Itr(lo:Int)(n:Nat):It:=⟨fun i _=>i<n,fun i H x l=>l=H/\x=.int (lo+i),fun i _=>n<=i⟩
theorem zfZ{P:aG}{w:aP}{K:qF}{tg:aO}(a it:ak):Turn P w K tg (Itl K a) [it] it (fun i h=>h.IsListIter it a i) where
 mem:=by simp
 obj:=fun i h st b l=>by
  have e:b=it:=by simpa using l
  subst e;obtain⟨o,e,c,d⟩:=st;exact⟨o,e,fun v z=>by rw[d]at z;cases z⟩
 keep:=fun i h h' st k=>st.at fun o e=>k it (by simp) o e
 item:=by
  intro X G hw U hc i pins s σ H E I hf st S;subst G hw U;obtain⟨xs,x,C,hx⟩:=S;obtain⟨N,R,p,hz⟩:=I.list C;obtain⟨u,hu,Z⟩:=R.get hx;obtain⟨f0,f1,f2,J,f4,L⟩:=hf it (by simp)
  refine wpAny_pyNext_list_item st p.isList (x:=u) (by simpa using hu) fun h' y sb=>?_
  have Y:Inv X pins σ H { s with heap:=h' }:=I.turned (t':=s.toks) (fun b o l e=>(sb.2 b l).trans e) f0 f1 J f4 L
  obtain⟨o,e,c,d⟩:=id y;exact⟨u,rfl,Zn (s:={ s with heap:=h' }) e c d (by decide) ⟨x,H,Y,Z,⟨rfl,fun ys hy=>by rw[I.list_inj hy C];exact hx⟩,y,fun b l=>(hf b l).1⟩⟩
 done:=by
  intro X G hw U hc i pins s σ H E I hf st S;subst G hw U;obtain⟨xs,C,hx⟩:=S;obtain⟨N,R,p,hz⟩:=I.list C;obtain⟨f0,f1,f2,J,f4,L⟩:=hf it (by simp)
  have hl:=R.length;exact wpAny_pyNext_list_end (I.ok.hd hc) st p.isList (by simp;lia) fun h' eb=>⟨rfl,I.turned (t':=s.toks) (fun b o l e=>eb b o l e) f0 f1 J f4 L⟩
 self:=fun _ _ _ _ _ st h=>wpAny_pyIter_listiter st h
theorem zeO{P:aG}{w:aP}{K:qF}{tg:aO}(a it:ak):Turn P w K tg (Itt K a) [it] it (fun i h=>h.IsTupleIter it a i) where
 mem:=by simp
 obj:=fun i h st b y=>by
  have e:b=it:=by simpa using y
  subst e;obtain⟨o,e,c,d⟩:=st;exact⟨o,e,fun v z=>by rw[d]at z;cases z⟩
 keep:=fun i h h' st k=>st.at fun o e=>k it (by simp) o e
 item:=by
  intro X J hw U hc i pins s σ H E I hf st S;subst J hw U;obtain⟨xs,x,G,hx⟩:=S;obtain⟨l,R,p,hz⟩:=I.tuple G;obtain⟨u,hu,Z⟩:=R.get hx;obtain⟨f0,f1,f2,L,f4,N⟩:=hf it (by simp)
  refine wpAny_pyNext_tuple_item st (show s.heap.IsTuple a l.toArray from p) (x:=u) (by simpa using hu) fun h' C sb=>?_
  have Y:Inv X pins σ H { s with heap:=h' }:=I.turned (t':=s.toks) (fun b o y e=>(sb.2 b y).trans e) f0 f1 L f4 N
  obtain⟨o,e,c,d⟩:=id C;exact⟨u,rfl,Zn (s:={ s with heap:=h' }) e c d (by decide) ⟨x,H,Y,Z,⟨rfl,fun ys hy=>by rw[I.tuple_inj hy G];exact hx⟩,C,fun b y=>(hf b y).1⟩⟩
 done:=by
  intro X J hw U hc i pins s σ H E I hf st S;subst J hw U;obtain⟨xs,G,hx⟩:=S;obtain⟨l,R,p,hz⟩:=I.tuple G;obtain⟨f0,f1,f2,L,f4,N⟩:=hf it (by simp)
  have hl:=R.length;exact wpAny_pyNext_tuple_end (I.ok.hd hc) st (show s.heap.IsTuple a l.toArray from p) (by simp;lia) fun h' eb=>⟨rfl,I.turned (t':=s.toks) (fun b o y e=>eb b o y e) f0 f1 L f4 N⟩
 self:=fun _ _ _ _ _ st h=>wpAny_pyIter_tupleiter st h
theorem zjn{P:aG}{w:aP}{K:qF}{R:aO}(it:ak)(lo:Int)(n:Nat):Turn P w K R (Itr lo n) [it] it (fun i h=>IsRangeIter h it (lo+(i:Nat)*1) ((n:Int) - (i:Nat)) 1) where
 mem:=by simp
 obj:=fun i h st b l=>by
  have e:b=it:=by simpa using l
  subst e;exact⟨_,st,fun v z=>by
   have U:Data.fields _=Data.cell v:=z;cases U⟩
 keep:=fun i h h' st k=>k it (by simp) _ st
 item:=by
  intro X x hw J hc i pins s σ H E I hf st G;subst x hw J;obtain⟨f0,f1,f2,y,f4,C⟩:=hf it (by simp)
  have W:=Walks.range (prog:=X.prog) (w:=X.w) (I.ok.hd hc) it lo 1 n;refine W.item i s _ _ G st fun v h' tk S u L=>?_
  obtain⟨t,rfl⟩:=S;have N:Inv X pins σ H { s with heap:=h',toks:=tk }:=I.turned (fun b o l e=>L b o (by simpa using l) e) f0 f1 y f4 C
  refine⟨_,rfl,Zn (s:={ s with heap:=h',toks:=tk }) (n:="range_iterator") u rfl rfl (by decide) ⟨.int (lo+i),H,N,⟨t,?_⟩,⟨rfl,rfl⟩,u,fun b l=>(hf b l).1⟩⟩
  rw[iW]
 done:=by
  intro X x hw J hc i pins s σ H E I hf st G;subst x hw J;obtain⟨f0,f1,f2,y,f4,C⟩:=hf it (by simp)
  exact wpAny_pyNext_range_end (I.ok.hd hc) st (by have:n<=i:=G;lia) fun h' Y=>⟨rfl,I.turned (t':=s.toks) (fun b o l e=>Y b o l e) f0 f1 y f4 C⟩
 self:=fun _ _ _ _ _ st h=>wpAny_pyIter_rangeiter st h
section
variable{X:Cx}{tg:aO}
def zvI(K:qF)(u:TE):TI:=fun σ H R=>u σ H fun x l=>∃a,x=.ref a/\(∃xs,SqL K l a xs)/\R (Itl K a) l
def iTup(K:qF)(u:TE):TI:=fun σ H R=>u σ H fun x l=>∃a,x=.ref a/\(∃xs,SqT K l a xs)/\R (Itt K a) l
theorem zkD{l:aO}{y:TE}(S:PE X l y):PI X tg l (zvI X.K y):=by
 intro pins s σ H R I h;refine thn (S pins s σ H _ I h) fun v s1 ⟨x,G,u,L,U⟩=>?_
 obtain⟨a,e,⟨xs,J⟩,q⟩:=U;subst e;cases L;obtain⟨C,Y,p,Z⟩:=u.list J;refine fq p.isList ?_;refine⟨s1.heap.objs.size,[s1.heap.objs.size],_,_,G,rfl,u.kept (t':=s1.toks) fun b o e=>aq _ e,zfZ a _,⟨_,ay _ rfl,rfl,rfl⟩,fun b N=>?_,q⟩
 have e:b=s1.heap.objs.size:=by simpa using N
 subst e;exact u.fpOk (az _) (u.hok.fresh (az _))
theorem zrl{l:aO}{C:TE}(S:PE X l C):PI X tg l (iTup X.K C):=by
 intro pins s σ H R I h;refine thn (S pins s σ H _ I h) fun v s1 ⟨x,G,u,L,U⟩=>?_
 obtain⟨a,e,⟨xs,J⟩,q⟩:=U;subst e;cases L;obtain⟨y,Y,p,Z⟩:=u.tuple J;refine iE (show s1.heap.IsTuple a y.toArray from p) ?_
 refine⟨s1.heap.objs.size,[s1.heap.objs.size],_,_,G,rfl,u.kept (t':=s1.toks) fun b o e=>aq _ e,zeO a _,⟨_,ay _ rfl,rfl,rfl⟩,fun b N=>?_,q⟩
 have e:b=s1.heap.objs.size:=by simpa using N
 subst e;exact u.fpOk (az _) (u.hok.fresh (az _))
theorem zmQ{pins:qO}{σ:St}{H:Hp}{s:au}{R:It->Hp->Prop}{E:qV}{lo hi:Int}{t u v:Tok}{tk:Nat}(I:Inv X pins σ H s)(C:-(2 ^ 62)<=lo)(G:lo<2 ^ 62)(U:-(2 ^ 62)<=hi)(L:hi<2 ^ 62)
  (q:R (Itr lo (hi - lo).toNat) H):wpAny (model X.prog X.w) X.A (pyIter (.ref s.heap.objs.size)) (PIE X pins σ tg R) E { s with heap:=s.heap.push { cls:=.type "range",data:=.fields #[.int lo t,.int hi u,.int 1 v] },toks:=tk }:=by
 refine wpAny_pyIter_range (IsRange.new ..) (small_one C G U L) ?_;have x:Inv X pins σ H { s with heap:=s.heap.push { cls:=.type "range",data:=.fields #[.int lo t,.int hi u,.int 1 v] },toks:=tk }:=I.kept fun b o e=>aq _ e
 refine⟨(s.heap.push { cls:=.type "range",data:=.fields #[.int lo t,.int hi u,.int 1 v] }).objs.size,[(s.heap.push { cls:=.type "range",data:=.fields #[.int lo t,.int hi u,.int 1 v] }).objs.size],_,_,H,rfl,
  x.kept (t':=tk) fun b o e=>aq _ e,zjn _ lo (hi - lo).toNat,?_,fun b J=>?_,q⟩
 ·have S:lo+((0:Nat):Int)*1=lo:=by simp
  have Y:(((hi - lo).toNat:Nat):Int) - ((0:Nat):Int)=rO lo hi 1:=by rw[rangeSize_one];split <;> lia
  show IsRangeIter _ _ (lo+((0:Nat):Int)*1) ((((hi - lo).toNat:Nat):Int) - ((0:Nat):Int)) 1
  rw[S,Y];exact ay _ rfl
 ·have e:b=(s.heap.push { cls:=.type "range",data:=.fields #[.int lo t,.int hi u,.int 1 v] }).objs.size:=by simpa using J
  subst e;exact x.fpOk (az _) (x.hok.fresh (az _))
def zvH(l:TA):TI:=fun σ H R=>l σ H fun u v=>∃j:Int,u=[.int j]/\-(2 ^ 62)<=j/\j<2 ^ 62/\R (Itr 0 j.toNat) v
theorem zkC{a:aO}{v:TA}{p pos:Pos}(J:Gl X "range") (G:X.mg "range" = none) (Y:PA X [a] v) (U:starEach [a] X.env=[(false,eval a X.env)]:=by rfl):PI X tg (.Call (.Name "range" p) [a] [] pos) (zvH v):=by
 intro pins s σ H R I h;refine Call_ (YN I J G boot_range (ft (thn (Y pos pins s σ H _ I h) fun us s1 ⟨Z,H1,x,L,u⟩=>?_) U rfl))
 obtain⟨j,e,u,S,q⟩:=u;subst e;cases L with
 | cons r y =>
  cases y;obtain⟨t,rfl⟩:=r;exact call_range_1 (zmQ x (by lia) (by lia) u S (by simpa using q))
def tFor(I:TI)(g:TG)(G:TS):TS:=fun D σ H=>I σ H fun J y=>∃W:Nat->Nat->St->Hp->Prop,(∃m,W 0 m σ y)/\∀i m σ H,W i m σ H ->
 (J.stop i H/\D.nx σ H)\/(J.go i H/\∃N:St->Hp->Prop,(∀σ' l,N σ' l->∃v,v<m/\W (i+1) v σ' l)/\∀x l,J.yld i H x l->g x σ l fun u C=>G { D with nx:=N,ct:=N,bk:=D.nx } u C)
def YI(l:List ak)(h:aN):List (ak×Obj):=l.filterMap fun b=>(h.get? b).map fun o=>(b,o)
theorem Vv{l:List ak}{h:aN}{b:ak}{o:Obj}(u:b∈l)(e:h.get? b=some o):(b,o)∈YI l h:=eY.mpr ⟨b,u,by rw[e];rfl⟩
theorem zkX{l:List ak}{h:aN}{p:ak×Obj}(u:p∈YI l h):p.1∈l/\h.get? p.1=some p.2:=by
 obtain⟨b,v,e⟩:=eY.mp u;cases q:h.get? b with
 | none=>rw[q]at e;cases e
 | some o =>
  rw[q]at e;have x:(b,o)=p:=aJ e;subst x;exact⟨v,q⟩
theorem Inv.pinned{pins:qO}{σ:St}{H:Hp}{s:au}{u:List ak}(I:Inv X pins σ H s)(hf:∀b∈u,FpOk X pins H b)(C:∀b∈u,∃o,s.heap.get? b=some o/\∀v,o.data≠.cell v):Inv X (pins++YI u s.heap) σ H s :=
 I.pins_of fun p G=>(aE.mp G).elim (fun z=>I.pin p (bH _ z)) fun z=>by
  obtain⟨y,e⟩:=zkX z;obtain⟨f0,f1,f2,_⟩:=hf p.1 y;obtain⟨o,x,d⟩:=C p.1 y;rw[e]at x;cases x;exact⟨e,f0,f1,f2,d⟩
theorem Inv.unpinned{pins pl:qO}{σ:St}{H:Hp}{s:au}(I:Inv X (pins++pl) σ H s):Inv X pins σ H s:=I.pins_of fun p l=>I.pin p (bH _ (g7 _ l))
theorem zrh{iter:aO}{body:List cT}{wi:TI}{g:TG}{tb:TS}{pos:Pos}(hp:m7 (model X.prog X.w) X.A X.env X.xe)(hc:X.calm=true)(hi:PI X tg iter wi)(hg:PG X tg g)(G:PSs X body tb)
  (hs:∀x,foldedSetIterable iter X.env x=pure x:=by intro _;rfl):PS X (.For tg iter body [] pos) (tFor wi g tb):=by
 intro pins s σ H D I h;refine wpAny_For (thn (hi pins s σ H _ I h) fun v s1 h1=>thn h1 fun itv s2 h2=>?_) hs
 obtain⟨it,Z,tn,J,H2,e,I2,T,st2,f2,W,⟨m0,w0⟩,turn⟩:=h2;subst e;have HC:∀{R:Hp},(∀b∈Z,R b=none)->∀b∈Z,FpOk X pins R b:=fun hn b G=>⟨hn b G,(f2 b G).2⟩
 refine codeAny_forLoop_any (fun n s'=>∃i σ' R,Inv X pins σ' R s'/\tn i s'.heap/\(∀b∈Z,R b=none)/\W i n σ' R) ?_ m0 ⟨0,σ,H2,I2,st2,fun b G=>(f2 b G).1,w0⟩
 rintro n s3 ⟨i,C,H3,I3,st3,Y,w3⟩;rcases turn i n C H3 w3 with⟨stop,qn⟩|⟨go,N,hN,step⟩
 ·refine ee hp (thn (T.done X rfl rfl rfl hc i pins s3 C H3 X.xe I3 (HC Y) st3 stop) fun r s4 ⟨hr,I4⟩=>?_)
  subst hr;exact e8 ⟨C,H3,I4,qn⟩
 ·refine ee hp (thn (T.item X rfl rfl rfl hc i pins s3 C H3 X.xe I3 (HC Y) st3 go) fun r s4 ⟨u,hr,h4⟩=>?_)
  subst hr;refine ee hp (thn h4 fun _ s5 ⟨x,H5,I5,r5,y5,U,fr5⟩=>?_)
  have I5':=I5.pinned (HC fr5) (T.obj _ _ U);refine ee hp (thn (hg _ s5 C H5 x u _ I5' r5 (step x H5 y5)) fun _ s6 ⟨σ6,H6,I6,q6⟩=>?_)
  refine ee hp (thn (G _ s6 σ6 H6 _ I6 q6) fun f s7 S=>?_)
  have again:∀{l:St} {L:Hp},Inv X (pins++YI Z s5.heap) l L s7->N l L->∃m,m<n/\∃i σ' R,Inv X pins σ' R s7/\tn i s7.heap/\(∀b∈Z,R b=none)/\W i m σ' R:=fun {l L} y n7=>by
   obtain⟨m',hm,w7⟩:=hN l L n7;refine⟨m',hm,i+1,l,L,y.unpinned,T.keep _ _ _ U fun b G o e=>(y.pin (b,o) (bH _ (bH _ (Vv G e)))).1,fun b G=>?_,w7⟩
   obtain⟨o,e,d⟩:=T.obj _ _ U b G;exact(y.pin (b,o) (bH _ (bH _ (Vv G e)))).2.1
  cases f with
  | next=>obtain⟨l,L,y,n7⟩:=S;exact again y n7
  | cont=>obtain⟨l,L,y,n7⟩:=S;exact again y n7
  | brk=>obtain⟨l,L,y,S⟩:=S;exact⟨l,L,y.unpinned,S⟩
  | ret v=>obtain⟨x7,l,L,y,r7,S⟩:=S;exact⟨x7,l,L,y.unpinned,r7,S⟩
end
abbrev R2:=V->V->Hp->VK->Prop
def OpR(X:Cx)(f:ah->ah->Sem ah)(r:R2):Prop :=
 ∀(pins:qO) (s:au) (σ:St) (H:Hp) (x y:V) (v u:ah) (Q:VK),Inv X pins σ H s->RelV x v->RelV y u->r x y H Q ->
  wpAny (model X.prog X.w) X.A (f v u) (EP X pins σ Q) X.xe s
def UnR(X:Cx)(f:ah->Sem ah)(r:V->Hp->VK->Prop):Prop :=
 ∀(pins:qO) (s:au) (σ:St) (H:Hp) (x:V) (v:ah) (Q:VK),Inv X pins σ H s->RelV x v->r x H Q ->
  wpAny (model X.prog X.w) X.A (f v) (EP X pins σ Q) X.xe s
def JN(X:Cx)(f:ah)(r:List V->Hp->VK->Prop):Prop :=
 ∀(pins:qO) (s:au) (σ:St) (H:Hp) (xs:List V) (l:List ah) (Q:VK),Inv X pins σ H s->Vals xs l->r xs H Q ->
  wpAny (model X.prog X.w) X.A (call f l) (EP X pins σ Q) X.xe s
def TruR(X:Cx)(r:V->Hp->(Bool->Hp->Prop)->Prop):Prop :=
 ∀(pins:qO) (s:au) (σ:St) (H:Hp) (x:V) (v:ah) (Q:Bool->Hp->Prop),Inv X pins σ H s->RelV x v->r x H Q ->
  wpAny (model X.prog X.w) X.A (truthy v) (TP X pins σ Q) X.xe s
def tOp(r:R2)(l C:TE):TE:=fun σ H Q=>l σ H fun x u=>C σ u fun y v=>r x y v Q
def tUn(r:V->Hp->VK->Prop)(l:TE):TE:=fun σ H Q=>l σ H fun x u=>r x u Q
def rI(C:Int->Int->Prop)(g:Int->Int->V):R2:=fun x y H Q=>∃i j,x=.int i/\y=.int j/\C i j/\Q (g i j) H
def rI0(g:Int->Int->V):R2:=fun x y H Q=>∃i j,x=.int i/\y=.int j/\Q (g i j) H
def rU(g:Int->V):V->Hp->VK->Prop:=fun x H Q=>∃i,x=.int i/\Q (g i) H
section
variable{X:Cx}{a b c:aO}{ta tb tc:TE}{pos:Pos}
theorem binT(ha:PE X a ta)(Y:PE X b tb){pins:qO}{s:au}{σ:St}{H:Hp}{R:V->V->Hp->Prop}(I:Inv X pins σ H s)
  (h:ta σ H fun x J=>tb σ J fun y l=>R x y l) {Q:qV} {f:ah->ah->Sem ah}
  (hf:∀v u s2 x y l,Inv X pins σ l s2->RelV x v->RelV y u->R x y l->wpAny (model X.prog X.w) X.A (f v u) Q X.xe s2) :
  wpAny (model X.prog X.w) X.A (eval a X.env) (fun v G=>wpAny (model X.prog X.w) X.A (eval b X.env) (fun u C=>wpAny (model X.prog X.w) X.A (f v u) Q X.xe C) X.xe G) X.xe s:=by
 refine thn (ha pins s σ H _ I h) fun v s1 ⟨x,J,N,S,Z⟩=>?_
 refine thn (Y pins s1 σ J _ N Z) fun u s2 ⟨y,l,I2,L,U⟩=>?_
 exact hf v u s2 x y l I2 S L U
theorem JB{op:Operator}{r:R2}(G:OpR X (binaryOp op) r)(R:PE X a ta)(J:PE X b tb):PE X (.BinOp a op b pos) (tOp r ta tb):=by
 intro pins s σ H Q I h;exact wpAny_BinOp (binT R J I h fun v u s2 x y N L C l q=>G pins s2 σ N x y v u Q L C l q)
theorem zu1{op:UnaryOp}{r:V->Hp->VK->Prop}(l:UnR X (unaryOp op) r)(L:PE X a ta):PE X (.UnaryOp op a pos) (tUn r ta):=by
 intro pins s σ H Q I h;exact UnaryOp_ (thn (L pins s σ H _ I h) fun v s1 ⟨x,G,C,u,J⟩=>l pins s1 σ G x v Q C u J)
theorem opI{f:ah->ah->Sem ah}{C:Int->Int->Prop}{g:Int->Int->Int}
  (rule:∀(i j:Int) (t u:Tok) (s:au) (Q:qV) (E:qV),C i j->Q (.int (g i j) s.toks) { s with toks:=s.toks+1 }->wpAny (model X.prog X.w) X.A (f (.int i t) (.int j u)) Q E s) :
  OpR X f (rI C fun i j=>.int (g i j)):=by
 intro pins s σ H x y v u Q I G l h;obtain⟨i,j,rfl,rfl,hc,q⟩:=h;obtain⟨t,rfl⟩:=G;obtain⟨t',rfl⟩:=l;exact rule i j t t' s _ _ hc ⟨.int (g i j),H,I.tok _,⟨_,rfl⟩,q⟩
theorem opI0{f:ah->ah->Sem ah}{g:Int->Int->Int}
  (rule:∀(i j:Int) (t u:Tok) (s:au) (Q:qV) (E:qV),Q (.int (g i j) s.toks) { s with toks:=s.toks+1 }->wpAny (model X.prog X.w) X.A (f (.int i t) (.int j u)) Q E s) :
  OpR X f (rI0 fun i j=>.int (g i j)):=by
 intro pins s σ H x y v u Q I C l h;obtain⟨i,j,rfl,rfl,q⟩:=h;obtain⟨t,rfl⟩:=C;obtain⟨t',rfl⟩:=l;exact rule i j t t' s _ _ ⟨.int (g i j),H,I.tok _,⟨_,rfl⟩,q⟩
theorem opB0{f:ah->ah->Sem ah}{g:Int->Int->Bool}
  (rule:∀(i j:Int) (t u:Tok) (s:au) (Q:qV) (E:qV),Q (.bool (g i j)) s->wpAny (model X.prog X.w) X.A (f (.int i t) (.int j u)) Q E s) :
  OpR X f (rI0 fun i j=>.bl (g i j)):=by
 intro pins s σ H x y v u Q I G C h;obtain⟨i,j,rfl,rfl,q⟩:=h;obtain⟨t,rfl⟩:=G;obtain⟨t',rfl⟩:=C;exact rule i j t t' s _ _ ⟨.bl (g i j),H,I,rfl,q⟩
def CPow(i j:Int):Prop:=0<=j/\j<=1000000/\i.natAbs<2 ^ 64
def CMul(i j:Int):Prop:=(-(2 ^ 64)<i/\i<2 ^ 64)\/(-(2 ^ 64)<j/\j<2 ^ 64)
theorem CMul.ok{i j:Int}(h:CMul i j):IntMulOk i j:=by
 rcases h with⟨u,v⟩|⟨u,v⟩
 ·exact .of_left (intBits_le_64 u v)
 ·exact .of_right (intBits_le_64 u v)
theorem Q3:OpR X (binaryOp .Add) (rI0 fun i j=>.int (i+j)):=opI0 fun _ _ _ _ _ _ _ q=>add_int q
theorem zrC:OpR X (binaryOp .Sub) (rI0 fun i j=>.int (i - j)):=opI0 fun _ _ _ _ _ _ _ q=>sub_int q
theorem QT:OpR X (binaryOp .Mult) (rI CMul fun i j=>.int (i*j)):=opI fun _ _ _ _ _ _ _ hc q=>mul_int q hc.ok
theorem UK:OpR X (binaryOp .Mod) (rI (fun _ j=>0<j) fun i j=>.int (i % j)):=opI fun i j _ _ _ _ _ hc q=>by
 have l:(0:Int)<j:=hc;exact mod_int' (by lia) (by rw[Int.fmod_eq_emod_of_nonneg i (by lia)];exact q)
theorem zrE:OpR X (binaryOp .Pow) (rI CPow fun i j=>.int (i ^ j.toNat)):=opI fun _ _ _ _ _ _ _ hc q=>pow_int_small hc.1 hc.2.1 hc.2.2 q
theorem zrD:OpR X (binaryOp .LShift) (rI CPow fun i j=>.int (i*2 ^ j.toNat)):=opI fun _ _ _ _ _ _ _ hc q=>lshift_int_small hc.1 hc.2.1 hc.2.2 q
theorem zrM:OpR X (binaryOp .BitAnd) (rI0 fun i j=>.int (fB i j)):=opI0 fun _ _ _ _ _ _ _ q=>and_int q
theorem zrB:OpR X (binaryOp .BitXor) (rI0 fun i j=>.int (eQ i j)):=opI0 fun _ _ _ _ _ _ _ q=>xor_int q
theorem unI{f:ah->Sem ah}{g:Int->Int}
  (rule:∀(i:Int) (t:Tok) (s:au) (Q:qV) (E:qV),Q (.int (g i) s.toks) { s with toks:=s.toks+1 }->wpAny (model X.prog X.w) X.A (f (.int i t)) Q E s) :
  UnR X f (rU fun i=>.int (g i)):=by
 intro pins s σ H x v Q I l h;obtain⟨i,rfl,q⟩:=h;obtain⟨t,rfl⟩:=l;exact rule i t s _ _ ⟨.int (g i),H,I.tok _,⟨_,rfl⟩,q⟩
theorem zqA:UnR X (unaryOp .USub) (rU fun i=>.int (-i)):=unI fun _ _ _ _ _ q=>neg_int q
end
def scal:V->V->Bool
 | .non,.non=>true|.non,.int _=>true|.int _,.non=>true|.non,.bl _=>true|.bl _,.non=>true|.non,.str _=>true|.str _,.non=>true
 | .int _,.int _=>true|.bl _,.bl _=>true|.str _,.str _=>true|.byt _,.byt _=>true
 | .int _,.str _=>true|.str _,.int _=>true|.bl _,.str _=>true|.str _,.bl _=>true
 | _,_=>false
def rEq:R2:=fun x y H Q=>scal x y=true/\Q (.bl (decide (x=y))) H
def rNe:R2:=fun x y H Q=>scal x y=true/\Q (.bl (!decide (x=y))) H
theorem zlG{i j:Int}:decide (V.int i=V.int j)=(i == j):=by
 rw[e9];simp
theorem zou{i j:Bool}:decide (V.bl i=V.bl j)=(i == j):=by
 rw[e9];simp
theorem zlF{i j:Str}:decide (V.str i=V.str j)=(i == j):=by
 rw[e9];simp
theorem zlH{i j:Array UInt8}:decide (V.byt i=V.byt j)=(i.toList == j.toList):=by
 rw[e9];cases i;cases j;simp
section
variable{X:Cx}{a b c:aO}{ta tb tc:TE}{pos:Pos}
theorem Jt{pins:qO}{σ:St}{H:Hp}{s:au}{Q:VK}{k u:Bool}(I:Inv X pins σ H s)(q:Q (.bl k) H)(e:k=u):EP X pins σ Q (.bool u) s:=by
 subst e;exact⟨.bl k,H,I,rfl,q⟩
theorem zu7:OpR X (compareOp .Eq) rEq:=by
 intro pins s σ H x y v u Q I G l h;obtain⟨C,q⟩:=h;cases x with
 | non =>
  cases G;cases y with
  | non=>cases l;exact oY (Jt I q (by simp))
  | bl j=>cases l;exact oZ (Jt I q (by simp))
  | int j=>obtain⟨t',rfl⟩:=l;exact pN (Jt I q (by simp))
  | str j=>obtain⟨t',rfl⟩:=l;exact pO (Jt I q (by simp))
  | _=>exact absurd (show false=true from C) aS
 | bl i =>
  cases G;cases y with
  | non=>cases l;exact o5 (Jt I q (by simp))
  | bl j=>cases l;exact eq_bool (Jt I q zou)
  | str j=>obtain⟨t',rfl⟩:=l;exact o6 (Jt I q (by simp))
  | _=>exact absurd (show false=true from C) aS
 | int i =>
  obtain⟨t,rfl⟩:=G;cases y with
  | non=>cases l;exact pP (Jt I q (by simp))
  | int j=>obtain⟨t',rfl⟩:=l;exact eq_int (Jt I q zlG)
  | str j=>obtain⟨t',rfl⟩:=l;exact pQ (Jt I q (by simp))
  | _=>exact absurd (show false=true from C) aS
 | str i =>
  obtain⟨t,rfl⟩:=G;cases y with
  | non=>cases l;exact pR (Jt I q (by simp))
  | bl j=>cases l;exact o7 (Jt I q (by simp))
  | int j=>obtain⟨t',rfl⟩:=l;exact pS (Jt I q (by simp))
  | str j=>obtain⟨t',rfl⟩:=l;exact eq_str (Jt I q zlF)
  | _=>exact absurd (show false=true from C) aS
 | byt i =>
  obtain⟨t,rfl⟩:=G;cases y with
  | byt j=>obtain⟨t',rfl⟩:=l;exact PySem.W.eq_bytes (Jt I q zlH)
  | _=>exact absurd (show false=true from C) aS
 | _=>cases y <;> exact absurd (show false=true from C) aS
theorem zu5:OpR X (compareOp .NotEq) rNe:=by
 intro pins s σ H x y v u Q I G l h;obtain⟨C,q⟩:=h;cases x with
 | non =>
  cases G;cases y with
  | non=>cases l;exact o8 (Jt I q (by simp))
  | bl j=>cases l;exact o9 (Jt I q (by simp))
  | int j=>obtain⟨t',rfl⟩:=l;exact pT (Jt I q (by simp))
  | str j=>obtain⟨t',rfl⟩:=l;exact pU (Jt I q (by simp))
  | _=>exact absurd (show false=true from C) aS
 | bl i =>
  cases G;cases y with
  | non=>cases l;exact pd (Jt I q (by simp))
  | bl j=>cases l;exact ne_bool (Jt I q (congrArg not zou))
  | str j=>obtain⟨t',rfl⟩:=l;exact pf (Jt I q (by simp))
  | _=>exact absurd (show false=true from C) aS
 | int i =>
  obtain⟨t,rfl⟩:=G;cases y with
  | non=>cases l;exact pV (Jt I q (by simp))
  | int j=>obtain⟨t',rfl⟩:=l;exact ne_int (Jt I q (congrArg not zlG))
  | str j=>obtain⟨t',rfl⟩:=l;exact pW (Jt I q (by simp))
  | _=>exact absurd (show false=true from C) aS
 | str i =>
  obtain⟨t,rfl⟩:=G;cases y with
  | non=>cases l;exact pX (Jt I q (by simp))
  | bl j=>cases l;exact ph (Jt I q (by simp))
  | int j=>obtain⟨t',rfl⟩:=l;exact pY (Jt I q (by simp))
  | str j=>obtain⟨t',rfl⟩:=l;exact ne_str (Jt I q (congrArg not zlF))
  | _=>exact absurd (show false=true from C) aS
 | byt i =>
  obtain⟨t,rfl⟩:=G;cases y with
  | byt j=>obtain⟨t',rfl⟩:=l;exact PySem.W.ne_bytes (Jt I q (congrArg not zlH))
  | _=>exact absurd (show false=true from C) aS
 | _=>cases y <;> exact absurd (show false=true from C) aS
theorem zrH:OpR X (compareOp .Lt) (rI0 fun i j=>.bl (decide (i<j))):=opB0 fun _ _ _ _ _ _ _ q=>lt_int q
theorem zu6:OpR X (compareOp .LtE) (rI0 fun i j=>.bl (decide (i<=j))):=opB0 fun _ _ _ _ _ _ _ q=>le_int q
theorem QX:OpR X (compareOp .Gt) (rI0 fun i j=>.bl (decide (j<i))):=opB0 fun _ _ _ _ _ _ _ q=>gt_int q
theorem zo8:OpR X (compareOp .GtE) (rI0 fun i j=>.bl (decide (j<=i))):=opB0 fun _ _ _ _ _ _ _ q=>ge_int q
theorem zkN:OpR X (compareOp .Lt) (fun x y H Q=>∃i j,x=.str i/\y=.str j/\Q (.bl (decide (i.cps.toList<j.cps.toList))) H):=by
 intro pins s σ H x y v u Q I G C h;obtain⟨i,j,rfl,rfl,q⟩:=h;obtain⟨t,rfl⟩:=G;obtain⟨t',rfl⟩:=C;exact lt_str (Jt I q rfl)
theorem zrI:OpR X (compareOp .Is) (fun x y H Q=>y=.non/\Q (.bl (decide (x=.non))) H):=by
 intro pins s σ H x y v u Q I C G h;obtain⟨rfl,q⟩:=h;cases G;refine is_none_gen (Jt I q ?_);cases x <;> first
  | (cases C;rfl)
  | (obtain⟨t,rfl⟩:=C;rfl)
theorem OpR.or{f:ah->ah->Sem ah}{r C:R2}(h:OpR X f r)(h':OpR X f C):OpR X f (fun x y H Q=>r x y H Q\/C x y H Q):=by
 intro pins s σ H x y v u Q I G l q;rcases q with q|q
 ·exact h pins s σ H x y v u Q I G l q
 ·exact h' pins s σ H x y v u Q I G l q
theorem Jh(b:aO){op:nI}(h:op≠.In:=by decide)(u:op≠.NotIn:=by decide):behindInMarks op b=false:=by
 have l:(op == CmpOp.In)=false:=by cases op <;> first|rfl|exact absurd rfl h
 have v:(op == CmpOp.NotIn)=false:=by cases op <;> first|rfl|exact absurd rfl u
 cases b <;> simp[behindInMarks,l,v]
theorem zkH{op:nI}{r:R2}(J:OpR X (compareOp op) r)(U:PE X a ta)(N:PE X b tb)(L:behindInMarks op b=false):PE X (.Compare a [op] [b] pos) (tOp r ta tb):=by
 intro pins s σ H Q I h;exact wpAny_Compare1 (binT U N I h fun v u s2 x y S R G l q=>J pins s2 σ S x y v u Q R G l q) L
def zqE(t:TE):TT:=fun σ H Q=>t σ H fun x u=>∃k,x=.bl k/\Q k u
theorem zhA{op:nI}{r:R2}(L:OpR X (compareOp op) r)(ha:PE X a ta)(Z:PE X b tb)(S:behindInMarks op b=false):PT X (.Compare a [op] [b] pos) (zqE (tOp r ta tb)):=by
 intro pins s σ H Q I h;refine kW (thn (ha pins s σ H _ I h) fun v s1 ⟨x,R,N,U,q1⟩=>thn (Z pins s1 σ R _ N q1) fun u s2 ⟨y,H2,I2,J,Y⟩ =>
  thn (L pins s2 σ H2 x y v u _ I2 U J Y) fun c s3 ⟨z,H3,I3,l,k,e,G⟩=>?_) S
 subst e;cases l;exact bq ⟨H3,I3,G⟩
def zoa(r I:R2)(ta tb tc:TE):TE:=fun σ H Q=>ta σ H fun x C=>tb σ C fun y G=>r x y G fun z u=>∃k,z=.bl k /\
 (if k=true then tc σ u fun v J=>I y v J Q else Q (.bl false) u)
theorem zm1{op G:nI}{r U:R2}(ho:OpR X (compareOp op) r)(J:OpR X (compareOp G) U)(ha:PE X a ta)(hb:PE X b tb)(hc:PE X c tc)
  (hm:lastMarks [op,G] [b,c]=false:=by with_unfolding_all rfl):PE X (.Compare a [op,G] [b,c] pos) (zoa r U ta tb tc):=by
 intro pins s σ H Q I h;refine Compare_chain (thn (ha pins s σ H _ I h) fun v s1 ⟨x,H1,I1,r1,q1⟩=>chain_link (thn (hb pins s1 σ H1 _ I1 q1) fun u s2 ⟨y,H2,I2,N,q2⟩ =>
  thn (ho pins s2 σ H2 x y v u _ I2 r1 N q2) fun d s3 ⟨z,R,S,Y,k,e,L⟩=>?_)) hm
 subst e;cases Y;refine bq ?_;cases k with
 | false=>exact ite_ff ⟨.bl false,R,S,rfl,L⟩
 | true=>exact ite_tt (chain_last (thn (hc pins s3 σ R _ S L) fun w' s4 ⟨z',H4,Z,r4,q4⟩=>J pins s4 σ H4 y z' u w' Q Z N r4 q4))
theorem zmS{op l:nI}{r S:R2}(ho:OpR X (compareOp op) r)(G:OpR X (compareOp l) S)(ha:PE X a ta)(hb:PE X b tb)(hc:PE X c tc)
  (hm:lastMarks [op,l] [b,c]=false:=by with_unfolding_all rfl):PT X (.Compare a [op,l] [b,c] pos) (zqE (zoa r S ta tb tc)):=by
 intro pins s σ H Q I h;refine isTrue_chain (thn (ha pins s σ H _ I h) fun v s1 ⟨x,H1,I1,r1,q1⟩=>test_link (thn (hb pins s1 σ H1 _ I1 q1) fun u s2 ⟨y,H2,I2,L,q2⟩ =>
  thn (ho pins s2 σ H2 x y v u _ I2 r1 L q2) fun d s3 ⟨z,N,R,U,k,e,J⟩=>?_)) hm
 subst e;cases U;refine bq ?_;cases k with
 | false =>
  obtain⟨k',e',q'⟩:=J;cases e';exact ite_ff ⟨N,R,q'⟩
 | true =>
  refine ite_tt (test_last (thn (hc pins s3 σ N _ R J) fun w' s4 ⟨z',Z,Y,r4,q4⟩=>thn (G pins s4 σ Z y z' u w' _ Y L r4 q4) fun d' s5 ⟨z2,H5,I5,r5,k2,e2,q5⟩=>?_))
  subst e2;cases r5;exact bq ⟨H5,I5,q5⟩
def TruV(K:qF)(x:V)(H:Hp)(k:Bool):Prop :=
 match x with
 | .non=>k=false
 | .bl b=>k=b
 | .int i=>k=(i != 0)
 | .str y=>y.length<=sizeLine/\k=((y.length:Int) != 0)
 | .byt y=>y.size<=sizeLine/\k=((y.size:Int) != 0)
 | .ref p=>(∃xs,SqL K H p xs/\k=!xs.isEmpty)\/(∃xs,SqT K H p xs/\k=!xs.isEmpty)\/∃u,H p=some (.dK u)/\k=!u.isEmpty
 | _=>False
theorem zjL{u:Type}{l:List (u×V)}{v:List (u×ah)}(r:KV l v):(!v.isEmpty)=!l.isEmpty:=by
 cases r <;> rfl
theorem ze1{xs:List V}{l:List ah}(r:Vals xs l):(!l.toArray.isEmpty)=!xs.isEmpty:=by
 cases r <;> simp
theorem UH:(sizeLine:Nat)<2 ^ 63:=by rw[kZ];decide
theorem zn9:TruR X (fun x H Q=>∃k,TruV X.K x H k/\Q k H):=by
 intro pins s σ H x v Q I J h;obtain⟨k,e,q⟩:=h;have Y:=UH;have Z:sizeLine=16777216:=kZ;cases x with
 | non =>
  cases J;have u:k=false:=e;subst u;exact truthy_none ⟨H,I,q⟩
 | bl b =>
  cases J;have u:k=b:=e;subst u;exact bq ⟨H,I,q⟩
 | int i =>
  obtain⟨t,rfl⟩:=J;have u:k=(i != 0):=e;subst u;exact PySem.P.truthy_int ⟨H,I,q⟩
 | str y =>
  obtain⟨t,rfl⟩:=J;obtain⟨U,u⟩:y.length<=sizeLine/\k=((y.length:Int) != 0):=e;subst u;exact PySem.P.truthy_str (by lia) ⟨H,I.tok _,q⟩
 | byt y =>
  obtain⟨t,rfl⟩:=J;obtain⟨U,u⟩:y.size<=sizeLine/\k=((y.size:Int) != 0):=e;subst u;exact PySem.W.truthy_bytes (by lia) ⟨H,I.tok _,q⟩
 | ref p =>
  cases J;have u:(∃xs,SqL X.K H p xs/\k=!xs.isEmpty)\/(∃xs,SqT X.K H p xs/\k=!xs.isEmpty)\/∃C,H p=some (.dK C)/\k=!C.isEmpty:=e;rcases u with⟨xs,hx,u⟩|⟨xs,hx,u⟩|⟨C,hx,u⟩
  ·subst u;obtain⟨N,r,pl,R⟩:=I.list hx;have G:=r.length;exact wpAny_truthy_list pl.isList (by simp only[ax];lia) ⟨H,I.tok _,by rw[ze1 r];exact q⟩
  ·subst u;obtain⟨N,r,pl,R⟩:=I.tuple hx;have G:=r.length;exact truthy_tuple pl (by simp only[ax];lia) ⟨H,I.tok _,by rw[ze1 r];exact q⟩
  ·subst u;obtain⟨R,S,L,r,m⟩:C.length<=sizeLine/\(p == sysModules)=false/\∃L,KV C L/\s.heap.DictOf (YW X.prog X.w) p L:=I.hok p _ hx;have G:C.length=L.length:=lR r;exact wpAny_truthy_dict S m (by lia) ⟨H,I.tok _,by rw[zjL r];exact q⟩
 | _=>exact(show False from e).elim
theorem zmR(J:PE X a ta)(L:∀whole,isTrue a X.env whole=(do let v <- whole;standAt a.pos;holding [v] (truthy v))) :
  PT X a (fun σ H Q=>ta σ H fun x l=>∃k,TruV X.K x l k/\Q k l):=by
 intro pins s σ H Q I h;exact isTrue_plain (thn (J pins s σ H _ I h) fun v s1 ⟨x,y,u,C,G⟩=>zn9 pins s1 σ y x v Q u C G) (L _)
theorem zjw:OpR X (binaryOp .Add) (fun x y H Q=>∃i j,x=.str i/\y=.str j/\i.length+j.length<=sizeLine/\Q (.str (i++j)) H):=by
 intro pins s σ H x y v u Q I C l h;obtain⟨i,j,rfl,rfl,G,q⟩:=h;obtain⟨t,rfl⟩:=C;obtain⟨t',rfl⟩:=l;exact add_str (fun t' tk=>⟨.str (i++j),H,I.tok _,⟨_,rfl⟩,q⟩) G
theorem vals1{x:V}{l:List ah}(r:Vals [x] l):∃u,l=[u]/\RelV x u:=by
 cases r with
 | cons v y=>cases y;exact⟨_,rfl,v⟩
theorem vals2{x y:V}{v:List ah}(r:Vals [x,y] v):∃u l,v=[u,l]/\RelV x u/\RelV y l:=by
 cases r with
 | cons C I =>
  cases I with
  | cons G J=>cases J;exact⟨_,_,rfl,C,G⟩
theorem VB(hc:X.calm=true):JN X (.builtin "max") (fun xs H Q=>∃i j,xs=[.int i,.int j]/\Q (.int (if j > i then j else i)) H):=by
 intro pins s σ H xs x Q I r h;obtain⟨i,j,rfl,q⟩:=h;obtain⟨u,v,rfl,⟨t,rfl⟩,⟨t',rfl⟩⟩:=vals2 r;refine max_two_ints (I.ok.hd hc) fun h' tk k=>⟨_,H,I.kept k,?_,q⟩
 by_cases hj:j > i
 ·rw[if_pos hj,if_pos hj];exact⟨_,rfl⟩
 ·rw[if_neg hj,if_neg hj];exact⟨_,rfl⟩
theorem Y6(hc:X.calm=true):JN X (.builtin "min") (fun xs H Q=>∃i j,xs=[.int i,.int j]/\Q (.int (if j<i then j else i)) H):=by
 intro pins s σ H xs x Q I r h;obtain⟨i,j,rfl,q⟩:=h;obtain⟨u,v,rfl,⟨t,rfl⟩,⟨t',rfl⟩⟩:=vals2 r;refine min_two_ints (I.ok.hd hc) fun h' tk k=>⟨_,H,I.kept k,?_,q⟩
 by_cases hj:j<i
 ·rw[if_pos hj,if_pos hj];exact⟨_,rfl⟩
 ·rw[if_neg hj,if_neg hj];exact⟨_,rfl⟩
theorem Y5:JN X (.type "int") (fun xs H Q=>(∃i,xs=[.int i]/\Q (.int i) H)\/∃k,xs=[.bl k]/\Q (.int (if k then 1 else 0)) H):=by
 intro pins s σ H xs x Q I r h;rcases h with⟨i,rfl,q⟩|⟨k,rfl,q⟩
 ·obtain⟨u,rfl,t,rfl⟩:=vals1 r;exact call_int_int ⟨.int i,H,I,⟨_,rfl⟩,q⟩
 ·obtain⟨u,rfl,v⟩:=vals1 r;cases v;exact call_int_bool ⟨.int (if k then 1 else 0),H,I.tok _,⟨_,rfl⟩,q⟩
def LenV(K:qF)(x:V)(H:Hp)(n:Nat):Prop :=
 match x with
 | .str y=>y.length<=sizeLine/\n=y.length
 | .byt y=>y.size<=sizeLine/\n=y.size
 | .ref p=>(∃xs,SqL K H p xs/\n=xs.length)\/∃xs,SqT K H p xs/\n=xs.length
 | _=>False
theorem Ur:JN X (.builtin "len") (fun xs H Q=>∃x n,xs=[x]/\LenV X.K x H n/\Q (.int n) H):=by
 intro pins s σ H xs U Q I r h;obtain⟨x,n,rfl,e,q⟩:=h;obtain⟨u,rfl,J⟩:=vals1 r;have S:=UH;have Y:sizeLine=16777216:=kZ;cases x with
 | str y =>
  obtain⟨t,rfl⟩:=J;obtain⟨N,C⟩:y.length<=sizeLine/\n=y.length:=e;subst C;exact len_str (by lia) ⟨.int _,H,I.tok _,⟨_,rfl⟩,q⟩
 | byt y =>
  obtain⟨t,rfl⟩:=J;obtain⟨N,C⟩:y.size<=sizeLine/\n=y.size:=e;subst C;exact PySem.W.len_bytes (by lia) ⟨.int _,H,I.tok _,⟨_,rfl⟩,q⟩
 | ref p =>
  cases J;have C:(∃xs,SqL X.K H p xs/\n=xs.length)\/∃xs,SqT X.K H p xs/\n=xs.length:=e;rcases C with⟨xs,hx,C⟩|⟨xs,hx,C⟩
  ·subst C;obtain⟨G,L,pl,R⟩:=I.list hx;have v:=L.length;exact lL pl.isList (by simp only[ax];lia) ⟨.int xs.length,H,I.tok _,⟨_,by simp only[ax];rw[v]⟩,q⟩
  ·subst C;obtain⟨G,L,pl,R⟩:=I.tuple hx;have v:=L.length;exact len_tuple pl (by simp only[ax];lia) ⟨.int xs.length,H,I.tok _,⟨_,by simp only[ax];rw[v]⟩,q⟩
 | _=>exact(show False from e).elim
end
structure ObjM(h:aN)(x dx C:ak)(mA:qM):Prop where
 obj:h.get? x=some (kQ C dx)
 ns:h.Ns1 dx mA
 ne:dx≠x
theorem zk9{h:aN}{x:ak}{u:qM}(n:h.Ns1 x u):∃v,h.get? x=some v/\∀name,k8 name v=some (u name):=by
 obtain⟨o,C,R,G,hd,I,_,J⟩:=n;refine⟨o,G,fun name=>?_⟩
 have e:=J name;unfold nsFind findBy at e;rw[<- Array.find?_toList]at e;unfold k8;rw[hd];dsimp only;split
 ·rename_i y q;rw[q]at e;exact congrArg some e
 ·rename_i q;rw[q]at e;have a:C.toList.any (·.refKey)=false:=by
   rw[mD];intro y N;obtain⟨z,t,l⟩:=I y (Array.mem_toList_iff.mp N);simp[DictEntry.refKey,l]
  have L:¬C.toList.any (·.refKey)=true:=by rw[a];exact aS
  rw[if_neg L];exact congrArg some e
theorem ObjM.look{h:aN}{x u C:ak}{v:qM}(I:ObjM h x u C v):∃l,PySem.W.InstAt h x (kQ C u) C (some l)/\∀name,k8 name l=some (v name) :=
 let ⟨l,ho,hl⟩:=zk9 I.ns
 ⟨l,⟨I.obj,rfl,rfl,ho⟩,hl⟩
section
variable{P:aG}{w:aP}{H H':Hp}{h h':aN}{a C dx:ak}{fs fs':List (Str×V)}
theorem zpC(hok:HOk P w H h)(e:H a=some (.ins C dx fs)):∃l,ObjM h a dx C l/\(∀f,RelO (fs.lookup f) (l f))/\sr l (fs.map (·.1))/\fs.length<=1000/\H dx=some (.own a):=by
 obtain⟨d,z,ne,u,l,n,r,q⟩:=(show JL P w H h a (.ins C dx fs) from hok a _ e)
 exact⟨l,⟨u,n,ne⟩,r,q,z,d⟩
end
structure Cls(K:qF)(C:ak):Prop where
 pg:m8 K C iB=true
 hd:PySem.W.hasDictIn K C=true
 po:PySem.W.plainOver K C=true
 sa:ot K (.ref C) "__setattr__" = some (some (.builtin "object.__setattr__"))
theorem Cls.get{K:qF}{C:ak}(c:Cls K C)(f:Str):m8 K C f=true:=c.pg
section
variable{X:Cx}{pins:qO}{σ:St}{H:Hp}{s:au}{A:bo}{E:qV}{Q:qV}{c:ah}{b:Bool}
inductive TyOf (K:qF)(H:Hp):V->ah->Prop where
 | non:TyOf K H .non (.type "NoneType")
 | bl (x:Bool):TyOf K H (.bl x) (.type "bool")
 | int (i:Int):TyOf K H (.int i) (.type "int")
 | str (x:Str):TyOf K H (.str x) (.type "str")
 | flt (x:UInt64):TyOf K H (.flt x) (.type "float")
 | lst {a:ak} {xs:List V} (e:H a=some (.lst xs)):TyOf K H (.ref a) (.type "list")
 | frz {a:ak} {o:Obj} {xs:List V} (e:H a=some (.frz o (.lst xs))):TyOf K H (.ref a) (.type "list")
 | tup {a:ak} {xs:List V} (e:H a=some (.tup xs)):TyOf K H (.ref a) (.type "tuple")
 | dK {a:ak} {kvs:List (Key×V)} (e:H a=some (.dK kvs)):TyOf K H (.ref a) (.type "dict")
 | dT {a:ak} {kvs:List (List Key×V)} (e:H a=some (.dT kvs)):TyOf K H (.ref a) (.type "dict")
 | ins {a C dx:ak} {fs:List (Str×V)} (e:H a=some (.ins C dx fs)) (cl:Cls K C) (ha:ot K (.ref C) "__class__" = some (some (.builtin "object.__class__")))
   (hn:PySem.W.specialIn K (.builtin "object.__class__") "__get__" = some (some (.builtin "getset_descriptor.__get__"))) (htk:PySem.W.takesIn K (.builtin "object.__class__")=some true)
   (hm:PySem.W.mroIn K C (.type "object")=some true):TyOf K H (.ref a) (.ref C)
theorem zlk{x:V}{u t:ah}(I:Inv X pins σ H s)(v:RelV x u)(ty:TyOf X.K H x t)(e:ou X.K t c=some b)(h:∀tk,Q (.bool b) { s with toks:=tk }) :
  wpAny (model X.prog X.w) A (call (.builtin "isinstance") [u,c]) Q E s:=by
 cases ty with
 | non=>cases(show u=iC from v);exact bu PySem.W.kitx_none I.kIn kD e (fun z=>nomatch z) h
 | bl y=>cases(show u=dS y from v);exact bu PySem.W.kitx_bool I.kIn kD e (fun z=>nomatch z) h
 | int i=>obtain⟨t,q⟩:=(show ∃t,u=rL i t from v);cases q;exact bu PySem.W.kitx_int I.kIn kD e (fun z=>nomatch z) h
 | str y=>obtain⟨t,q⟩:=(show ∃t,u=iA y t from v);cases q;exact bu PySem.W.kitx_str I.kIn kD e (fun z=>nomatch z) h
 | flt y=>obtain⟨t,q⟩:=(show ∃t,u=t5 y t from v);cases q;exact bu PySem.W.kitx_float I.kIn kD e (fun z=>nomatch z) h
 | @lst a xs ea =>
  cases(show u=bT a from v)
  obtain⟨_,_,n,_,G⟩:=(show JL X.prog X.w H s.heap a (.lst xs) from I.hok a _ ea)
  exact bu mE I.kIn ⟨_,G,rfl⟩ e (fun z=>nomatch z) h
 | @frz a ob xs ea =>
  cases(show u=bT a from v)
  obtain⟨_,_,_,n,_,G⟩:=(show JL X.prog X.w H s.heap a (.frz ob (.lst xs)) from I.hok a _ ea)
  exact bu mE I.kIn ⟨_,G,rfl⟩ e (fun z=>nomatch z) h
 | @tup a xs ea =>
  cases(show u=bT a from v)
  obtain⟨_,_,_,p⟩:=(show JL X.prog X.w H s.heap a (.tup xs) from I.hok a _ ea)
  obtain⟨o,G,L,_⟩:=p;exact bu lX I.kIn ⟨o,G,L⟩ e (fun z=>nomatch z) h
 | @dK a kvs ea =>
  cases(show u=bT a from v)
  obtain⟨_,_,S,_,p⟩:=(show JL X.prog X.w H s.heap a (.dK kvs) from I.hok a _ ea)
  obtain⟨o,R,N,G,L,_⟩:=p;exact bu eE I.kIn ⟨o,G,L.1⟩ e (fun z=>nomatch z) h
 | @dT a kvs ea =>
  cases(show u=bT a from v)
  obtain⟨_,_,xs,_,o,R,N,G,L,_⟩:=(show JL X.prog X.w H s.heap a (.dT kvs) from I.hok a _ ea)
  exact bu eE I.kIn ⟨o,G,L.1⟩ e (fun z=>nomatch z) h
 | @ins a C dx fs ea cl ha hn htk hm =>
  cases(show u=bT a from v)
  obtain⟨U,O,_⟩:=zpC I.hok ea;obtain⟨Y,J,_⟩:=O.look;exact bu (PySem.W.kitx_own (cl.get _) cl.hd ha hn htk hm) I.kIn J e (fun z=>nomatch z) h
end
structure Room(k:Nat)(A:bo):Prop where
 hd:A.handled=none
 dp:A.depth+3*k+5<recursionLimit
 un:A.units+16*k+200<cLine
 gd:A.guards=some []
theorem Room.mono{j k:Nat}{A:bo}(r:Room k A)(h:j<=k):Room j A:=⟨r.hd,by have:=r.dp;lia,by have:=r.un;lia,r.gd⟩
theorem Room.deeper{k:Nat}{A:bo}(r:Room (k+1) A)(env:Env):Room k (A.deeper env) :=
 ⟨r.hd,by have:=r.dp;show A.depth+1+3*k+5<_;lia,by have:=r.un;show A.units+3+16*k+200<_;lia,r.gd⟩
theorem Room.depth{k:Nat}{A:bo}(r:Room k A):A.depth<recursionLimit:=by have:=r.dp;lia
theorem Room.units{k:Nat}{A:bo}(r:Room k A):A.units+64<cLine:=by have:=r.un;lia
theorem Room.units0{k:Nat}{A:bo}(r:Room k A):A.units<cLine:=by have:=r.un;lia
def tNil:TA:=fun _ H Q=>Q [] H
def QE(l:TE)(v:TA):TA:=fun σ H Q=>l σ H fun x u=>v σ u fun xs y=>Q (x::xs) y
section
variable{X:Cx}{e:aO}{es:List aO}{te:TE}{t:TA}{pos:Pos}
theorem Uo:PA X [] tNil:=fun _ _ _ _ H Q I h=>Calls.spliced_nil ⟨[],H,I,.nil,h⟩
theorem QH(U:PE X e te)(C:PA X es t)(S:starEach (e::es) X.env=(false,eval e X.env)::starEach es X.env:=by rfl):PA X (e::es) (QE te t):=by
 intro pos pins s σ H Q I h;rw[S];show wpAny _ _ (spliced ((false,eval e X.env)::backTo pos (starEach es X.env))) _ _ s
 refine Calls.spliced_cons (thn (U pins s σ H _ I h) fun u s1 ⟨x,y,v,G,L⟩=>?_)
 exact thn (C pos pins s1 σ y _ v L) fun Y s2 ⟨xs,R,N,l,J⟩=>⟨x::xs,R,N,.cons G l,J⟩
def tTup(t:TA):TE:=fun σ H Q=>t σ H fun xs l=>xs.length<=sizeLine/\∀p,l p=none->Q (.ref p) (upd l p (.tup xs))
def tLst(t:TA):TE:=fun σ H Q=>t σ H fun xs u=>xs.length<=sizeLine/\∀p,u p=none->Q (.ref p) (upd u p (.lst xs))
theorem zoj{x1}(h:PA X es t):PE X (.Tuple es x1 pos) (tTup t):=by
 intro pins s σ H Q I y;refine wpAny_Tuple_spliced (thn (h pos pins s σ H _ I y) fun C s1 ⟨xs,x,v,r,z,q⟩=>⟨by rw[<- r.length];exact z,?_⟩)
 have hf:x s1.heap.objs.size=none:=v.hok.fresh (az _);refine⟨.ref s1.heap.objs.size,upd x s1.heap.objs.size (.tup xs),v.laid (t':=s1.toks) (fun b u e=>aq _ e) (az _) ?_,rfl,q _ hf⟩
 exact⟨z,C,r,⟨_,ay _ rfl,rfl,⟨_,rfl⟩,rfl⟩⟩
theorem zrv(h:PA X es t):PE X (.List es pos) (tLst t):=by
 intro pins s σ H Q I y;refine wpAny_List_spliced (thn (h pos pins s σ H _ I y) fun C s1 ⟨xs,x,v,r,z,q⟩=>⟨by rw[<- r.length];exact z,?_⟩)
 have hf:x s1.heap.objs.size=none:=v.hok.fresh (az _);refine⟨.ref s1.heap.objs.size,upd x s1.heap.objs.size (.lst xs),v.laid (t':=s1.toks) (fun b u e=>aq _ e) (az _) ?_,rfl,q _ hf⟩
 exact⟨z,C,0,r,ay _ rfl⟩
end
abbrev Sp:=List V->Hp->VK->XK->Prop
abbrev CXT:=List Env->Hp->au->XK->ah->au->Prop
structure Env0(P:aG)(w:aP)(K:qF)(mg:qM)(base:aN)(A:bo)(outer:List Env)(s:au)(H:Hp):Prop where
 frames:A.frames=some outer
 mod:Mod K mg base
 bs:∀b o,base.get? b=some o->s.heap.get? b=some o/\H b=none
 bsz:base.objs.size<=s.heap.objs.size
 funs:s.heap.FunFrames base outer
 frf:∀b∈frs outer,H b=none
 hok:HOk P w H s.heap
 bare:gV s.gens
def CE(outer:List Env)(P:aG)(w:aP)(H:Hp)(s:au)(Q:VK)(u:ah)(s':au):Prop :=
 ∃v l,s'.os=s.os/\gV s'.gens/\Un (frs outer) [] H l s.heap s'.heap/\HOk P w l s'.heap/\RelV v u/\Q v l
def CR(l:CXT)(outer:List Env)(P:aG)(w:aP)(H:Hp)(s:au)(Q:VK)(E:XK)(r:lY)(s':au):Prop :=
 match r with
 | .ok (.ret u)=>CE outer P w H s Q u s'
 | .ok _=>False
 | .error e=>l outer H s E e s'
structure FnOk(P:aG)(w:aP)(K:qF)(mg:qM)(base:aN)(CX:CXT)(k:Nat)(f:ak)(fd:cD)(ps:List Str)(sp:Sp):Prop where
 len:∀vs H Q E,sp vs H Q E->vs.length=ps.length
 run:∀(A:bo) (outer:List Env) (s:au) (H:Hp) (args:Args) (us:List ah) (vs:List V) (Q:VK) (E:XK),Room k A->Env0 P w K mg base A outer s H->oj s fd args (ps.zip us)->Vals vs us->sp vs H Q E ->
  codeAny (model P w) A (.call (.ref f) args) (CR CX outer P w H s Q E) s
theorem FnOk.imp{P:aG}{w:aP}{K:qF}{mg:qM}{base:aN}{v:CXT}{k:Nat}{f:ak}{fd:cD}{ps:List Str}{x u:Sp}(F:FnOk P w K mg base v k f fd ps x)
  (h:∀l H Q E,u l H Q E->x l H Q E):FnOk P w K mg base v k f fd ps u :=
 ⟨fun l H Q E q=>F.len l H Q E (h _ _ _ _ q),fun A outer s H args I l Q E y L G C J=>F.run A outer s H args I l Q E y L G C (h _ _ _ _ J)⟩
section
variable{X:Cx}{pins:qO}{σ:St}{H:Hp}{s s':au}
theorem Inv.env0(I:Inv X pins σ H s):Env0 X.prog X.w X.K X.mg X.base X.A X.stack s H :=
 ⟨I.ok.frames,I.ok.mod,I.bs,bG I.ok.bsz I.sz,I.stack,I.stkFree,I.hok,I.bare⟩
theorem Inv.after{Q:VK}{u:ah}(I:Inv X pins σ H s)(h:CE X.stack X.prog X.w H s Q u s'):EP X pins σ Q u s':=by
 obtain⟨v,x,os,bare,un,hok,r,q⟩:=h;obtain⟨y,g,d,t,l⟩:=s';obtain rfl:l=s.os:=os;exact⟨v,x,I.call (h':=y) (g':=g) (d':=d) (t':=t) (ch:=[]) un hok bare (fun b z=>absurd z (by simp)),r,q⟩
end
def zqH(v:Sp)(l:List V)(E:XK)(t:TA):TE:=fun σ H Q=>t σ H fun u x=>v (u++l) x Q E
def Binds(K:qF)(fd:cD)(ps:List Str)(ds:List ah):Prop :=
 ∀(s:au) (u:List ah),K.In s.heap->(u++ds).length=ps.length->oj s fd ⟨u,[]⟩ (ps.zip (u++ds))
theorem Binds.all{K:qF}{fd:cD}{ps:List Str}(h:∀l:List ah,l.length=ps.length->bindArgs fd ⟨l,[]⟩=pure (ps.zip l)):Binds K fd ps []:=fun s l _ u=>by
 rw[bM]at u ⊢;exact .of_eq (h l u)
def Zv(l:CXT)(X:Cx)(E:XK):Prop:=∀(pins:qO) (σ:St) (H:Hp) (s:au) (e:ah) (s':au),Inv X pins σ H s->l X.stack H s E e s'->X.xe e s'
section
variable{X:Cx}{CX:CXT}{k:Nat}{f C:ak}{fd:cD}{ps:List Str}{sp:Sp}{dvs:List V}{ds:List ah}{E:XK}{x m:Str}{p pos apos:Pos}{e o:aO}{es:List aO}{ta:TE}{t:TA}
theorem zoe{pins:qO}{σ:St}{H:Hp}{s:au}{Q:VK}{v:List ah}{G:List V}(F:FnOk X.prog X.w X.K X.mg X.base CX k f fd ps sp)(L:Room k X.A)(N:Binds X.K fd ps ds)(hd:Vals dvs ds)(hx:Zv CX X E)
  (I:Inv X pins σ H s) (r:Vals G v) (h:sp (G++dvs) H Q E):wpAny (model X.prog X.w) X.A (call (.ref f) v) (EP X pins σ Q) X.xe s:=by
 have J:Vals (G++dvs) (v++ds):=r.append hd;have R:(v++ds).length=ps.length:=by rw[<- J.length];exact F.len _ _ _ _ h
 refine lZ (gp (F.run X.A X.stack s H ⟨v,[]⟩ (v++ds) (G++dvs) Q E L I.env0 (N s v I.kIn R) J h) fun r s' y=>?_)
 cases r with
 | error e=>exact hx pins σ H s e s' I y
 | ok fl =>
  cases fl with
  | ret u=>exact I.after y
  | next=>exact bY y
  | brk=>exact bY y
  | cont=>exact bY y
theorem zoZ(F:FnOk X.prog X.w X.K X.mg X.base CX k f fd ps sp)(J:Room k X.A)(S:Gl X x)(R:X.mg x=some (.ref f))(L:gq X.K (.ref f)=true)(U:Binds X.K fd ps ds)(hd:Vals dvs ds)(hx:Zv CX X E)
  (Z:PA X (e::es) t) (u:(x == ("__debug__":Str))=false:=by decide) (Y:starEach (e::es) X.env=(false,eval e X.env)::starEach es X.env:=by rfl) (v:(backTo pos (starEach es X.env)).any (·.1)=false:=by rfl) :
  PE X (.Call (.Name x p) (e::es) [] pos) (zqH sp dvs E t):=by
 intro pins s σ H Q I h;refine eZ (UM I S R ?_ u);refine iF (h₀:=X.base) I.ok.mod.kin L (thn (Z pos pins s σ H _ I h) fun us s1 ⟨vs,H1,G,r,q⟩=>⟨G.kIn,?_⟩) Y v
 exact zoe F J U hd hx G r q
end
structure Q8(N P:List Str)(sc:eU):Prop where
 kind:sc.kind=.function
 co:sc.isCoroutine=false
 gen:sc.isGenerator=false
 nd:N.Nodup
 pre:N.take P.length=P
 par:∀x∈P,sc.names.lookup x=some .local\/sc.names.lookup x=some .cell
 nofree:∀y∈sc.names,y.2≠.free
theorem zho{kindOf:Str->Option dU}{x:Str}:∀{binds:List (Str×ah)}{m:qM},(∀v,(x,v)∉binds)->bindL kindOf binds m x=m x
 | [],_,_=>rfl
 | (n,v)::r,m,h=>by
  unfold bindL;rw[zho fun w hw=>h w (cy _ hw)]
  split
  ·have:x≠n:=by rintro rfl;exact h v cL
   simp[this]
  ·rfl
theorem zhq{kindOf:Str->Option dU}{x:Str}:∀{binds:List (Str×ah)}{m:qM},(∀v,(x,v)∉binds)->bindC kindOf binds m x=m x
 | [],_,_=>rfl
 | (n,v)::r,m,h=>by
  unfold bindC;rw[zhq fun w hw=>h w (cy _ hw)]
  split
  ·rfl
  ·have:x≠n:=by rintro rfl;exact h v cL
   simp[this]
theorem zhp{kindOf:Str->Option dU}{x:Str}{v:ah}:∀{P:List Str}{u:List ah}{i:Nat}{m:qM},P.Nodup->P[i]?=some x->u[i]?=some v->kindOf x=some .local ->
  bindL kindOf (P.zip u) m x=some v
 | [],_,_,_,_,h,_,_=>by simp at h
 | _::_,[],_,_,_,_,h,_=>by simp at h
 | p::P,w::u,0,m,nd,h1,h2,hk=>by
  simp at h1 h2;subst h1;subst h2;show bindL kindOf ((p,w)::P.zip u) m p=_
  unfold bindL;rw[zho fun v y=>(eh.mp nd).1 (cV y).1,if_pos hk]
  simp
 | p::P,w::u,i+1,m,nd,h1,h2,hk=>by
  show bindL kindOf ((p,w)::P.zip u) m x=_
  unfold bindL;exact zhp (i:=i) (eh.mp nd).2 (by simpa using h1) (by simpa using h2) hk
theorem zhr{kindOf:Str->Option dU}{x:Str}{v:ah}:∀{P:List Str}{u:List ah}{i:Nat}{m:qM},P.Nodup->P[i]?=some x->u[i]?=some v->kindOf x≠some .local ->
  bindC kindOf (P.zip u) m x=some v
 | [],_,_,_,_,h,_,_=>by simp at h
 | _::_,[],_,_,_,_,h,_=>by simp at h
 | p::P,w::u,0,m,nd,h1,h2,hk=>by
  simp at h1 h2;subst h1;subst h2;show bindC kindOf ((p,w)::P.zip u) m p=_
  unfold bindC;rw[zhq fun v y=>(eh.mp nd).1 (cV y).1,if_neg hk]
  simp
 | p::P,w::u,i+1,m,nd,h1,h2,hk=>by
  show bindC kindOf ((p,w)::P.zip u) m x=_
  unfold bindC;exact zhr (i:=i) (eh.mp nd).2 (by simpa using h1) (by simpa using h2) hk
def start(N:List Str)(l:List V):St:=l.map some++bE (N.length - l.length) none
def cxOf(u:CXT)(P:aG)(w:aP)(K:qF)(mg:qM)(base:aN)(N:List Str)(qual:Str)(scope:eU)(f:ak)(cd:ah)(A:bo)(outer:List Env)(s:au)(H:Hp)(E:XK):Cx where
 prog:=P
 w:=w
 K:=K
 mg:=mg
 base:=base
 A:=A.deeper (envOfC qual scope s.heap.objs.size f cd)
 N:=N
 s₀:=s
 H₀:=H
 env:=envOfC qual scope s.heap.objs.size f cd
 outer:=outer
 stack:=envOfC qual scope s.heap.objs.size f cd::outer
 ex:=[]
 calm:=true
 fn:=fun _=>true
 pn:=[]
 xe:=fun e s'=>wpAny (model P w) (A.deeper (envOfC qual scope s.heap.objs.size f cd)) (leaving (envOfC qual scope s.heap.objs.size f cd) e) (fun _ l=>u outer H s E e l) (fun v l=>u outer H s E v l) s'
theorem zjg{sc:eU}{n:Nat}{x:Str}(h:sc.names.lookup x=some .cell):∃c,(cellsFrom n sc.names []).lookup x=some c:=by
 have q:=kE sc.names n [] (.inl h);exact i8.mp q
theorem zlm{CX:CXT}{P:aG}{w:aP}{K:qF}{mg:qM}{base:aN}{N ps:List Str}{qual:Str}{scope:eU}{f:ak}{cd:ah}{A:bo}{outer:List Env}{s s1:au}{H:Hp}{E:XK}{Z:List ah}{I:List V}
  (S:Q8 N ps scope) (hd:A.handled=none) (G:Env0 P w K mg base A outer s H) (hl:I.length=ps.length) (r:Vals I Z)
  (x:InCallC s s.heap.objs.size (bindL (envOfC qual scope s.heap.objs.size f cd).kindOf (ps.zip Z) fun _=>none) (cellsFrom (s.heap.objs.size+1) scope.names []) (bindC (envOfC qual scope s.heap.objs.size f cd).kindOf (ps.zip Z) fun _=>none) s1) :
  Inv (cxOf CX P w K mg base N qual scope f cd A outer s H E) [] (start N I) H s1:=by
 have hpl:ps.length<=N.length:=by have:=congrArg cM S.pre;rw[dM]at this;lia
 obtain⟨Y,tk,rfl,hk⟩:=x.done;have L:∀b:ak,b∉(cxOf CX P w K mg base N qual scope f cd A outer s H E).ex:=fun b z=>absurd (show b∈([]:List ak) from z) (by simp)
 refine⟨⟨G.mod,S.kind,rfl,rfl,az _,fun y z c Y C=>?_,fun y J=>?_,fun y c _ h=>?_,fun _=>hd,Around.frames_deeper G.frames,.inr ⟨rfl,rfl⟩,fun b z=>absurd z (L b),G.bs,G.bsz,fun b _ _=>L b,fun b z=>absurd z (L b),G.funs,G.frf⟩,
  rfl,G.bare,Un.kept hk,⟨_,x.toInCall.ns,fun i y v Y C h3=>?_⟩,fun y c h=>⟨_,x.cell y c h⟩,G.hok.fresh (az _),fun y c h=>?_,fun p R=>absurd (show p∈([]:qO) from R) (by simp),G.hok.kept hk,?_⟩
 ·exact name_of_addr x.apart (eN Y) (eN C)
 ·have J:scope.names.lookup y=some .cell\/scope.names.lookup y=some .free:=J;rcases J with J|J
  ·exact zjg J
  ·exact absurd rfl (S.nofree _ (eN J))
 ·exact mw (x.above y c (eN h))
 ·have hi:i<I.length:=by
   unfold start at C
   by_cases hi:i<I.length
   ·exact hi
   ·rw[cz (by simpa using hi)]at C
    rw[dB]at C;split at C <;> cases C
  have ha:I[i]?=some v:=by
   unfold start at C;rw[cc (by simpa using hi),aU]at C
   cases e:I[i]? with
   | none=>rw[e]at C;cases C
   | some a=>rw[e]at C;cases C;rfl
  obtain⟨u,hu,rv⟩:=r.get ha;have R:ps[i]?=some y:=by
   rw[<- S.pre,List.getElem?_take_of_lt (by lia)];exact Y
  have U:ps.Nodup:=by rw[<- S.pre];exact S.nd.sublist (mF _ _)
  refine⟨u,rv,?_⟩;rcases S.par y (aV R) with k|k
  ·exact .inl ⟨k,zhp U R hu k⟩
  ·obtain⟨c,e⟩:=zjg (n:=s.heap.objs.size+1) k;refine .inr ⟨.inl k,c,e,?_⟩;have q:=x.cell y c e;rw[zhr U R hu (by show scope.names.lookup y≠_;rw[k];decide)]at q
   exact q
 ·exact G.hok.fresh (mw (x.above y c (eN h)))
 ·unfold start;show _=N.length
  rw[bw,aL,gM];lia
theorem ztb{Z:CXT}{P:aG}{w:aP}{K:qF}{mg:qM}{base:aN}{k:Nat}{f:ak}{name qual:Str}{params:Arguments}{body:List cT}{scope:eU}{dV kV doc pm C ct oc:ah}{an od:Option ak}
  {osl:Array (Option ah)} {N ps:List Str} {sp:Sp} (lk:K.lookup f=some ⟨oc,od,.func (cQ name qual params body scope dV kV doc pm an C ct),osl⟩) (hcd:gr K C qual=true) (S:Q8 N ps scope)
  (len:∀G H Q E,sp G H Q E->G.length=ps.length)
  (HX:∀(A:bo) (outer:List Env) (s:au) (H:Hp) (G:List V) (Q:VK) (E:XK),Room k (A.deeper (envOfC qual scope s.heap.objs.size f C))->sp G H Q E ->
   ∃t,PSs (cxOf Z P w K mg base N qual scope f C A outer s H E) body t/\t { nx:=fun _ L=>Q .non L,rt:=Q } (start N G) H) :
  FnOk P w K mg base Z (k+1) f (cQ name qual params body scope dV kV doc pm an C ct) ps sp:=by
 refine⟨len,fun A outer s H args us G Q E hr U hb r Y=>?_⟩
 have hl:=len _ _ _ _ Y;have KX:K.In s.heap:=U.mod.kin.keeps fun b o e=>(U.bs b o e).1
 have lim:s.heap.NoLimit:=U.mod.nolimit.keeps fun b o e=>(U.bs b o e).1
 have HR:∀y∈ps.zip us,scope.names.lookup y.1=some .local\/(scope.names.lookup y.1=some .cell/\((cellsFrom (s.heap.objs.size+1) scope.names []).lookup y.1).isSome=true):=fun⟨n,v⟩ hy=>by
  rcases S.par n (cV hy).1 with q|q
  ·exact .inl q
  ·exact .inr ⟨q,kE _ _ _ (.inl q)⟩
 refine codeAny_call_function hr.depth (KX _ _ lk) rfl S.co S.gen rfl (PySem.W.codeRec_of KX hcd) (hb _ _ _ _ ?_);refine wpAny_newFunctionEnv_cells S.kind HR fun env he s1 x=>?_
 subst he;refine⟨lim.keeps x.toInCall.keep,codeAny_func ?_⟩;obtain⟨t,ht,hq⟩:=HX A outer s H G Q E (hr.deeper _) Y;have I:Inv (cxOf Z P w K mg base N qual scope f C A outer s H E) [] (start N G) H s1:=zlm S hr.hd U hl r x;refine cE (ht [] s1 (start N G) H _ I hq) (fun fl s' R=>?_) fun e s' R=>R
 have fin:∀{σ':St} {L:Hp} {v:V} {u:ah},Inv (cxOf Z P w K mg base N qual scope f C A outer s H E) [] σ' L s'->RelV v u->Q v L->CE outer P w H s Q u s' :=
  fun {σ' L v u} J rv q=>⟨v,L,J.os,J.bare,J.base,J.hok,rv,q⟩
 cases fl with
 | ret u =>
  obtain⟨v,σ',L,J,rv,q⟩:=R;exact fin J rv q
 | next =>
  obtain⟨σ',L,J,q⟩:=R;exact fin (v:=V.non) (u:=iC) J rfl q
 | brk =>
  obtain⟨_,_,_,q⟩:=R;exact bY q
 | cont =>
  obtain⟨_,_,_,q⟩:=R;exact bY q
section
variable{X:Cx}{x:Str}{p pos:Pos}{e:aO}{es:List aO}{t:TA}{id T:String}{r:List V->Hp->VK->Prop}
def tCB(r:List V->Hp->VK->Prop)(t:TA):TE:=fun σ H Q=>t σ H fun l u=>r l u Q
theorem zm3(hc:JN X (.builtin id) r)(Y:Gl X x)(U:X.mg x=none)(S:bootBuiltins x=some (.builtin id))(ha:PA X (e::es) t)(hn:x ≠ "__name__":=by decide) (v:(x == ("__debug__":Str))=false:=by decide)
  (he:starEach (e::es) X.env=(false,eval e X.env)::starEach es X.env:=by rfl) (G:(backTo pos (starEach es X.env)).any (·.1)=false:=by rfl):PE X (.Call (.Name x p) (e::es) [] pos) (tCB r t):=by
 intro pins s σ H Q I h;refine eZ (YN I Y U S ?_ hn v);exact m9 (thn (ha pos pins s σ H _ I h) fun us s1 ⟨J,L,R,Z,q1⟩=>hc pins s1 σ L J us Q R Z q1) he G
theorem zkI(hc:JN X (.type T) r)(U:Gl X x)(S:X.mg x=none)(R:bootBuiltins x=some (.type T))(ha:PA X (e::es) t)(hn:x ≠ "__name__":=by decide) (u:(x == ("__debug__":Str))=false:=by decide)
  (he:starEach (e::es) X.env=(false,eval e X.env)::starEach es X.env:=by rfl) (v:(backTo pos (starEach es X.env)).any (·.1)=false:=by rfl):PE X (.Call (.Name x p) (e::es) [] pos) (tCB r t):=by
 intro pins s σ H Q I h;refine eZ (YN I U S R ?_ hn u);exact ft (thn (ha pos pins s σ H _ I h) fun Z s1 ⟨G,J,L,Y,q1⟩=>hc pins s1 σ J G Z Q L Y q1) he v
end
end L2
namespace HT
open PySem PyProof.Rows
def lexLt:List Int->List Int->Bool
 | [],[]=>false
 | [],_::_=>true
 | _::_,[]=>false
 | x::xs,y::ys=>if x=y then lexLt xs ys else decide (x<y)
theorem zjJ(x y:Int)(xs ys:List Int):lexLt (x::xs) (y::ys)=if x=y then lexLt xs ys else decide (x<y):=rfl
theorem zfB:lexLt [] []=false:=rfl
theorem zeI(y:Int)(ys:List Int):lexLt [] (y::ys)=true:=rfl
theorem zeJ(x:Int)(xs:List Int):lexLt (x::xs) []=false:=rfl
theorem znQ(A:bo)(s:au)(a:Int)(t:Tok)(c:Int)(u:Tok):∃e,l5 A s (.int a t) (.int c u) e/\(e=true↔a=c) :=
 ⟨(a == c),iG a t c u,by simp⟩
theorem zmP(A:bo)(s:au)(a:Int)(t:Tok)(c:Int)(u:Tok)(prog:aG)(w:aP)(E:qV)(Q:qV)(h:Q (.bool (decide (a<c))) s) :
  wpAny (model prog w) A (richCompare .Lt (.int a t) (.int c u)) Q E s :=
 (uZ h:wpAny (model prog w) A (compareOp .Lt (.int a t) (.int c u)) Q E s)
section
open PySem.SeqAt
open PySem.AutoSeq1 (wpAny_loadPart')
open PySem.MeetsSeq PySem.MeetsSeq2 PySem.MeetsSeq3
theorem zfi(l b:ak)(items Y:Array ah)(n n2:Nat)(dd dd2:Option ak)(sl sl2:Array (Option ah))(ns ms:List Int)(hi:fG items.toList ns)(hj:fG Y.toList ms) :
  Meets (fH.«tuple.__lt__» ⟨[.ref l,.ref b],[]⟩)
   (fun _ R s=>s.heap.get? l=some { cls:=.type "tuple",dict:=dd,data:=.seq items n,slots:=sl }/\s.heap.get? b=some { cls:=.type "tuple",dict:=dd2,data:=.seq Y n2,slots:=sl2 } /\
    R (.ok (.ret (.bool (lexLt ns ms)))) s) :=
 .of_wp fun prog w A R s h=>by
  obtain⟨hp,g,d,tk,os⟩:=s;obtain⟨hl,hb,h⟩:=h;have f2:=AutoSeq1.sub_tuple_tuple;have z1:items.size=ns.length:=by rw[<- hi.length];simp
  have z2:Y.size=ms.length:=by rw[<- hj.length];simp
  wp_walk using nT hl,nT hb,wpAny_forIn_list _ (fun rest b s'=>b.1=none/\s'=⟨hp,g,d,tk,os⟩/\∃(vs ws:List ah) (C G:List Int),rest=vs.zip ws /\
   fG vs C/\fG ws G/\C.length+Y.size=G.length+items.size/\R (.ok (.ret (.bool (lexLt C G)))) ⟨hp,g,d,tk,os⟩) _
  case turn =>
   rintro⟨y,x⟩ rest b s' ⟨S,rfl,vs,ws,C,G,J,U,I,v,N⟩;cases U with
   | nil=>rw[mG]at J;cases J
   | cons a t Z =>
    cases I with
    | nil=>rw[List.zip_nil_right]at J;cases J
    | cons c u hwi' =>
     rw[iH]at J
     injection J with hyx hrest
     injection hyx with hy hx
     subst hy hx;rw[zjJ]at N;simp only[aR]at v;obtain⟨e,he,L⟩:=znQ A.in1 ⟨hp,g,d,tk,os⟩ a t c u;refine aa (he prog w _ _ ?_);cases e with
     | true =>
      rw[if_pos (L.mp rfl)]at N
      wp_walk
      exact⟨rfl,rfl,_,_,_,_,hrest,Z,hwi',by lia,N⟩
     | false =>
      rw[if_neg (fun q=>absurd (L.mpr q) aS)]at N
      have hri:=zmP A.in1 ⟨hp,g,d,tk,os⟩ a t c u prog w
      wp_walk using hri
      exact⟨_,rfl,by simpa using N⟩
  case fin =>
   rintro⟨b1,b2⟩ s' ⟨S,rfl,vs,ws,C,G,J,U,I,v,N⟩;simp only at S;subst S;have hv:lexLt C G=decide (items.size<Y.size):=by
    cases U with
    | nil =>
     cases I with
     | nil =>
      simp only[cK]at v;rw[zfB];exact(decide_eq_false (by lia)).symm
     | cons c u hw =>
      simp only[cK,aR]at v;rw[zeI];exact(decide_eq_true (by lia)).symm
    | cons a t hv =>
     cases I with
     | nil =>
      simp only[cK,aR]at v;rw[zeJ];exact(decide_eq_false (by lia)).symm
     | cons c u hw =>
      rw[iH]at J;cases J
   rw[hv]at N
   wp_walk
   exact⟨_,rfl,by simpa[m6] using N⟩
  case h =>
   exact⟨rfl,rfl,items.toList,Y.toList,ns,ms,rfl,hi,hj,by lia,h⟩
end
section
variable{prog:aG}{w:aP}{A:bo}{E:qV}{s:au}
theorem zcZ{l b:ak}{items I:Array ah}{ns u:List Int}{Q:qV}(Z:mn s.heap l items)(Y:mn s.heap b I)(hi:fG items.toList ns)(hj:fG I.toList u)
  (U:A.units<cLine) (h:Q (.bool (lexLt ns u)) s):wpAny (model prog w) A (compareOp .Lt (.ref l) (.ref b)) Q E s:=by
 obtain⟨⟨cls,dd,data,S⟩,J,hc,n,hd⟩:=id Z;obtain⟨⟨N,C,data2,G⟩,y,v,R,hd2⟩:=id Y;simp only at hc hd v hd2;subst hc hd v hd2;exact richCompare_meets_room (op:=.Lt) ⟨_,J,rfl⟩ ⟨_,y,rfl⟩ PySem.F.slot_tuple_lt PySem.F.entry_tuple_lt (PySem.F.args_tuple_lt_2 _ _) (zfi l b items I n R dd C S G ns u hi hj)
  ⟨J,y,show dS (lexLt ns u)≠Value.notImplemented/\Q (.bool (lexLt ns u)) s from⟨(fun x=>nomatch x),h⟩⟩ U
theorem zqg{t b:ak}{v l:List ah}{Q:qV}(S:mn s.heap t v.toArray)(Z:mn s.heap b l.toArray)(L:v≠[])
  (U:l=[]->Q (.ref t) s) (Y:l≠[]->Q (.ref s.heap.objs.size) { s with heap:=s.heap.push { cls:=.type "tuple",data:=.seq (v++l).toArray } })
  (hsz:v.length+l.length<=sizeLine):wpAny (model prog w) A (binaryOp .Add (.ref t) (.ref b)) Q E s:=by
 obtain⟨⟨cls,dd,data,N⟩,I,hc,n,hd⟩:=id S;obtain⟨⟨R,x,data2,C⟩,u,G,J,hd2⟩:=id Z;simp only at hc hd G hd2;subst hc hd G hd2;have e:v.toArray++l.toArray=(v++l).toArray:=by simp
 by_cases hw:l=[]
 ·exact mH ⟨_,I,rfl⟩ ⟨_,u,rfl⟩ ki lS gu gh (fT _ _)
   (tuple_addW1 t b v.toArray l.toArray n J dd x N C (by simpa using L) (by simp[hw])) ⟨I,u,U hw⟩
 ·refine mH ⟨_,I,rfl⟩ ⟨_,u,rfl⟩ ki lS gu gh (fT _ _)
   (tuple_addW2 t b v.toArray l.toArray n J dd x N C (by simpa using L) (by simpa using hw) (by rw[ax,ax];exact hsz)) ⟨I,u,?_⟩
  rw[e];exact Y hw
def sIx(n d:Nat):Option Int->Nat
 | none=>d
 | some v=>if v<0 then(v+(n:Int)).toNat else min v.toNat n
theorem zdy(n d:Nat):sIx n d none=d:=rfl
theorem zhz(n d k:Nat):sIx n d (some (k:Int))=min k n:=by
 show(if (k:Int)<0 then((k:Int)+(n:Int)).toNat else min (k:Int).toNat n)=min k n
 rw[if_neg (by lia),dD]
theorem zq4(n d:Nat)(hd:d<=n)(o:Option Int):sIx n d o<=n:=by
 cases o with
 | none=>exact hd
 | some v =>
  show(if v<0 then(v+(n:Int)).toNat else min v.toNat n)<=n
  by_cases hv:v<0
  ·rw[if_pos hv];lia
  ·rw[if_neg hv];exact Nat.min_le_right _ _
theorem zlY(v:Int)(n d:Nat):(if v<0 then max (v+(n:Int)) 0 else min v (n:Int))=((sIx n d (some v):Nat):Int):=by
 show(if v<0 then max (v+(n:Int)) 0 else min v (n:Int))=(((if v<0 then(v+(n:Int)).toNat else min v.toNat n):Nat):Int)
 by_cases hv:v<0
 ·simp only[if_pos hv];lia
 ·simp only[if_neg hv];lia
theorem zjX(lo hi:Option Int)(n:Nat):fN lo hi 1 (n:Int)=(((sIx n 0 lo:Nat):Int),((sIx n n hi:Nat):Int)):=by
 have l:¬((1:Int)<0):=by lia
 unfold fN;simp only[l,if_false];refine fU ?_ ?_
 ·cases lo with
  | none=>rfl
  | some v=>exact zlY v n 0
 ·cases hi with
  | none=>rfl
  | some v=>exact zlY v n n
theorem zjv(i j:Nat):dZ (i:Int) (j:Int) 1=j - i:=by
 unfold dZ;have l:(1:Int) > 0:=by lia
 simp only[l,if_true,Int.ediv_one];split <;> lia
theorem zeQ{v:ah}{o:Option Int}{Q:Option Int->au->Prop}(p:i9 v o)(h:Q o s):wpAny (model prog w) A (nU v) Q E s:=by
 cases p with
 | none=>exact oz h
 | int i t=>exact slicePart_int h
theorem zbQ{C:ak}{y v:ah}{lo hi:Option Int}{n:Nat}{Q:Int×Int×Nat->au->Prop}(G:s.heap.IsSliceOf C y v .none)(pl:i9 y lo)(J:i9 v hi)
  (h:Q (((sIx n 0 lo:Nat):Int),1,sIx n n hi - sIx n 0 lo) s):wpAny (model prog w) A (iI (.ref C) (pure (n:Int))) Q E s:=by
 obtain⟨os,l,I,u⟩:=id G;unfold iI pE;refine aa (aa (cG l u (x:=y) rfl (aa (cG l u (x:=v) rfl (aa (cG l u (x:=.none) rfl (aj ?_)))))));refine aa (oz ?_);show wpAny _ _ (if ((1:Int) == 0)=true then _ else _) _ _ s
 rw[if_neg (by decide)]
 refine aa (zeQ pl (aa (zeQ J (aa (aj ?_)))));show wpAny _ _ (match fN lo hi 1 (n:Int) with|(lo,hi)=>pure (lo,(1:Int),dZ lo hi 1)) _ _ s
 rw[zjX lo hi n];show wpAny _ _ (pure (((sIx n 0 lo:Nat):Int),(1:Int),dZ ((sIx n 0 lo:Nat):Int) ((sIx n n hi:Nat):Int) 1)) _ _ s
 rw[zjv];exact aj h
theorem zmY(xs:Array ah)(i k:Nat):((eX k).filterMap fun(m:Nat)=>xs[((i:Int)+(m:Int)*1).toNat]?).toArray=((xs.toList.drop i).take k).toArray:=by
 have e:(fun(m:Nat)=>xs[((i:Int)+(m:Int)*1).toNat]?)=fun m=>xs[i+m]?:=by
  funext m
  have:((i:Int)+(m:Int)*1).toNat=i+m:=by lia
  rw[this]
 rw[e];have:=ug xs i k;rw[List.filterMap_map]at this;have u:((fun x=>xs[x]?)∘fun x=>i+x)=fun m=>xs[i+m]?:=rfl
 rw[u]at this;rw[this]
theorem zc1{t G:ak}{items:Array ah}{J L:ah}{lo hi:Option Int}{Q:qV}(l:mn s.heap t items)(N:s.heap.IsSliceOf G J L .none)(pl:i9 J lo)(R:i9 L hi)
  (hw:¬(sIx items.size 0 lo=0/\sIx items.size items.size hi=items.size))
  (h:Q (.ref s.heap.objs.size) { s with heap:=s.heap.push { cls:=.type "tuple",data:=.seq ((items.toList.drop (sIx items.size 0 lo)).take (sIx items.size items.size hi - sIx items.size 0 lo)).toArray } })
  (hsz:items.size<=sizeLine):wpAny (model prog w) A (getItem (.ref t) (.ref G)) Q E s:=by
 have u:sizeOk (.seq ((items.toList.drop (sIx items.size 0 lo)).take (sIx items.size items.size hi - sIx items.size 0 lo)).toArray):=by
  show((items.toList.drop (sIx items.size 0 lo)).take (sIx items.size items.size hi - sIx items.size 0 lo)).toArray.size<=sizeLine
  rw[ax,dM,dN,dI];lia
 have Z:sIx items.size items.size hi<=items.size:=zq4 _ _ (az _) hi;obtain⟨os,x,v,S⟩:=id N;have C:s.TypeIs (.ref G) "slice":=⟨os,x,v⟩;unfold getItem
 try with_reducible refine bz ?_
 first|refine aa (aj ?_)|skip
 refine aa (mI l.typeIs (by decide) ?_)
 refine aa (dE (name:=ae "__getitem__") l.typeIs bU
  (dO bU l.typeIs lM ?_ (l7 _ _)))
 show wpAny _ _ (iJ (.ref t) >>= _) _ _ s
 refine aa (tupleItemsOf_ l ?_);refine aa (fI C ?_);rw[if_pos (by decide)]
 refine aa (zbQ N pl R ?_);have I:¬((((sIx items.size 0 lo:Nat):Int) == 0&&(1:Int) == 1&&(sIx items.size items.size hi - sIx items.size 0 lo) == items.size)=true):=by
  intro q;rw[aF,aF]at q;have Y:((sIx items.size 0 lo:Nat):Int)=0:=eq_of_beq q.1.1;have U:sIx items.size items.size hi - sIx items.size 0 lo=items.size:=eq_of_beq q.2;exact hw ⟨by lia,by lia⟩
 show wpAny _ _ (if (((sIx items.size 0 lo:Nat):Int) == 0&&(1:Int) == 1&&(sIx items.size items.size hi - sIx items.size 0 lo) == items.size)=true then _ else _) _ _ s
 rw[if_neg I,zmY]
 first
  | exact aa (m:=eJ _) (cF (aj ⟨_,rfl,aj h⟩) u)
  | exact aa (m:=eJ _) (cF (aa (aj (aj ⟨_,rfl,aj h⟩))) u)
  | exact aa (aa (m:=eJ _) (cF (aj (aj ⟨_,rfl,aj h⟩)) u))
  | exact aa (aa (m:=eJ _) (cF (aj ⟨_,rfl,aj h⟩) u))
end
end HT
namespace L2
open PySem PySem.Spec PyProof.Rows
abbrev TO:=St->Hp->(Option Int->Hp->Prop)->Prop
def PO(X:Cx)(e:Option aO)(t:TO):Prop :=
 ∀(pins:qO) (s:au) (σ:St) (H:Hp) (Q:Option Int->Hp->Prop),Inv X pins σ H s->t σ H Q ->
  wpAny (model X.prog X.w) X.A (evalPart e X.env) (fun u s'=>∃o l,Inv X pins σ l s'/\i9 u o/\Q o l) X.xe s
def zoC:TO:=fun _ H Q=>Q none H
def zuk(t:TE):TO:=fun σ H Q=>t σ H fun x l=>∃i,x=.int i/\Q (some i) l
theorem intsAre_of{ns:List Int}:∀{u:List ah},Vals (ns.map V.int) u->fG u ns:=by
 induction ns with
 | nil=>intro u r;rw[gv]at r;cases r;exact .nil
 | cons n ns y =>
  intro u r;rw[cm]at r;cases r with
  | cons v x =>
   obtain⟨t,e⟩:=v;subst e;exact .cons n t (y x)
section
variable{X:Cx}{e:aO}{te:TE}{lo hi:Option aO}{tl th:TO}{pos p2:Pos}
theorem zoT:PO X none zoC:=by
 intro pins s σ H Q I h;rw[evalPart_none];exact aj ⟨none,H,I,.none,h⟩
theorem zoS(h:PE X e te):PO X (some e) (zuk te):=by
 intro pins s σ H Q I hw;rw[evalPart_some];refine thn (h pins s σ H _ I hw) fun u s1 ⟨x,v,l,y,C⟩=>?_
 obtain⟨i,rfl,q⟩:=C;obtain⟨t,rfl⟩:=y;exact⟨some i,v,l,.int i t,q⟩
def SlR(X:Cx)(r:V->Option Int->Option Int->Hp->VK->Prop):Prop :=
 ∀(pins:qO) (s:au) (σ:St) (H:Hp) (x:V) (v G C:ah) (lo hi:Option Int) (I:ak) (Q:VK),Inv X pins σ H s->RelV x v->s.heap.IsSliceOf I G C .none->i9 G lo->i9 C hi->r x lo hi H Q ->
  ∃T id,typeLookup (.type T) "__getitem__" = pure (some (.builtin id))/\s.TypeIs v T/\wpAny (model X.prog X.w) X.A (getItem v (.ref I)) (EP X pins σ Q) X.xe s
theorem SlR.or{r L:V->Option Int->Option Int->Hp->VK->Prop}(h:SlR X r)(h':SlR X L):SlR X (fun x lo hi H Q=>r x lo hi H Q\/L x lo hi H Q):=by
 intro pins s σ H x v u G lo hi C Q I l J pl y q;rcases q with q|q
 ·exact h pins s σ H x v u G lo hi C Q I l J pl y q
 ·exact h' pins s σ H x v u G lo hi C Q I l J pl y q
def tSl(r:V->Option Int->Option Int->Hp->VK->Prop)(te:TE)(tl th:TO):TE:=fun σ H Q=>te σ H fun x v=>tl σ v fun l y=>th σ y fun u C=>r x l u C Q
theorem zis{r:V->Option Int->Option Int->Hp->VK->Prop}(Z:SlR X r)(he:PE X e te)(hl:PO X lo tl)(hu:PO X hi th):PE X (.Subscript e (.Slice lo hi none p2) pos) (tSl r te tl th):=by
 intro pins s σ H Q I h;refine oA (thn (he pins s σ H _ I h) fun v s1 ⟨x,Y,U,r1,q1⟩=>?_)
 refine wpAny_Slice (thn (hl pins s1 σ Y _ U q1) fun C s2 ⟨l,H2,I2,pl,q2⟩=>thn (hu pins s2 σ H2 _ I2 q2) fun G s3 ⟨u,J,I3,pu,R⟩=>?_)
 rw[evalPart_none];refine aj ?_;have L:Inv X pins σ J { s3 with heap:=s3.heap.push { cls:=.type "slice",data:=.fields #[C,G,.none] } }:=I3.kept (t':=s3.toks) fun b ob q=>aq _ q
 obtain⟨T,id,hT,N,hg⟩:=Z pins { s3 with heap:=s3.heap.push { cls:=.type "slice",data:=.fields #[C,G,.none] } } σ J x v C G l u s3.heap.objs.size Q L r1 (vJ ..) pl pu R
 show wpAny (model X.prog X.w) X.A (subscriptTail e (.Slice lo hi none p2) v (.ref s3.heap.objs.size)) (EP X pins σ Q) X.xe { s3 with heap:=s3.heap.push { cls:=.type "slice",data:=.fields #[C,G,.none] } }
 exact tail_any (ops:=[.ref s3.heap.objs.size,v]) N hT hg (by with_unfolding_all rfl)
def cutV(xs:List V)(lo hi:Option Int):List V:=(xs.drop (HT.sIx xs.length 0 lo)).take (HT.sIx xs.length xs.length hi - HT.sIx xs.length 0 lo)
theorem zew(xs:List V)(lo hi:Option Int):(cutV xs lo hi).length<=xs.length:=by
 unfold cutV;rw[dM,dN];lia
def rSlT(K:qF):V->Option Int->Option Int->Hp->VK->Prop:=fun x lo hi H Q=>∃a xs,x=.ref a/\SqT K H a xs /\
 ¬(HT.sIx xs.length 0 lo=0/\HT.sIx xs.length xs.length hi=xs.length)/\∀p,H p=none->Q (.ref p) (upd H p (.tup (cutV xs lo hi)))
theorem zqO:SlR X (rSlT X.K):=by
 intro pins s σ H x v S Y lo hi U Q I J N pl L h;obtain⟨a,xs,rfl,hx,hw,q⟩:=h;cases J;obtain⟨y,r,C,G⟩:=I.tuple hx;have l:y.toArray.size=xs.length:=by rw[ax];exact r.length.symm
 refine⟨"tuple",_,bU.lookup,C.typeIs,?_⟩;refine HT.zc1 C N pl L (by rw[l];exact hw) ?_ (by rw[l];exact G)
 rw[l];refine⟨.ref s.heap.objs.size,_,I.laid (t':=s.toks) (o:=.tup (cutV xs lo hi)) (fun b R q=>aq _ q) (az _) ?_,rfl,q _ (I.hok.fresh (az _))⟩
 exact⟨bG (zew xs lo hi) G,_,(r.drop (HT.sIx xs.length 0 lo)).take (HT.sIx xs.length xs.length hi - HT.sIx xs.length 0 lo),IsTD.new _ _⟩
def rLtT(K:qF):R2:=fun x y H Q=>∃a b ns u,x=.ref a/\y=.ref b/\SqT K H a (ns.map V.int)/\SqT K H b (u.map V.int)/\Q (.bl (HT.lexLt ns u)) H
theorem zrG(U:X.A.units<cLine):OpR X (compareOp .Lt) (rLtT X.K):=by
 intro pins s σ H x y v u Q I R N h;obtain⟨a,b,ns,J,rfl,rfl,ha,hb,q⟩:=h;cases R;cases N;obtain⟨G,Y,p1,_⟩:=I.tuple ha;obtain⟨C,S,p2,_⟩:=I.tuple hb;have Z:fG G.toArray.toList ns:=intsAre_of Y;have i2:fG C.toArray.toList J:=intsAre_of S;exact HT.zcZ p1 p2 Z i2 U ⟨.bl (HT.lexLt ns J),H,I,rfl,q⟩
def zuZ(K:qF):R2:=fun x y H Q=>∃a b xs ys,x=.ref a/\y=.ref b/\SqT K H a xs/\SqT K H b ys/\xs≠[]/\xs.length+ys.length<=sizeLine /\
 (ys=[]->Q (.ref a) H)/\(ys≠[]->∀p,H p=none->Q (.ref p) (upd H p (.tup (xs++ys))))
theorem Vals.nil_iff{xs:List V}{l:List ah}(r:Vals xs l):l=[]↔xs=[]:=by
 cases r with
 | nil=>simp
 | cons _ _=>simp
theorem zo9:OpR X (binaryOp .Add) (zuZ X.K):=by
 intro pins s σ H x y v u Q I R L h;obtain⟨a,b,xs,ys,rfl,rfl,ha,U,hx,J,Z,S⟩:=h;cases R;cases L;obtain⟨N,C,Y,_⟩:=I.tuple ha;obtain⟨G,l,p2,_⟩:=I.tuple U;refine HT.zqg Y p2 (fun z=>hx (C.nil_iff.mp z)) (fun z=>⟨.ref a,H,I,rfl,Z (l.nil_iff.mp z)⟩) (fun z=>?_) (by rw[<- C.length,<- l.length];exact J)
 refine⟨.ref s.heap.objs.size,_,I.laid (t':=s.toks) (o:=.tup (xs++ys)) (fun b ob q=>aq _ q) (az _) ?_,rfl,S (fun w=>z (l.nil_iff.mpr w)) _ (I.hok.fresh (az _))⟩
 exact⟨by rw[bw];exact J,_,C.append l,IsTD.new _ _⟩
end
def ixN(n:Nat)(i:Int):Option Nat:=if 0<=i then(if i<n then some i.toNat else none) else if -(n:Int)<=i then some (i+n).toNat else none
def atI{α:Type}(xs:List α)(i:Int):Option α:=(ixN xs.length i).bind fun j=>xs[j]?
theorem zlj{n:Nat}{i:Int}{j:Nat}(h:ixN n i=some j):seqIndex? i n=some j/\j<n/\-(n:Int)<=i/\i<n:=by
 unfold ixN at h
 by_cases h0:0<=i
 ·rw[if_pos h0]at h
  by_cases h1:i<n
  ·rw[if_pos h1]at h;have e:i.toNat=j:=aJ h;exact⟨by rw[nJ h0 h1,e],by lia,by lia,h1⟩
  ·rw[if_neg h1]at h;cases h
 ·rw[if_neg h0]at h
  by_cases h1:-(n:Int)<=i
  ·rw[if_pos h1]at h;have e:(i+n).toNat=j:=aJ h;exact⟨by rw[mJ (by lia) h1,e],by lia,h1,by lia⟩
  ·rw[if_neg h1]at h;cases h
theorem zh_{α:Type}{xs:List α}{i:Int}{v:α}(h:atI xs i=some v):∃j,seqIndex? i xs.length=some j/\xs[j]?=some v/\j<xs.length/\-(xs.length:Int)<=i/\i<xs.length:=by
 unfold atI at h;cases e:ixN xs.length i with
 | none=>rw[e]at h;cases h
 | some j =>
  rw[e]at h;obtain⟨l,x,u,y⟩:=zlj e;exact⟨j,l,h,x,u,y⟩
theorem zql{α:Type}{xs:List α}{j:Nat}{v:α}(h:xs[j]?=some v):atI xs (j:Int)=some v:=by
 have l:j<xs.length:=(aA.mp h).1;have e:ixN xs.length (j:Int)=some j:=by
  unfold ixN;rw[if_pos (by lia),if_pos (by lia)];simp
 unfold atI;rw[e];exact h
def zme(b:aO):Prop:=∀o i,subscripted b false o i=operate [o,i] (getItem o i)
def IxR(X:Cx)(r:R2):Prop :=
 ∀(value slice:aO) (pins:qO) (s:au) (σ:St) (H:Hp) (x y:V) (v u:ah) (Q:VK),Inv X pins σ H s->RelV x v->RelV y u->r x y H Q ->
  subscripted slice false v u=operate [v,u] (getItem v u)->wpAny (model X.prog X.w) X.A (subscriptTail value slice v u) (EP X pins σ Q) X.xe s
def MtR(X:Cx)(id:String)(r:V->List V->Hp->VK->Prop):Prop :=
 ∀(pins:qO) (s:au) (σ:St) (H:Hp) (x:V) (xs:List V) (v:ah) (y:List ah) (Q:VK),Inv X pins σ H s->RelV x v->Vals xs y->r x xs H Q ->
  wpAny (model X.prog X.w) X.A (call (.builtin id) (v::y)) (EP X pins σ Q) X.xe s
section
variable{X:Cx}{a b:aO}{ta tb:TE}{pos:Pos}
theorem IxR.or{r J:R2}(h:IxR X r)(h':IxR X J):IxR X (fun x y H Q=>r x y H Q\/J x y H Q):=by
 intro value slice pins s σ H x y v u Q I C l q G;rcases q with q|q
 ·exact h value slice pins s σ H x y v u Q I C l q G
 ·exact h' value slice pins s σ H x y v u Q I C l q G
theorem Ug{r:R2}(G:IxR X r)(U:PE X a ta)(J:PE X b tb)(R:zme b):PE X (.Subscript a b pos) (tOp r ta tb):=by
 intro pins s σ H Q I h;exact oA (binT U J I h fun v u s2 x y N L C l q=>G a b pins s2 σ N x y v u Q L C l q (R _ _))
def rIxL(K:qF):R2:=fun x y H Q=>∃p xs i v,x=.ref p/\y=.int i/\SqL K H p xs/\atI xs i=some v/\Q v H
def rIxT(K:qF):R2:=fun x y H Q=>∃p xs i v,x=.ref p/\y=.int i/\SqT K H p xs/\atI xs i=some v/\Q v H
def rIxS:R2:=fun x y H Q=>∃z i c,x=.str z/\y=.int i/\z.length<=sizeLine/\atI z.cps.toList i=some c/\Q (.str ⟨#[c]⟩) H
theorem Uv:IxR X (rIxL X.K):=by
 intro value slice pins s σ H x y v u Q I U S h L;obtain⟨p,xs,i,z,rfl,rfl,Z,he,q⟩:=h;cases U;obtain⟨t,rfl⟩:=S;obtain⟨C,r,pl,hz⟩:=I.list Z;obtain⟨j,l,Y,h3,h4,h5⟩:=zh_ he;obtain⟨w,R,J⟩:=r.get Y;have hl:=r.length;have hn:=UH;have fin:EP X pins σ Q w s:=⟨z,H,I,J,q⟩
 by_cases h0:0<=i
 ·have G:i.toNat=j:=by
   rw[nJ h0 h5]at l;exact aJ l
  exact item_listR pl.isList h0 (by lia) (by rw[G];simpa using R) fin L
 ·have G:(i+(C.toArray.size:Int)).toNat=j:=by
   rw[mJ (by lia) h4]at l
   rw[ax,<- hl];exact aJ l
  exact kF (x:=w) pl.isList.typeIs mK.lookup
   (wpAny_getItem_list_neg (Q:=fun r s'=>r=w/\EP X pins σ Q r s') pl.isList (by lia) (by rw[ax] <;> lia) (by lia) (by rw[G];simpa using R) ⟨rfl,fin⟩) L
theorem zsy:IxR X (rIxT X.K):=by
 intro value slice pins s σ H x y v u Q I J C h U;obtain⟨p,xs,i,z,rfl,rfl,R,Y,q⟩:=h;cases J;obtain⟨t,rfl⟩:=C;obtain⟨G,r,pl,hz⟩:=I.tuple R;obtain⟨j,L,N,h3,h4,h5⟩:=zh_ Y;obtain⟨w,Z,l⟩:=r.get N;have S:=r.length;have hn:=UH;have fin:EP X pins σ Q w s:=⟨z,H,I,l,q⟩;exact kF (x:=w) pl.typeIs slot_tuple_getitem.lookup
  (getItem_tuple (j:=j) (Q:=fun r s'=>r=w/\EP X pins σ Q r s') pl (by lia) (by lia) (by rw[ax,<- S];exact L) (by simpa using Z) ⟨rfl,fin⟩) U
theorem zsz:IxR X rIxS:=by
 intro value slice pins s σ H x y v u Q I G C h S;obtain⟨z,i,c,rfl,rfl,hz,Y,q⟩:=h;obtain⟨t,rfl⟩:=G;obtain⟨t',rfl⟩:=C;obtain⟨j,l,J,h3,N,U⟩:=zh_ Y;have L:z.cps.toList.length=z.length:=by simp[kG]
 rw[L]at l N U;have hn:=UH;exact tail_any (oB s z t) slot_str_getitem.lookup (getItem_str (c:=c) (by
  have R:decide (i < -(2 ^ 63:Int))=false:=decide_eq_false (by lia)
  have Z:decide (i>=2 ^ 63)=false:=decide_eq_false (by lia)
  rw[R,Z,Bool.or_false]) (by rw[l];simpa using J) ⟨.str ⟨#[c]⟩,H,I.tok _,⟨_,rfl⟩,q⟩) S
def rIx(K:qF):R2:=fun x y H Q=>rIxL K x y H Q\/rIxT K x y H Q\/rIxS x y H Q
theorem zsA:IxR X (rIx X.K):=Uv.or (zsy.or zsz)
theorem zjI(l:List ah)(n j:Nat)(u:ah):eK (·.setIfInBounds j u) { cls:=.type "list",data:=.seq l.toArray n }={ cls:=.type "list",data:=.seq (l.set j u).toArray n }:=by
 simp[eK]
theorem Inv.lst{pins:qO}{σ:St}{H:Hp}{s:au}{p:ak}{xs:List V}(I:Inv X pins σ H s)(h:H p=some (.lst xs)) :
  ∃(u:List ah) (n:Nat),Vals xs u/\s.heap.get? p=some { cls:=.type "list",data:=.seq u.toArray n }/\xs.length<=sizeLine:=by
 obtain⟨z,u,n,r,e⟩:=I.hok p _ h;exact⟨u,n,r,e,z⟩
theorem Inv.lstUpd{pins:qO}{σ:St}{H:Hp}{s:au}{p:ak}{xs ys:List V}{v its':List ah}{n C:Nat}{f:Obj->Obj}(I:Inv X pins σ H s)(h:H p=some (.lst xs))
  (G:s.heap.get? p=some { cls:=.type "list",data:=.seq v.toArray n }) (hf:f { cls:=.type "list",data:=.seq v.toArray n }={ cls:=.type "list",data:=.seq its'.toArray C }) (r:Vals ys its') (L:ys.length<=sizeLine) (t:Nat) :
  Inv X pins σ (upd H p (.lst ys)) { s with heap:=s.heap.update p f,toks:=t }:=by
 have e:(s.heap.update p f).get? p=some { cls:=.type "list",data:=.seq its'.toArray C }:=by
  rw[fk f G (by rw[hf] <;> rfl),hf]
 refine I.write (x:=p) (e:=p) (by rw[h];trivial) (.inl rfl) (fun b u J q=>(bP _ _ (gn J)).trans q) ⟨_,e⟩ ?_
 exact⟨L,its',C,r,e⟩
def zuY:V->V->V->Hp->(Hp->Prop)->Prop:=fun o i v H Q=>∃p xs k j,o=.ref p/\i=.int k/\H p=some (.lst xs)/\ixN xs.length k=some j/\Q (upd H p (.lst (xs.set j v)))
theorem set_list:PSet X zuY:=by
 intro pins s σ H o i v ov iv u Q I ro Z Y h;obtain⟨p,xs,k,j,rfl,rfl,L,hj,q⟩:=h;cases ro;obtain⟨t,rfl⟩:=Z;obtain⟨x,n,r,C,hz⟩:=I.lst L;obtain⟨y,h2,S,R⟩:=zlj hj;have J:=r.length;have hn:=UH;have U:Inv X pins σ (upd H p (.lst (xs.set j v))) { s with heap:=s.heap.update p (eK (·.setIfInBounds j u)) } :=
  I.lstUpd L C (zjI x n j u) (r.set Y j) (by rw[fc];exact hz) s.toks
 by_cases h0:0<=k
 ·have G:k.toNat=j:=by
   rw[nJ h0 R]at y;exact aJ y
  exact PySem.W.ki_setAt C h0 (by lia) (by rw[ax,<- J];exact R) (by rw[G];exact⟨_,U,q⟩)
 ·have G:(k+(x.toArray.size:Int)).toNat=j:=by
   rw[mJ (by lia) S]at y
   rw[ax,<- J];exact aJ y
  exact PySem.W.ki_setBack C (by lia) (by rw[ax,<- J];exact S) (by lia) (by rw[G];exact⟨_,U,q⟩)
theorem zf7(lo hi:Option Int)(n:Nat):(sliceBounds lo hi none n).1=((HT.sIx n 0 lo:Nat):Int)/\(sliceBounds lo hi none n).2.1=((HT.sIx n n hi:Nat):Int)/\(sliceBounds lo hi none n).2.2=1:=by
 refine⟨?_,?_,rfl⟩
 ·cases lo with
  | none=>simp[sliceBounds,HT.sIx]
  | some i =>
   simp only[sliceBounds,HT.sIx,nc,show(1:Int) > 0 by decide,if_true]
   by_cases h:i<0
   ·simp only[h,if_true] <;> lia
   ·simp only[h,if_false] <;> lia
 ·cases hi with
  | none=>simp[sliceBounds,HT.sIx]
  | some i =>
   simp only[sliceBounds,HT.sIx,nc,show(1:Int) > 0 by decide,if_true]
   by_cases h:i<0
   ·simp only[h,if_true] <;> lia
   ·simp only[h,if_false] <;> lia
theorem zfk(l:List ah)(lo hi:Option Int):slicePick l.toArray lo hi none=((l.drop (HT.sIx l.length 0 lo)).take (HT.sIx l.length l.length hi - HT.sIx l.length 0 lo)).toArray:=by
 obtain⟨u,x,v⟩:=zf7 lo hi l.toArray.size;unfold slicePick;rw[u,x,v];simp only[oC,ug,ax] <;> rfl
def rSlL(K:qF):V->Option Int->Option Int->Hp->VK->Prop:=fun x lo hi H Q=>∃a xs,x=.ref a/\SqL K H a xs/\∀p,H p=none->Q (.ref p) (upd H p (.lst (cutV xs lo hi)))
theorem zoF:SlR X (rSlL X.K):=by
 intro pins s σ H x v S Y lo hi U Q I G L pl J h;obtain⟨a,xs,rfl,hx,q⟩:=h;cases G;obtain⟨C,r,y,N⟩:=I.list hx;have u:=r.length;refine⟨"list",_,mK.lookup,y.isList.typeIs,?_⟩;refine wpAny_getItem_list_slice y.isList L pl J .none (by simp) ?_ (by rw[ax] <;> lia)
 rw[zfk,<- u];refine⟨.ref s.heap.objs.size,_,I.laid (t':=s.toks) (o:=.lst (cutV xs lo hi)) (fun b R q=>aq _ q) (az _) ?_,rfl,q _ (I.hok.fresh (az _))⟩
 exact⟨bG (zew xs lo hi) N,_,0,(r.drop (HT.sIx xs.length 0 lo)).take (HT.sIx xs.length xs.length hi - HT.sIx xs.length 0 lo),ay _ rfl⟩
theorem zhc:JN X (.builtin "len") (fun xs H Q=>∃p ys,xs=[.ref p]/\(SqL X.K H p ys\/SqT X.K H p ys)/\Q (.int ys.length) H):=by
 intro pins s σ H xs N Q I r h;obtain⟨p,ys,rfl,x,q⟩:=h;obtain⟨u,rfl,G⟩:=vals1 r;cases G;have L:=UH;rcases x with x|x
 ·obtain⟨y,C,pl,J⟩:=I.list x;have v:=C.length;exact lL pl.isList (by simp only[ax] <;> lia) ⟨.int ys.length,H,I.tok _,⟨s.toks+1,by rw[ax,v]⟩,q⟩
 ·obtain⟨y,C,pl,J⟩:=I.tuple x;have v:=C.length;exact len_tuple pl (by simp only[ax] <;> lia) ⟨.int ys.length,H,I.tok _,⟨s.toks+1,by rw[ax,v]⟩,q⟩
theorem Ua:JN X (.type "tuple") (fun xs H Q=>∃p ys,xs=[.ref p]/\((SqL X.K H p ys/\∀l,H l=none->Q (.ref l) (upd H l (.tup ys)))\/(SqT X.K H p ys/\Q (.ref p) H))):=by
 intro pins s σ H xs S Q I r h;obtain⟨p,ys,rfl,h⟩:=h;obtain⟨u,rfl,N⟩:=vals1 r;cases N;rcases h with⟨x,q⟩|⟨x,q⟩
 ·obtain⟨v,C,pl,L⟩:=I.list x;have G:=C.length;refine call_tuple_list pl.isList (fun h' kp=>?_) (by simp only[ax] <;> lia)
  have J:Inv X pins σ H { s with heap:=h' }:=I.kept (t':=s.toks) kp
  have R:Inv X pins σ (upd H h'.objs.size (.tup ys)) { s with heap:=h'.push { cls:=.type "tuple",data:=.seq v.toArray } } :=
   J.laid (t':=s.toks) (fun b o e=>aq _ e) (az _) (show JL X.prog X.w _ _ _ (.tup ys) from⟨L,v,C,IsTD.new _ _⟩)
  exact⟨.ref h'.objs.size,_,R,rfl,q _ (J.hok.fresh (az _))⟩
 ·obtain⟨v,C,pl,L⟩:=I.tuple x;exact call_tuple_same pl ⟨.ref p,H,I,rfl,q⟩
def tyV(K:qF)(T:String)(x:V)(H:Hp):Prop:=match x with
 | .str _=>T = "str"
 | .int _=>T = "int"
 | .ref p=>(T = "list" /\ ∃xs,SqL K H p xs)\/(T = "tuple" /\ ∃o,K.lookup p=some o/\o.cls=.type "tuple" /\ o.dict=none) \/
   (T = "dict" /\ ((∃l,H p=some (.dK l))\/∃l,H p=some (.dT l)))\/(T = "set" /\ ∃S n,H p=some (.set S n))
 | _=>False
theorem zn8{pins:qO}{σ:St}{H:Hp}{s:au}{T:String}{x:V}{v:ah}(I:Inv X pins σ H s)(r:RelV x v)(ty:tyV X.K T x H) :
  s.TypeIs v T/\∀a,v=.ref a->∃C,s.heap.get? a=some C/\C.dict=none:=by
 cases x with
 | str z =>
  obtain⟨t,rfl⟩:=r;cases(show T = "str" from ty)
  exact⟨oB s z t,fun _ e=>nomatch e⟩
 | int i =>
  obtain⟨t,rfl⟩:=r;cases(show T = "int" from ty)
  exact⟨typeIs_int s i t,fun _ e=>nomatch e⟩
 | ref p =>
  cases r;rcases ty with⟨rfl,xs,J⟩|⟨rfl,o,l,hc,hd⟩|⟨rfl,l⟩|⟨rfl,S,n,l⟩
  ·obtain⟨G,_,pl,_⟩:=I.list J;refine⟨pl.isList.typeIs,fun a e=>?_⟩
   cases e;obtain⟨o,n,e,c,hd,_⟩:=pl;exact⟨o,e,hd⟩
  ·refine⟨⟨o,I.kIn p o l,hc⟩,fun a e=>?_⟩
   cases e;exact⟨o,I.kIn _ o l,hd⟩
  ·have z:∃o,s.heap.get? p=some o/\o.ExactDict:=by
    rcases l with⟨u,l⟩|⟨u,l⟩
    ·obtain⟨_,_,_,_,o,_,_,e,ex,_⟩:=I.hok p _ l;exact⟨o,e,ex⟩
    ·obtain⟨_,_,_,_,o,_,_,e,ex,_⟩:=I.hok p _ l;exact⟨o,e,ex⟩
   obtain⟨o,e,ex⟩:=z;refine⟨⟨o,e,ex.1⟩,fun a y=>?_⟩
   cases y;exact⟨o,e,ex.2.1⟩
  ·obtain⟨o,_,_,_,e,ex,_⟩:=I.hok p _ l;refine⟨⟨o,e,ex.1⟩,fun a y=>?_⟩
   cases y;exact⟨o,e,ex.2.1⟩
 | _=>exact bY ty
def tBM0(K:qF)(T:String)(r:V->List V->Hp->VK->Prop)(to:TE):TE:=fun σ H Q=>to σ H fun x l=>tyV K T x l/\r x [] l Q
def tBM(K:qF)(T:String)(r:V->List V->Hp->VK->Prop)(to:TE)(t:TA):TE:=fun σ H Q=>to σ H fun x l=>tyV K T x l/\t σ l fun xs u=>r x xs u Q
variable{o e:aO}{es:List aO}{to:TE}{t:TA}{name:Str}{apos Hq:Pos}{T id:String}{r:V->List V->Hp->VK->Prop}
theorem zrx(pa:PlainAttrs T)(slot:Slot T name id)(G:typeOf (.builtin id)=pure (.type "method_descriptor")) (Z:MtR X id r) (R:PE X o to)
  (N:attributeBase o name X.env (eval o X.env)=eval o X.env:=by rfl) (E8:(apos.endLine == Hq.line)=true:=by rfl):PE X (.Call (.Attribute o name apos) [] [] Hq) (tBM0 X.K T r to):=by
 intro pins s σ H Q I h;refine wpAny_Call_method0_late N E8 (thn (R pins s σ H _ I h) fun v s1 ⟨x,S,J,L,ty,q1⟩=>?_)
 obtain⟨U,Y⟩:=zn8 J L ty;exact⟨T,id,pa,slot,G,U,Y,kH rfl (PySem.evalArgs_none (Z pins s1 σ S x [] v [] Q J L .nil q1))⟩
theorem zo0(pa:PlainAttrs T)(slot:Slot T name id)(G:typeOf (.builtin id)=pure (.type "method_descriptor")) (hm:MtR X id r) (Y:PE X o to) (ha:PA X (e::es) t)
  (R:attributeBase o name X.env (eval o X.env)=eval o X.env:=by rfl)
  (Ib:((backTo Hq (starEach (e::es) X.env)).all (fun x=>!x.1)&&(backToKw Hq (keywordEach [] X.env)).all (fun x=>x.1.isSome)
   && decide ((e::es).length+([]:List sG).length+(if ([]:List sG).isEmpty then 0 else 1)<30))=true:=by rfl)
  (E8:(apos.endLine == Hq.line)=true:=by rfl) (hs:starEach (e::es) X.env=(false,eval e X.env)::starEach es X.env:=by rfl) (U:(backTo Hq (starEach es X.env)).any (·.1)=false:=by rfl) :
  PE X (.Call (.Attribute o name apos) (e::es) [] Hq) (tBM X.K T r to t):=by
 intro pins s σ H Q I h;refine wpAny_Call_method_late R Ib E8 rfl (thn (Y pins s σ H _ I h) fun v s1 ⟨x,H1,J,N,ty,q1⟩=>?_)
 obtain⟨h1,h2⟩:=zn8 J N ty;refine⟨T,id,pa,slot,G,h1,h2,?_⟩;have L:=ha Hq pins s1 σ H1 _ J q1;rw[hs]at L ⊢;refine kH (by show(false||(backTo Hq (starEach es X.env)).any (·.1))=false;rw[U] <;> rfl) (Calls.evalArgs_plain ?_)
 exact thn L fun us s2 ⟨Z,H2,I2,S,q2⟩=>hm pins s2 σ H2 x Z v us Q I2 N S q2
end
def MtM(X:Cx)(id:String)(r:V->List V->Hp->VK->Prop):Prop :=
 ∀(pins:qO) (s:au) (σ:St) (H:Hp) (x:V) (xs:List V) (v:ah) (y:List ah) (Q:VK),Inv X pins σ H s->RelV x v->Vals xs y->r x xs H Q ->
  wpAny (model X.prog X.w) X.A (call (.builtin id) (v::y)) (EP X pins σ Q) X.xe s
theorem Vals.one{x:V}{l:List ah}(h:Vals [x] l):∃u,l=[u]/\RelV x u:=by
 cases h with
 | cons r t=>cases t;exact⟨_,rfl,r⟩
section
variable{X:Cx}{pins:qO}{σ:St}{H:Hp}{s:au}{l b:ak}{xs ys zs:List V}
theorem Inv.lset{v its':List ah}{n:Nat}{f:Array ah->Array ah}{t':Nat}(I:Inv X pins σ H s)(L:H l=some (.lst xs))
  (e:s.heap.get? l=some { cls:=.type "list",data:=.seq v.toArray n }) (hf:f v.toArray=its'.toArray) (J:Vals ys its') (N:ys.length<=sizeLine) :
  Inv X pins σ (upd H l (.lst ys)) { s with heap:=s.heap.update l (eK f),toks:=t' }:=by
 have q:=PySem.IsL.update e f;rw[hf]at q;refine I.write (x:=l) (e:=l) (by rw[L];exact trivial) (.inl rfl) (fun R u G C=>(bP s.heap (eK f) (gn G)).trans C) ⟨_,q⟩ ?_
 exact⟨N,its',_,J,q⟩
theorem Inv.lnew{u:List ah}{t':Nat}(I:Inv X pins σ H s)(v:Vals ys u)(x:ys.length<=sizeLine) :
  Inv X pins σ (upd H s.heap.objs.size (.lst ys)) { s with heap:=s.heap.push { cls:=.type "list",data:=.seq u.toArray },toks:=t' } :=
 I.laid (fun _ _ q=>aq _ q) (az _) ⟨x,u,0,v,ay _ rfl⟩
theorem Inv.fresh(I:Inv X pins σ H s):H s.heap.objs.size=none:=I.hok.fresh (az _)
theorem Inv.lstM(I:Inv X pins σ H s)(v:H l=some (.lst xs)):xs.length<=sizeLine/\∃(u:List ah) (n:Nat),Vals xs u/\xs.length=u.length/\s.heap.get? l=some { cls:=.type "list",data:=.seq u.toArray n }:=by
 obtain⟨z,u,n,r,e⟩:=I.hok l _ v;exact⟨z,u,n,r,r.length,e⟩
end
section
variable{X:Cx}
def zoL:V->List V->Hp->VK->Prop:=fun x u H Q=>∃l xs y,x=.ref l/\u=[y]/\H l=some (.lst xs)/\xs.length<sizeLine/\Q .non (upd H l (.lst (xs++[y])))
theorem zd9:MtM X "list.append" zoL:=by
 intro pins s σ H x R v U Q I J N h;obtain⟨l,xs,y,rfl,rfl,G,Y,q⟩:=h;cases J;obtain⟨u,rfl,L⟩:=N.one;obtain⟨z,C,n,r,S,e⟩:=I.lstM G;refine call_meets F.slot_list_append ⟨_,e,rfl⟩ F.entry_list_append (F.args_list_append_2 _ _) (PySem.list_append l C.toArray n u (by rw[ax];lia)) ⟨e,?_⟩
 refine⟨.non,_,I.lset (its':=C++[u]) G e (by simp) (r.append (.cons L .nil)) ?_,rfl,q⟩
 rw[bw,List.length_singleton];lia
def rCat:R2:=fun x y H Q=>∃l b xs zs,x=.ref l/\y=.ref b/\H l=some (.lst xs)/\H b=some (.lst zs)/\xs.length+zs.length<=sizeLine/\∀p,H p=none->Q (.ref p) (upd H p (.lst (xs++zs)))
theorem zrL:OpR X (binaryOp .Add) rCat:=by
 intro pins s σ H x y v u Q I N J h;obtain⟨l,b,xs,zs,rfl,rfl,S,Y,hz,q⟩:=h;cases N;cases J;obtain⟨z,G,n,r,hl,e⟩:=I.lstM S;obtain⟨z2,C,n2,R,L,Z⟩:=I.lstM Y;refine PySem.P.add_list e Z ?_ (by rw[ax,ax];lia)
 have U:G.toArray++C.toArray=(G++C).toArray:=by simp
 rw[U];exact⟨.ref _,_,I.lnew (t':=s.toks) (r.append R) (by rw[bw];lia),rfl,q _ I.fresh⟩
end
end L2
namespace Att
open PySem PySem.W PySem.Calls PyProof.Rows
theorem zec{P:oE}{h:aN}:∀(ns:List Int) (u:List ah),WellAll P h u (ns.map xE)->fG u ns:=by
 intro ns;induction ns with
 | nil =>
  intro u w;rw[gv]at w;cases w;exact .nil
 | cons n ns v =>
  intro u w;rw[cm]at w;cases w with
  | cons a b =>
   cases a;exact .cons _ _ (v _ b)
theorem zkj{l:OpenLaw}{n:Nat}(hn:l.most=some n){P:oE}{h:aN}{args:List WData}{vals:List ah}
  (J:l.row.toRowW.claim.pre args=true) (G:WellAll P h vals args) :
  ∃a I ns,vals=[bT a]/\args=[WData.list (ns.map xE)]/\h.get? a=some { cls:=.type "list",data:=.seq I.toArray }/\fG I ns/\ns.length<=n:=by
 have C:WShape.hasAll [] args [.list .int]=true:=(pre_splitW J).1;have hc:l.pre.holds [] { args:=args }=true:=(pre_splitW J).2;obtain⟨d,r,rfl,N,R⟩:=hasAllW_cons C;obtain rfl:=hasAllW_nil R;obtain⟨xs,rfl,Z⟩:=hasW_list N;obtain⟨ns,rfl⟩:=items_int Z;have u:ns.length<=n:=by
  unfold OpenLaw.pre at hc;have v:(WTm.not (.lt (.lit (.int (n:Int))) (.len (.arg 0)))).holds [] { args:=[.list (ns.map .int)] }=true:=by
   have v:=(holds_andW hc).1;rw[hn]at v;exact v
  have x:=condW_of v (w_not (w_lt w_lit (w_len_list (w_arg rfl))));rw[aL]at x;refine nq fun q=>?_
  have q':(n:Int)<((ns.length:Nat):Int):=by lia
  first
   | (rw[decide_eq_true q']at x;exact absurd x (by decide))
   | (simp at x;lia)
 cases G with
 | cons U S =>
  cases S;cases U with
  | list L Y=>exact⟨_,_,ns,rfl,rfl,L,zec ns _ Y,u⟩
theorem zkB(l:OpenLaw)(args:List WData):l.row.toRowW.claim.post args (.bool true) args=true :=
 postW_of (r:=l.row.toRowW) (X:=(true == true))
  (show vQ [] (.bool true) .bool=true by first|rfl|decide|simp[vQ,WShape.arms,WShape.armsAll])
  (show(WTm.eq .res (.lit (.bool true))).value [] { args:=args,res:=some (.bool true),after:=args }=some (.bool (true == true)) from w_eq_bool (w_res rfl) w_lit) rfl
theorem attach_call{l:OpenLaw}{n:Nat}{q:aG}{loose:List Str}{XP:(Str->Option ah)->aN->Prop}{YP:aP->aN->Prop}{d:DefRec}
  (hn:l.most=some n) (Z:d.params.defaults=[])
  (call:∀(w:aP) (s₀ v:au) (mg S:qM) (I:ak) (o:Obj) (pm cd doc:ah) (a:ak) (C:List ah) (ns:List Int),
   Ground q loose [] XP w s₀ mg S v.heap->YP w v.heap ->
   v.heap.get? I=some o->o.data=.func (docDef d.name d.params d.body d.scope pm cd doc)->v.heap.CodeRec cd d.name->mg d.name=some (.ref I) ->
   v.heap.get? a=some { cls:=.type "list",data:=.seq C.toArray }->fG C ns->ns.length<=n->v.gens=#[] ->
   codeAny (model l.prog w) callerA (.call (.ref I) ⟨[.ref a],[]⟩) (fun r s'=>r=.ok (.ret (.bool true))/\OldK v.heap s'.heap/\s'.os=v.os/\gV s'.gens) v) :
  WalkO q loose XP YP l.row.toRowW d [] (fun f C=>vR f C):=by
 intro w s₀ v mg S G Y I o pm cd doc dV kV ho hd R hD N hg args vals as HZ hlay hrd U hlo;obtain rfl:dV=.none:=Dflts.none hD Z;obtain rfl:kV=.none:=Dflts.noKw hD;obtain⟨a,C,ns,rfl,rfl,L,x,J⟩:=zkj hn HZ U;refine enter_call (gp (call w s₀ v mg S I o pm cd doc a C ns G Y ho (fd_plain hd) R N L x J hg) fun r s' hq=>?_)
 obtain⟨rfl,h2,h3,h4⟩:=hq;exact⟨.inl ⟨.bool true,.bool true,[],rfl,fun _=>rfl,.bool true,zkB l _,fun _=>⟨wL,fun _ hm=>(nomatch hm)⟩⟩,h2,h3,h4⟩
end Att
namespace L2
open PySem PySem.Spec PyProof.Rows
theorem zfY:∀{u:List ah}{ns:List Int},fG u ns->Vals (ns.map V.int) u
 | _,_,.nil=>.nil
 | _,_,.cons n t h=>.cons ⟨t,rfl⟩ (zfY h)
def Only(H:Hp):Prop:=∀b,H b=none\/∃o xs,H b=some (.frz o (.lst xs))
theorem znd{P:aG}{w:aP}{K:qF}{mg mb:qM}{CX:CXT}{k:Nat}{fa a:ak}{fd:cD}{x:Str}{sp:Sp}{C:au}{J:List ah}{ns:List Int}
  (KX:K.In C.heap) (U:C.heap.Ns mainGlobals mg) (G:C.heap.Ns builtinsNs mb) (hbb:∀x:Str,x ≠ "__name__" -> mb x=bootBuiltins x) (hlim:C.heap.NoLimit) (hg:C.gens=#[])
  (ha:C.heap.get? a=some { cls:=.type "list",data:=.seq J.toArray }) (hi:fG J ns) (hl:ns.length<=sizeLine) (hr:Room k callerA)
  (F:∀base:aN,K.In base->base.Ns mainGlobals mg->FnOk P w K mg base CX k fa fd [x] sp) (Ir:∀(s:au) (u:ah),oj s fd ⟨[u],[]⟩ [(x,u)])
  (hsp:∀H:Hp,Only H->SqL K H a (ns.map V.int)->sp [.ref a] H (fun v _=>v=.bl true) fun _ _ _=>False)
  (hCX:∀H e s',CX [] H C (fun _ _ _=>False) e s'->False) :
  codeAny (model P w) callerA (.call (.ref fa) ⟨[.ref a],[]⟩) (fun r s'=>r=.ok (.ret (.bool true))/\OldK C.heap s'.heap/\s'.os=C.os/\gV s'.gens) C:=by
 have rv:=zfY hi;have R:=hi.length;have core:∀H:Hp,Only H->SqL K H a (ns.map V.int)->HOk P w H C.heap->(∀b,H b≠none->b=a)->(H a≠none->K.lookup a=none) ->
   codeAny (model P w) callerA (.call (.ref fa) ⟨[.ref a],[]⟩) (fun r s'=>r=.ok (.ret (.bool true))/\OldK C.heap s'.heap/\s'.os=C.os/\gV s'.gens) C:=by
  intro H hO hS hok hA hK;have HU:∀{b:ak} {o:Obj},C.heap.get? b=some o->H b=none->(hidT C.heap H).get? b=some o:=fun e n=>znL e n
  have noA:∀{b:ak} {o:Obj} {S:Array cW} {L:Nat},C.heap.get? b=some o->o.data=.dict S L->H b=none:=fun {b o S L} e d=>by
   cases q:H b with
   | none=>rfl
   | some u =>
    have e':b=a:=hA b (by rw[q];simp)
    subst e';rw[ha]at e;cases e;have d':Data.seq J.toArray _=Data.dict S L:=d;cases d'
  have I:∀{b:ak} {m:qM},C.heap.Ns b m->(hidT C.heap H).Ns b m:=fun {b m} ⟨o,S,L,e,d,r⟩=>⟨o,S,L,HU e (noA e d),d,r⟩
  have Y:K.In (hidT C.heap H):=fun b o e=>HU (KX b o e) (by
   cases q:H b with
   | none=>rfl
   | some u =>
    have e':b=a:=hA b (by rw[q];simp)
    subst e';rw[hK (by rw[q];simp)]at e;cases e)
  have hM:Mod K mg (hidT C.heap H):=⟨Y,I U,⟨mb,I G,hbb⟩,let ⟨mc,h1,h2⟩:=hlim;⟨mc,I h1,h2⟩⟩
  have e0:Env0 P w K mg (hidT C.heap H) callerA [] C H:=⟨rfl,hM,fun b o e=>zph e,mL (zlr _ _),trivial,fun b G=>absurd (show b∈([]:List ak) from G) (by simp),hok,.of_eq hg⟩
  refine gp ((F _ Y (I U)).run callerA [] C H ⟨[.ref a],[]⟩ [.ref a] [.ref a] _ _ hr e0 (Ir C (.ref a)) (.cons rfl .nil) (hsp H hO hS)) fun r s' h=>?_
  cases r with
  | error e=>exact(hCX H e s' h).elim
  | ok fl =>
   cases fl with
   | next=>exact bY h
   | brk=>exact bY h
   | cont=>exact bY h
   | ret u =>
    obtain⟨v,H',os,bare,un,hok',r',q⟩:=h;have q':v=.bl true:=q;subst q';obtain rfl:u=dS true:=r';refine⟨rfl,OldK.of_keep fun b o e=>?_,os,bare⟩
    cases q:H b with
    | none=>exact un.keep b o e q (by intro z;exact absurd (show b∈([]:List ak) from z) (by simp)) (by simp)
    | some u =>
     rcases hO b with z|⟨ob,xs,z⟩
     ·rw[q]at z;cases z
     ·have z2:=un.frzs b ob _ z;obtain⟨e1,_⟩:=hok b _ z;obtain⟨e2,_⟩:=hok' b _ z2;rw[e]at e1;cases e1;exact e2
 cases hk:K.lookup a with
 | some o =>
  have e:=KX a o hk;rw[ha]at e;cases e;refine core (fun _=>none) (fun _=>.inl rfl) (.inr ⟨_,J.toArray,_,hk,rfl,rfl,rfl,by rw[ax,R];exact hl,by simpa using rv⟩) (fun b u z=>by have Z:(none:Option HO)=some u:=z;cases Z) (fun b z=>absurd rfl z) fun z=>absurd rfl z
 | none =>
  refine core (fun b=>if b=a then some (.frz { cls:=.type "list",data:=.seq J.toArray } (.lst (ns.map V.int))) else none) (fun b=>?_) (.inl (.inr ⟨{ cls:=.type "list",data:=.seq J.toArray },if_pos rfl⟩)) (fun b u z=>?_) (fun b z=>?_) fun _=>hk
  ·by_cases G:b=a
   ·exact .inr ⟨_,_,if_pos G⟩
   ·exact .inl (if_neg G)
  ·by_cases G:b=a
   ·have Z:=(if_pos G).symm.trans z;cases Z;subst G;exact⟨ha,by rw[aL];exact hl,J,_,rv,ha⟩
   ·have Z:=(if_neg G).symm.trans z;cases Z
  ·by_cases G:b=a
   ·exact G
   ·exact absurd (if_neg G) z
def Qw(s:cT):Arguments:=match s with
 | .FunctionDef _ a _ _ _ _ _ _ _ _=>a
 | _=>{ posonlyargs:=[],args:=[],vararg:=none,kwonlyargs:=[],kw_defaults:=[],kwarg:=none,defaults:=[] }
def JZ(s:cT):List cT:=match s with
 | .FunctionDef _ _ b _ _ _ _ _ _ _=>b
 | _=>[]
def JE(s:cT):eU:=match s with
 | .FunctionDef _ _ _ _ _ _ sc _ _ _=>sc
 | _=>{ kind:=.function,names:=[],isGenerator:=false,isCoroutine:=false }
abbrev CX0:CXT:=fun _ _ _ _ _ _=>False
abbrev E0:XK:=fun _ _ _=>False
theorem zu4{X:Cx}:Zv CX0 X E0:=fun _ _ _ _ _ _ _ h=>h.elim
structure Fun(K:qF)(x qual:Str)(st:cT)(f:ak)(fd:cD):Prop where
 ex:∃(oc:ah) (od:Option ak) (kV doc pm:ah) (an:Option ak) (cdv ct:ah) (osl:Array (Option ah)),
  fd=cQ x qual (Qw st) (JZ st) (JE st) .none kV doc pm an cdv ct/\K.lookup f=some ⟨oc,od,.func fd,osl⟩/\gr K cdv qual=true
 kp:gq K (.ref f)=true
section
variable{P:aG}{w:aP}{K:qF}{mg:qM}{base:aN}
theorem Fun.ok{x qual:Str}{st:cT}{f:ak}{fd:cD}{N ps:List Str}{k:Nat}{v:Sp}(F:Fun K x qual st f fd)(S:Q8 N ps (JE st))(len:∀u H Q E,v u H Q E->u.length=ps.length)
  (G:∀(l:ah) (A:bo) (outer:List Env) (s:au) (H:Hp) (u:List V) (Q:VK) (E:XK),Room k (A.deeper (envOfC qual (JE st) s.heap.objs.size f l))->v u H Q E ->
   ∃t,PSs (cxOf CX0 P w K mg base N qual (JE st) f l A outer s H E).nox (JZ st) t/\t { nx:=fun _ I=>Q .non I,rt:=Q } (start N u) H):FnOk P w K mg base CX0 (k+1) f fd ps v:=by
 obtain⟨Y,U,kV,doc,pm,an,l,ct,R,rfl,L,y⟩:=F.ex;refine ztb L y S len fun A outer s H u Q E J C=>?_
 obtain⟨t,h,q⟩:=G l A outer s H u Q E J C;exact⟨t,h.nox,q⟩
theorem Fun.binds{x qual:Str}{st:cT}{f:ak}{fd:cD}{ps:List Str}(F:Fun K x qual st f fd)
  (h:∀(kV doc pm:ah) (an:Option ak) (u ct:ah) (v:List ah),v.length=ps.length->bindArgs (cQ x qual (Qw st) (JZ st) (JE st) .none kV doc pm an u ct) ⟨v,[]⟩=pure (ps.zip v)):Binds K fd ps []:=by
 obtain⟨J,I,kV,doc,pm,an,u,ct,C,rfl,G,y⟩:=F.ex;exact .all (h kV doc pm an u ct)
theorem zos{x qual:Str}{st:cT}{f:ak}{G:ah}{C an:Option ak}{y:Array (Option ah)}{kV doc pm v ct:ah}(l:K.lookup f=some ⟨G,C,.func (cQ x qual (Qw st) (JZ st) (JE st) .none kV doc pm an v ct),y⟩)
  (c:gr K v qual=true) (k:gq K (.ref f)=true):Fun K x qual st f (cQ x qual (Qw st) (JZ st) (JE st) .none kV doc pm an v ct):=⟨⟨G,C,kV,doc,pm,an,v,ct,y,rfl,l,c⟩,k⟩
end
section
variable{X:Cx}
theorem pv(i:Nat){x:Str}{pos:Pos}(u:X.N[i]?=some x:=by rfl)(v:Vis X.env.scope x:=by walk_at "V")(hd:(x == ("__debug__":Str))=false:=by decide)
  (l:(x == ("__classdict__":Str))=false:=by decide):PE X (.Name x pos) (tVar i):=QV u v hd l
end
theorem iteF{A B:Prop}(h:B):if false=true then A else B:=by
 rw[if_neg aS];exact h
theorem iteT{A B:Prop}(h:A):if true=true then A else B:=by
 rw[if_pos rfl];exact h
def Same(H l:Hp):Prop:=∀b o,H b=some o->l b=some o
theorem Same.refl(H:Hp):Same H H:=fun _ _ h=>h
def closed(env:Env):List (Str×dU)->List (Str×ak)->List (Str×ak)
 | [],acc=>acc
 | (n,k)::r,acc=>closed env r (if (k == .free)=true then(n,(env.cells.lookup n).getD 0)::acc else acc)
theorem zez{env:Env}:∀(l:List (Str×dU)) (u:List (Str×ak)),(∀x∈l,x.2=.free->∃c,env.cells.lookup x.1=some c) ->
  (forIn l u fun x __s=>if (x.snd == bZ)=true then do
    let c <- cellOf env x.fst
    pure (bX ((x.fst,c)::__s))
   else pure (bX __s):Sem (List (Str×ak)))=pure (closed env l u)
 | [],u,_=>rfl
 | (n,k)::r,u,h=>by
  have C:=fun a=>zez (env:=env) r a fun x hx=>h x (cy _ hx)
  rw[hV]
  by_cases e:(k == bZ)=true
  ·obtain⟨c,hc⟩:=h (n,k) cL (by simpa using e)
   have v:uj n env.cells=some c:=hc;have G:cellOf env n=pure c:=by unfold cellOf;rw[v]
   simp only[e,if_true,G,pure_bind];rw[C]
   conv=>rhs;unfold closed
   simp only[e,if_true,v,cX]
  ·have y:(k == bZ)=false:=by simpa using e
   simp only[y,aH,if_false,pure_bind];rw[C]
   conv=>rhs;unfold closed
   simp only[y,aH,if_false]
theorem zbf{scope:eU}{env:Env}(h:∀x∈scope.names,x.2=.free->∃c,env.cells.lookup x.1=some c):closureFor scope env=pure (closed env scope.names []):=by
 simp only[closureFor];rw[zez scope.names [] h]
 rfl
theorem Vu{env:Env}:∀(l:List (Str×dU)) (v:List (Str×ak)),(∀x∈l,x.2=.free->∃c,env.cells.lookup x.1=some c) ->
  (∀x c,v.lookup x=some c->env.cells.lookup x=some c)->∀x c,(closed env l v).lookup x=some c->env.cells.lookup x=some c
 | [],v,_,ha=>ha
 | (n,k)::r,v,h,ha=>by
  unfold closed;refine Vu r _ (fun x hx=>h x (cy _ hx)) fun x c=>?_
  by_cases e:(k == bZ)=true
  ·obtain⟨d,hd⟩:=h (n,k) cL (by simpa using e)
   have y:uj n env.cells=some d:=hd;simp only[e,if_true,y,cX];intro q;rw[cA]at q
   by_cases ex:(x == n)=true
   ·simp only[ex]at q;have C:x=n:=by simpa using ex
    cases q;rw[C];exact y
   ·have G:(x == n)=false:=by simpa using ex
    simp only[G]at q;exact ha x c q
  ·have I:(k == bZ)=false:=by simpa using e
   simp only[I,aH,if_false];exact ha x c
theorem zfa{env:Env}:∀(l:List (Str×dU)) (v:List (Str×ak)) (x:Str),(∃c,v.lookup x=some c)->∃c,(closed env l v).lookup x=some c
 | [],_,_,h=>h
 | (n,k)::r,v,x,h=>by
  unfold closed;refine zfa r _ x ?_
  by_cases e:(k == bZ)=true
  ·simp only[e,if_true];rw[cA];cases(x == n) with
   | true=>exact⟨_,rfl⟩
   | false=>exact h
  ·have y:(k == bZ)=false:=by simpa using e
   simp only[y,aH,if_false];exact h
theorem zc9{env:Env}:∀(l:List (Str×dU)) (v:List (Str×ak)) (x:Str),(x,bZ)∈l->∃c,(closed env l v).lookup x=some c
 | [],_,_,h=>nomatch h
 | (n,k)::r,v,x,h=>by
  unfold closed;rcases aw.mp h with e|h
  ·cases e;refine zfa r _ _ ?_;have y:(bZ == bZ)=true:=rfl;simp only[y,if_true];rw[cA];simp
  ·exact zc9 r _ x h
theorem lookup_mem{α:Type}{l:List (Str×α)}{x:Str}{v:α}(h:l.lookup x=some v):(x,v)∈l:=by
 induction l with
 | nil=>simp at h
 | cons p r y =>
  obtain⟨n,w⟩:=p;rw[cA]at h
  by_cases e:(x == n)=true
  ·simp only[e]at h;cases h;have u:x=n:=by simpa using e
   rw[u];exact cL
  ·have C:(x == n)=false:=by simpa using e
   simp only[C]at h;exact cy _ (y h)
def Uh(env:Env)(p:Str×dU):Str×dU:=if (p.2 == bZ&&env.scope.kind == .function&&env.kindOf p.1 == some .cell)=true then(p.1,.cell) else p
theorem zkv(env:Env)(p:Str×dU):(Uh env p).1=p.1:=by
 unfold Uh
 by_cases c:(p.2 == bZ&&env.scope.kind == .function&&env.kindOf p.1 == some .cell)=true
 ·rw[if_pos c]
 ·rw[if_neg c]
def kin(env:Env)(x:Str):Option dU->Option dU
 | some .free=>if (env.scope.kind == .function&&env.kindOf x == some .cell)=true then some .cell else some .free
 | o=>o
theorem zku(env:Env)(x:Str)(k:dU):some (Uh env (x,k)).2=kin env x (some k):=by
 unfold Uh
 by_cases c:(k == bZ&&env.scope.kind == .function&&env.kindOf x == some .cell)=true
 ·rw[if_pos c];rw[aF,aF]at c;have v:k=.free:=by simpa using c.1.1
  subst v;unfold kin;rw[if_pos (by rw[aF];exact⟨c.1.2,c.2⟩)]
 ·rw[if_neg c];cases k with
  | free =>
   have:¬(env.scope.kind == .function&&env.kindOf x == some .cell)=true:=fun z=>c (by
    have y:(bZ == bZ)=true:=rfl;rw[y,df];exact z)
   unfold kin;rw[if_neg this]
  | _=>rfl
theorem zfm(scope:eU)(env:Env):(relabel scope env).names=scope.names.map (Uh env):=by
 show scope.names.map _=_
 refine ib fun p _=>?_
 obtain⟨n,k⟩:=p
 rfl
theorem zeS(env:Env):∀(l:List (Str×dU)) (x:Str),(l.map (Uh env)).lookup x=kin env x (l.lookup x)
 | [],_=>rfl
 | (n,k)::r,x=>by
  have C:=zeS env r x;have v:Uh env (n,k)=(n,(Uh env (n,k)).2):=fU (zkv env (n,k)) rfl;rw[cm,v,cA,cA]
  by_cases e:(x == n)=true
  ·have y:x=n:=by simpa using e
   subst y;simp only[beq_self_eq_true];exact zku env x k
  ·have G:(x == n)=false:=by simpa using e
   simp only[G];exact C
theorem zda(scope:eU)(env:Env)(x:Str):(relabel scope env).names.lookup x=kin env x (scope.names.lookup x):=by
 rw[zfm];exact zeS env _ x
abbrev capN(X:Cx)(capt:List Nat):List Str:=capt.map fun i=>X.N.getD i iB
abbrev capS(capt:List Nat)(σ:St):St:=capt.map fun i=>σ.getD i none
abbrev Jx(own:List Str):St:=own.map fun _=>none
abbrev Jf(X:Cx)(scope:eU)(own:List Str)(capt:List Nat)(C:ak)(s₀:au)(H₀:Hp)(fp:List ak):Cx :=
 { X with N:=own++capN X capt,s₀:=s₀,H₀:=H₀,env:=compEnvC scope (closed X.env scope.names []) C X.env,outer:=X.stack,stack:=X.stack,ex:=fp,fn:=fun _=>false,pn:=[],xe:=fun _ _=>False }
structure JG(scope:eU)(own:List Str)(capt:List Nat)(X:Cx):Prop where
 kind:scope.kind=.function
 nocell:∀y∈scope.names,y.2≠.cell
 names:∀y∈scope.names,y.2=.local->scope.names.lookup y.1=some .local
 frees:∀y∈scope.names,y.2=.free->X.env.kindOf y.1=some .cell\/X.env.kindOf y.1=some .free
 caps:∀k∈capt,scope.names.lookup (X.N.getD k iB)=some .free
theorem getD_some{α:Type}{l:List (Option α)}{k:Nat}{v:α}(h:l.getD k none=some v):l[k]?=some (some v):=by
 rw[aY]at h;cases e:l[k]? with
 | none=>rw[e]at h;cases h
 | some o=>rw[e]at h;simp at h;rw[h]
section
variable{X:Cx}{scope:eU}{own:List Str}{capt:List Nat}
theorem JG.cells(S:JG scope own capt X)(ok:X.Ok):∀x∈scope.names,x.2=.free->∃c,X.env.cells.lookup x.1=some c:=fun x hx hf=>ok.has x.1 (S.frees x hx hf)
theorem zqf{pins:qO}{σ:St}{H₀:Hp}{s₀:au}{C:ak}{N:List ak}(S:JG scope own capt X)(I:Inv X pins σ H₀ s₀)(hf:∀b∈N,FpOk X pins H₀ b)(L:∀b∈N,b<s₀.heap.objs.size)(U:s₀.heap.objs.size<=C) :
  (Jf X scope own capt C s₀ H₀ N).Ok:=by
 have sub:=Vu scope.names [] (S.cells I.ok) (fun x c h=>nomatch (show(none:Option ak)=some c from h))
 refine⟨I.ok.mod,S.kind,I.ok.glob,I.ok.blt,U,fun x y c Y Z=>I.ok.inj x y c (sub x c Y) (sub y c Z),fun x hk=>?_,fun x c z=>absurd (show false=true from z) aS,I.ok.hd,I.ok.frames,.inl rfl,fun b G=>?_,I.bs,bG I.ok.bsz I.sz,fun b o e G=>?_,fun b G z=>?_,I.stack,I.stkFree⟩
 ·have e:=zda scope X.env x;have v:(relabel scope X.env).names.lookup x=some .cell\/(relabel scope X.env).names.lookup x=some .free:=hk;rw[e]at v;cases q:scope.names.lookup x with
  | none=>rw[q]at v;rcases v with z|z <;> cases z
  | some k =>
   rw[q]at v;cases k with
   | free=>exact zc9 scope.names [] x (lookup_mem q)
   | cell=>exact absurd rfl (S.nocell _ (lookup_mem q))
   | _=>rcases v with z|z <;> cases z
 ·obtain⟨f0,f1,f2,J,f4,R⟩:=hf b G;exact⟨aD (aB (L b G) U),fun x c e=>f4 x c (sub x c e)⟩
 ·obtain⟨f0,f1,f2,J,f4,R⟩:=hf b G;rcases J with z|z
  ·exact I.ok.noex b o e z
  ·exact absurd (aB (av (I.ok.bs b o e).1) z) (fi _)
 ·obtain⟨f0,f1,f2,J,f4,R⟩:=hf b G;rcases aw.mp (I.stkSub b z) with q|q
  ·exact f1 q
  ·exact f2 q
theorem zlV{J:HO}{pins:qO}{σ:St}{H₀:Hp}{s₀:au}{fp:List ak}{h':aN}{D C:ak}{tk:Nat}(S:JG scope own capt X)(I:Inv X pins σ H₀ s₀)(hf:∀b∈fp,FpOk X pins H₀ b)(hfp:∀b∈fp,b<s₀.heap.objs.size)
  (hD:s₀.heap.objs.size<=D) (hC:s₀.heap.objs.size<=C) (hDC:D≠C) (old:∀b o,s₀.heap.get? b=some o->h'.get? b=some o) (hns:h'.Ns C (fun _=>none)) (R:JL X.prog X.w (upd H₀ D J) h' D J) :
  Inv (Jf X scope own capt C s₀ H₀ fp) [] (Jx own++capS capt σ) (upd H₀ D J) { s₀ with heap:=h',toks:=tk }:=by
 have ok:=zqf S I hf hfp hC;have sub:=Vu scope.names [] (S.cells I.ok) (fun x c h=>nomatch (show(none:Option ak)=some c from h))
 have hn:H₀ D=none:=I.hok.fresh hD;refine⟨ok,rfl,I.bare,Un.laid old hD hn,⟨_,hns,fun i x v e1 L e3=>?_⟩,fun x c e=>?_,?_,fun x c e=>?_,fun p hp=>absurd (show p∈([]:qO) from hp) (by simp),I.hok.laid (o:=J) old hD R,(by show(Jx own++capS capt σ).length=(own++capN X capt).length;simp[Jx,capS,capN])⟩
 ·have N:(Jx own).length=own.length:=aL ..
  by_cases hi:i<own.length
  ·rw[cc (by rw[N];exact hi)]at L
   unfold Jx at L;rw[aU]at L;cases q:own[i]? with
   | none=>rw[q]at L;cases L
   | some z=>rw[q]at L;cases L
  ·have Z:own.length<=i:=nq hi;have G:(own++capN X capt)[i]?=some x:=e1;rw[cz Z]at G;rw[cz (by rw[N];exact Z),N]at L
   unfold capN at G;unfold capS at L;rw[aU]at G L;cases q:capt[i - own.length]? with
   | none=>rw[q]at G;cases G
   | some k =>
    rw[q]at G L;have ex:X.N.getD k iB=x:=aJ G;have ev:σ.getD k none=some v:=aJ L;have hk:k∈capt:=aV q;have hv:=getD_some ev;have Y:k<X.N.length:=by
     rw[<- I.len];exact(aA.mp hv).1
    have hx:X.N[k]?=some x:=by
     rw[aY,aI Y]at ex;rw[aI Y];exact congrArg some ex
    have HB:=S.caps k hk;rw[ex]at HB;have HR:=S.frees _ (lookup_mem HB) rfl;obtain⟨m,hm,hl⟩:=I.loc;have vis:Vis X.env.scope x:=by
     rcases HR with z|z
     ·exact .inr (.inl z)
     ·exact .inr (.inr z)
    obtain⟨u,r,l⟩:=hl k x v hx hv vis;refine⟨u,r,.inr ⟨?_,?_⟩⟩
    ·have e:=zda scope X.env x;rw[HB]at e;show(relabel scope X.env).names.lookup x=some .cell\/(relabel scope X.env).names.lookup x=some .free
     rw[e];unfold kin
     by_cases c:(X.env.scope.kind == .function&&X.env.kindOf x == some .cell)=true
     ·rw[if_pos c];exact .inl rfl
     ·rw[if_neg c];exact .inr rfl
    ·rcases l with⟨z,_⟩|⟨_,c,hc,U⟩
     ·rcases HR with y|y <;> (have y':X.env.kindOf x=_:=y;rw[z]at y';cases y')
     ·obtain⟨d,hd⟩:=zc9 (env:=X.env) scope.names [] x (lookup_mem HB);have:=sub x d hd;rw[hc]at this;cases this;obtain⟨o,R,hod⟩:=U;exact⟨c,hd,o,old _ _ R,hod⟩
 ·obtain⟨v,o,R,hd⟩:=I.cell x c (sub x c e);exact⟨v,o,old _ _ R,hd⟩
 ·show upd H₀ D J C=none
  rw[Jn (gn hDC)];exact I.hok.fresh hC
 ·obtain⟨v,o,R,hd⟩:=I.cell x c (sub x c e);show upd H₀ D J c=none
  rw[Jn (aD (aB (av R) hD))];exact I.freeC x c (sub x c e)
theorem zn3{pins:qO}{σ:St}{H₀:Hp}{s₀:au}{x:List ak}{h':aN}{D C:ak}{tk:Nat}(S:JG scope own capt X)(I:Inv X pins σ H₀ s₀)(hf:∀b∈x,FpOk X pins H₀ b)(v:∀b∈x,b<s₀.heap.objs.size)
  (L:s₀.heap.objs.size<=D) (J:s₀.heap.objs.size<=C) (G:D≠C) (old:∀b o,s₀.heap.get? b=some o->h'.get? b=some o) (u:h'.Ns C (fun _=>none)) (N:h'.get? D=some { cls:=.type "list",data:=.seq ([]:List ah).toArray 0 }) :
  Inv (Jf X scope own capt C s₀ H₀ x) [] (Jx own++capS capt σ) (upd H₀ D (.lst [])) { s₀ with heap:=h',toks:=tk }:=zlV S I hf v L J G old u ⟨eF _,[],0,.nil,N⟩
theorem zn2{pins Hy:qO}{σ σ':St}{H₀ x:Hp}{s₀ s':au}{N:List ak}{h'':aN}{C:ak}(I:Inv X pins σ H₀ s₀)(hf:∀b∈N,FpOk X pins H₀ b)(hC:s₀.heap.objs.size<=C)
  (J:Inv (Jf X scope own capt C s₀ H₀ N) Hy σ' x s') (R:dJ C s'.heap h''):Inv X pins σ x { s' with heap:=h'' }:=by
 have G:x C=none:=J.free;have l:∀b o,s₀.heap.get? b=some o->b≠C:=fun b o e=>aD (aB (av e) hC)
 have u:Un (frs X.stack) N H₀ x s₀.heap s'.heap:=J.base;have U:Un (frs X.stack) N H₀ x s₀.heap h'':=by
  refine⟨fun b o q n S L=>(R.2 b (l b o q)).trans (u.keep b o q n S L),fun b o q n S L=>?_,u.free,fun b o q L=>?_,u.tups,u.frzs,u.tbls⟩
  ·obtain⟨sl,e⟩:=u.slot b o q n S L;exact⟨sl,(R.2 b (l b o q)).trans e⟩
  ·obtain⟨o',e⟩:=u.there b o q L;exact⟨o',(R.2 b (l b o q)).trans e⟩
 have hok:HOk X.prog X.w x h'':=fun b ob e=>by
  refine(J.hok b ob e).stay (fun c v hc q=>(R.2 c ?_).trans q) (fun _ q=>q) (fun _ _ q=>q) fun _ _ _ q=>q
  rintro rfl;rcases hc with z|z
  ·subst z;rw[G]at e;cases e
  ·rw[G]at z;cases z
 refine I.call' (s':={ s' with heap:=h'' }) J.os U hok J.bare fun b hb=>?_
 obtain⟨f0,f1,f2,Y,f4,Z⟩:=hf b hb;exact⟨Y,f1,f4,Z⟩
end
def PTs(Y:Cx)(ifs:List aO)(t:TT):Prop :=
 ∀(pins:qO) (s:au) (σ:St) (H:Hp) (Q:Bool->Hp->Prop),Inv Y pins σ H s->t σ H Q ->
  wpAny (model Y.prog Y.w) Y.A (forIn ifs true fun c r=>if r=true then do let ok <- isTrue c Y.env (eval c Y.env);pure (bX ok) else pure (bX r)) (TP Y pins σ Q) Y.xe s
def tYes:TT:=fun _ H Q=>Q true H
theorem zoO{Y:Cx}:PTs Y [] tYes:=fun _ _ _ H _ I h=>wpAny_tests_nil ⟨H,I,h⟩
theorem zoN{Y:Cx}{c:aO}{t:TT}(h:PT Y c t):PTs Y [c] t:=fun pins s σ H Q I q=>wpAny_tests_one (h pins s σ H Q I q)
abbrev NoX:ah->au->Prop:=fun _ _=>False
theorem zjQ{prog:aG}{w:aP}{A:bo}{R:lY->au->Prop}{s:au}{elt target iter:aO}{ifs:List aO}{scope:eU}{pos:Pos}{it acc:ah}{env:Env}(I:Nat->au->Prop)
  (turn:∀n s,I n s->wpAny (model prog w) A (pyNext it) (fun r y=>match r with
   | none=>R (.ok .next) y
   | some v=>wpAny (model prog w) A (letOwnedTupleGo target it v) (fun _ J=>wpAny (model prog w) A (assign target env v) (fun _ U =>
     wpAny (model prog w) A (forIn ifs true fun c r=>if r=true then do let ok <- isTrue c env (eval c env);pure (bX ok) else pure (bX r)) (fun ok G =>
      if ok=true then wpAny (model prog w) A (eval elt env) (fun x Y=>wpAny (model prog w) A (call (.builtin "list.append") [acc,x]) (fun _ S=>∃m,m<n/\I m S) NoX Y) NoX G
      else ∃m,m<n/\I m G) NoX U) NoX J) NoX y) NoX s) (n:Nat) (h:I n s) :
  codeAny (model prog w) A (.compLoop (.ListComp elt [⟨target,iter,ifs,0⟩] scope pos) 0 it acc env) R s:=by
 refine mM rfl I (fun n s hI=>?_) n h
 show wpAny _ A ((compTurn (.ListComp elt [⟨target,iter,ifs,0⟩] scope pos) 0 it acc env).onRaise (fun x=>do noteFrame x env;theTreesLotGoes x)) _ _ s
 refine nK (cE (E:=NoX) ?_ (fun _ _ q=>q) fun _ _ z=>bY z)
 rw[compTurn_list];refine aa (c9 (aa (thn (turn n s hI) fun r y Z=>?_)))
 cases r with
 | none=>exact aj Z
 | some v =>
  refine aa (thn Z fun _ J h₂=>aa (thn h₂ fun _ U h₃=>aa (thn h₃ fun ok G N=>?_)))
  cases ok with
  | false=>exact aj ⟨rfl,N⟩
  | true =>
   refine aa (aa (thn N fun x Y h₅=>aa (thn h₅ fun _ S h₆=>?_)))
   exact aj (aj ⟨rfl,h₆⟩)
def Wk:St->St->Prop
 | [],[]=>True
 | none::r,_::r'=>Wk r r'
 | some v::r,o::r'=>o=some v/\Wk r r'
 | _,_=>False
theorem Wk.weak:∀{σ σ':St},Wk σ σ'->σ.length=σ'.length/\∀(i:Nat) v,σ[i]?=some (some v)->σ'[i]?=some (some v)
 | [],[],_=>⟨rfl,fun _ _ h=>by simp at h⟩
 | none::r,o::r',h=>by
  obtain⟨a,b⟩:=Wk.weak (σ:=r) (σ':=r') h;refine⟨by simp[a],fun i v e=>?_⟩
  cases i with
  | zero=>simp at e
  | succ i=>simpa using b i v (by simpa using e)
 | some w::r,o::r',h=>by
  obtain⟨h0,l⟩:o=some w/\Wk r r':=h;obtain⟨a,b⟩:=Wk.weak l;refine⟨by simp[a],fun i v e=>?_⟩
  cases i with
  | zero=>rw[h0];simpa using e
  | succ i=>simpa using b i v (by simpa using e)
 | none::_,[],h=>bY h
 | some _::_,[],h=>bY h
 | [],_::_,h=>bY h
def zqp(own:List Str)(capt:List Nat)(g:TG)(tt:TT)(S:TE)(σ:St)(J:It)(Y:Hp)(D:ak)(Q:VK):Prop:=∃W:Nat->Nat->Hp->Prop,(∃m,W 0 m (upd Y D (.lst [])))/\∀i m G,W i m G ->
 (J.stop i G/\Q (.ref D) G)\/(J.go i G/\∃(N:V->Hp->Prop) (R:Hp->Prop),(∀v I,N v I->∃ys,I D=some (.lst ys)/\ys.length<sizeLine/\∃y,y<m/\W (i+1) y (upd I D (.lst (ys++[v]))))/\(∀C,R C->∃y,y<m/\W (i+1) y C) /\
  ∀x L,J.yld i G x L->g x (Jx own++capS capt σ) L fun u U=>Wk (Jx own++capS capt σ) u/\tt u U fun b C=>if b=true then S u C N else R C)
def tComp(own:List Str)(capt:List Nat)(v:TI)(g:TG)(tt:TT)(u:TE):TE:=fun σ H Q=>v σ H fun J l=>∀D,l D=none->zqp own capt g tt u σ J l D Q
def CompI(Y:Cx)(pins:qO)(σ:St)(u:List ak)(v:Nat->aN->Prop)(W:Nat->Nat->Hp->Prop)(n:Nat)(s':au):Prop:=∃i l,Inv Y pins σ l s'/\v i s'.heap/\(∀b∈u,l b=none)/\W i n l
theorem zfh{Y:Cx}{tg:aO}{ifs:List aO}{g:TG}{tt:TT}(hxe:Y.xe=NoX)(hc:Y.calm=true)(hg:PG Y tg g)(ht:PTs Y ifs tt){pins:qO}{σ:St}{it:ak}{L:List ak}{tn:Nat->aN->Prop}{J:It}(T:Turn Y.prog Y.w Y.K tg J L it tn)
  (HC:∀{H':Hp},(∀b∈L,H' b=none)->∀b∈L,FpOk Y pins H' b) {W:Nat->Nat->Hp->Prop} {n i:Nat} {s4:au} {I:Hp} {Dn AC:au->Prop} (I4:Inv Y pins σ I s4) (st4:tn i s4.heap) (fr4:∀b∈L,I b=none)
  (h:(J.stop i I/\∀s5,Inv Y pins σ I s5->Dn s5)\/(J.go i I/\∃(NT:St->Hp->Prop) (NF:Hp->Prop),(∀{p6 l C R},Inv Y (pins++p6) l C R->NT l C->(∀{s9 H9 y},Inv Y (pins++p6) l H9 s9->y<n->W (i+1) y H9->∃m,m<n/\CompI Y pins σ L tn W m s9)->AC R) /\
   (∀H5,NF H5->∃y,y<n/\W (i+1) y H5)/\∀x H3,J.yld i I x H3->g x σ H3 fun U H5=>Wk σ U/\tt U H5 fun b H6=>if b=true then NT U H6 else NF H6)) :
  wpAny (model Y.prog Y.w) Y.A (pyNext (.ref it)) (fun r N=>match r with
   | none=>Dn N
   | some v=>wpAny (model Y.prog Y.w) Y.A (letOwnedTupleGo tg (.ref it) v) (fun _ s₂=>wpAny (model Y.prog Y.w) Y.A (assign tg Y.env v) (fun _ s₃ =>
     wpAny (model Y.prog Y.w) Y.A (forIn ifs true fun c r=>if r=true then do let ok <- isTrue c Y.env (eval c Y.env);pure (bX ok) else pure (bX r)) (fun ok G =>
      if ok=true then AC G else ∃m,m<n/\CompI Y pins σ L tn W m G) NoX s₃) NoX s₂) NoX N) NoX s4:=by
 rcases h with⟨stop,dn⟩|⟨go,NT,NF,hT,hF,step⟩
 ·refine thn (T.done Y rfl rfl rfl hc i pins s4 _ I NoX I4 (HC fr4) st4 stop) fun r s5 ⟨hr,I5⟩=>?_
  subst hr;exact dn s5 I5
 ·refine thn (T.item Y rfl rfl rfl hc i pins s4 _ I NoX I4 (HC fr4) st4 go) fun r s5 ⟨u,hr,h5⟩=>?_
  subst hr;refine thn h5 fun _ s6 ⟨x,H6,I6,r6,y6,S,fr6⟩=>?_
  have I6':=I6.pinned (HC fr6) (T.obj _ _ S);have a1:=hg _ s6 _ H6 x u _ I6' r6 (step x H6 y6);rw[hxe]at a1;refine thn a1 fun _ s7 ⟨l,H7,I7,wk,q7⟩=>?_
  obtain⟨wl,wv⟩:=wk.weak;have again:∀{R:au} {C:Hp} {y:Nat},Inv Y (pins++YI L s6.heap) l C R->y<n->W (i+1) y C->∃m,m<n/\CompI Y pins σ L tn W m R:=fun {R C y} Z hm w8=>by
   refine⟨y,hm,i+1,C,(Z.unpinned).weak wl wv,T.keep _ _ _ S fun b hb o e=>(Z.pin (b,o) (bH _ (bH _ (Vv hb e)))).1,fun b hb=>?_,w8⟩
   obtain⟨o,e,d⟩:=T.obj _ _ S b hb;exact(Z.pin (b,o) (bH _ (bH _ (Vv hb e)))).2.1
  have a2:=ht _ s7 l H7 _ I7 q7;rw[hxe]at a2;refine thn a2 fun ok R ⟨C,Z,q8⟩=>?_
  cases ok with
  | false =>
   obtain⟨y,hm,w8⟩:=hF C (by simpa using q8)
   exact again Z hm w8
  | true=>exact hT Z (by simpa using q8) again
section
variable{X:Cx}{scope:eU}{own:List Str}{capt:List Nat}{elt tg iter:aO}{ifs:List aO}{pos:Pos}{wi:TI}{g:TG}{tt:TT}{te:TE}
theorem zlS(S:JG scope own capt X){pins:qO}{σ:St}{G:Hp}{s2:au}{u:List ak}{C:ak}(J:Inv X pins σ G s2)(f2:∀b∈u,FpOk X pins G b)(y:∀b∈u,b<s2.heap.objs.size)(N:s2.heap.objs.size<=C){I:Hp}(U:∀b∈u,I b=none):∀b∈u,FpOk (Jf X scope own capt C s2 G u) [] I b:=fun b v=>by
 obtain⟨Z,g1,g2,g3,L,Y⟩:=f2 b v;have sub:=Vu scope.names [] (S.cells J.ok) (fun x c h=>nomatch (show(none:Option ak)=some c from h))
 refine⟨U b v,aD (aB (y b v) N),fun z=>?_,.inl v,fun x c e=>L x c (sub x c e),fun p R=>absurd (show p∈([]:qO) from R) (by simp)⟩
 rcases aw.mp (J.stkSub b z) with q|q
 ·exact g1 q
 ·exact g2 q
theorem zg_(S:JG scope own capt X){pins:qO}{σ:St}{R:It->Hp->Prop}{N:ah}{s2:au}{E:qV}{CA:ah->Env->au->Prop}(h2:PIE X pins σ tg R N s2)
  (k:∀(it:ak) (G:List ak) (tn:Nat->aN->Prop) (J:It) (I:Hp) (D C:ak) (v:aN),N=.ref it->Turn X.prog X.w X.K tg J G it tn->R J I->I D=none->tn 0 v->(∀b∈G,upd I D (.lst []) b=none) ->
   (∀tk,Inv (Jf X scope own capt C s2 I G) [] (Jx own++capS capt σ) (upd I D (.lst [])) { s2 with heap:=v,toks:=tk })->(∀{H':Hp},(∀b∈G,H' b=none)->∀b∈G,FpOk (Jf X scope own capt C s2 I G) [] H' b) ->
   (∀s5 U,Inv (Jf X scope own capt C s2 I G) [] (Jx own++capS capt σ) U s5->(∃m,s5.heap.Ns C m)/\(∀h'',dJ C s5.heap h''->Inv X pins σ U { s5 with heap:=h'' })/\U C=none/\FpOk X pins U C) ->
   CA (.ref D) (compEnvC scope (closed X.env scope.names []) C X.env) { s2 with heap:=v }) :
  wpAny (model X.prog X.w) X.A (newList []) (fun acc s₃=>wpAny (model X.prog X.w) X.A (newFunctionEnv scope X.env.globals (closed X.env scope.names []) [] X.env.qual none .none (some X.env)) (fun cenv Z=>CA acc { cenv with scope:=relabel scope X.env } Z) E s₃) E s2:=by
 obtain⟨it,G,tn,J,I,e,I2,T,st2,f2,rd⟩:=h2;have L:∀b∈G,b<s2.heap.objs.size:=fun b hb=>by
  obtain⟨o,e,_⟩:=T.obj 0 _ st2 b hb;exact av e
 refine cF (wpAny_newFunctionEnv S.nocell (by intro y hy;simp at hy) (fun v x u=>?_) S.kind)
 dsimp only at x u ⊢;generalize hH3:s2.heap.push { cls:=.type "list",dict:=none,data:=.seq ([]:List ah).toArray }=H3 at x u ⊢;have hC:H3.objs.size=s2.heap.objs.size+1:=by rw[<- hH3,dm]
 have hDC:s2.heap.objs.size≠H3.objs.size:=by rw[hC];exact aD (Nat.lt_succ_self _)
 have Y:s2.heap.objs.size<=H3.objs.size:=by rw[hC];exact iX _
 have neC:∀b o,s2.heap.get? b=some o->b≠H3.objs.size:=fun b o e=>aD (aB (av e) Y)
 have old:∀b o,s2.heap.get? b=some o->v.get? b=some o:=fun b o e=>u.extBut b o (neC b o e) (aq _ (hH3▸aq _ e))
 have Ie:v.get? s2.heap.objs.size=some { cls:=.type "list",data:=.seq ([]:List ah).toArray 0 }:=u.extBut _ _ hDC (aq _ (hH3▸ay _ rfl));refine k it G tn J I s2.heap.objs.size H3.objs.size v e T rd (I2.hok.fresh (az _)) (T.keep _ _ _ st2 fun b hb o e=>old b o e) (fun b hb=>by rw[Jn (aD (L b hb))];exact(f2 b hb).1)
  (fun tk=>zn3 (tk:=tk) S I2 f2 L (az _) Y hDC old x Ie) (zlS S I2 f2 L Y) (fun s5 U I5=>?_)
 obtain⟨m,hn,_⟩:=I5.loc;exact⟨⟨m,hn⟩,fun h'' sb=>zn2 I2 f2 Y I5 sb,I5.free,I2.fpOk Y I5.free⟩
theorem zje(hc:X.calm=true)(S:JG scope own capt X)
  (hg:∀C s₀ H₀ R,PG (Jf X scope own capt C s₀ H₀ R) tg g) (ht:∀C s₀ H₀ R,PTs (Jf X scope own capt C s₀ H₀ R) ifs tt) (he:∀C s₀ H₀ R,PE (Jf X scope own capt C s₀ H₀ R) elt te)
  {pins:qO} {σ:St} {Q:VK} {U:ah} {s2:au} {E:qV} {RR:ah->ak->lY->au->Prop}
  (h2:PIE X pins σ tg (fun J H1=>∀D,H1 D=none->zqp own capt g tt te σ J H1 D Q) U s2)
  (hR:∀D C s' Z,(∃m,s'.heap.Ns C m)->(∀h'',dJ C s'.heap h''->Inv X pins σ Z { s' with heap:=h'' })->Z C=none->FpOk X pins Z C->Q (.ref D) Z->RR (.ref D) C (.ok .next) s') :
  wpAny (model X.prog X.w) X.A (newList []) (fun I s₃=>wpAny (model X.prog X.w) X.A (newFunctionEnv scope X.env.globals (closed X.env scope.names []) [] X.env.qual none .none (some X.env)) (fun u G =>
   codeAny (model X.prog X.w) X.A (.compStart (.ListComp elt [⟨tg,iter,ifs,0⟩] scope pos) 0 U I { u with scope:=relabel scope X.env }) (RR I u.locals) G) E s₃) E s2:=by
 refine zg_ (CA:=fun I u G=>codeAny (model X.prog X.w) X.A (.compStart (.ListComp elt [⟨tg,iter,ifs,0⟩] scope pos) 0 U I u) (RR I u.locals) G) S h2 fun it R tn J H2 D C h₁ e T rd hnD st1 fr0 J0 HC out=>?_
 subst e;obtain⟨W,⟨m0,w0⟩,turn⟩:=rd _ hnD;have loop:∀tk:Tok,codeAny (model X.prog X.w) X.A (.compLoop (.ListComp elt [⟨tg,iter,ifs,0⟩] scope pos) 0 (.ref it) (.ref D) (compEnvC scope (closed X.env scope.names []) C X.env)) (RR (.ref D) C) { s2 with heap:=h₁,toks:=tk }:=fun tk=>by
  refine zjQ (CompI (Jf X scope own capt C s2 H2 R) [] (Jx own++capS capt σ) R tn W) ?_ m0 ⟨0,_,J0 tk,st1,fr0,w0⟩;rintro n s4 ⟨i,H4,I4,st4,fr4,w4⟩;refine zfh (Y:=Jf X scope own capt C s2 H2 R) rfl hc (hg _ _ _ _) (ht _ _ _ _) T HC I4 st4 fr4 ?_;rcases turn i n H4 w4 with⟨stop,qn⟩|⟨go,N,N',hN,hN',step⟩
  ·exact .inl ⟨stop,fun s5 I5=>let ⟨o1,o2,o3,o4⟩:=out s5 H4 I5;hR _ _ s5 H4 o1 o2 o3 o4 qn⟩
  ·refine .inr ⟨go,fun σ4 H5=>te σ4 H5 N,N',fun {p6 σ7 H8 s8} I8 q8 again=>?_,hN',step⟩
   refine thn (he _ _ _ _ _ s8 σ7 H8 N I8 q8) fun y s9 ⟨v,H9,I9,r9,q9⟩=>?_
   obtain⟨ys,hD,hl,m',hm,w9⟩:=hN v H9 q9;refine thn (zd9 (X:=Jf X scope own capt C s2 H2 R) _ s9 σ7 H9 (.ref D) [v] _ [y] (fun _ Z=>Z=upd H9 D (.lst (ys++[v]))) I9 rfl (.cons r9 .nil) ⟨_,ys,v,rfl,rfl,hD,hl,rfl⟩) fun _ s10 ⟨_,H10,I10,_,q10⟩=>?_
   subst q10;exact again I10 hm w9
 exact kI (loop _) (T.self X.A 0 _ _ _ st1 (loop _))
theorem zmZ(hc:X.calm=true)(S:JG scope own capt X)(hi:PI X tg iter wi)
  (Z:∀C s₀ H₀ l,PG (Jf X scope own capt C s₀ H₀ l) tg g) (N:∀C s₀ H₀ l,PTs (Jf X scope own capt C s₀ H₀ l) ifs tt) (he:∀C s₀ H₀ l,PE (Jf X scope own capt C s₀ H₀ l) elt te)
  (hs:∀x,foldedSetIterable iter X.env x=pure x:=by intro _;rfl):PE X (.ListComp elt [⟨tg,iter,ifs,0⟩] scope pos) (tComp own capt wi g tt te):=by
 intro pins s σ H Q I h;rw[eval_ListComp];refine fV (use:=none) rfl hs (zbf (S.cells I.ok)) S.kind S.names (thn (hi pins s σ H _ I h) fun v s1 U=>thn U fun G s2 Y=>?_)
 refine zje (RR:=fun u C=>compPost (model X.prog X.w) X.A X.xe none (EP X pins σ Q) u C) hc S Z N he Y fun D C s' R y J _ _ q=>?_
 obtain⟨m,y⟩:=y;exact⟨m,y,fun h'' sb=>⟨.ref D,R,J h'' sb,rfl,q⟩⟩
theorem zky(hc:X.calm=true)(S:JG scope own capt X)(hi:PI X tg iter wi)
  (hg:∀C s₀ H₀ y,PG (Jf X scope own capt C s₀ H₀ y) tg g) (ht:∀C s₀ H₀ y,PTs (Jf X scope own capt C s₀ H₀ y) ifs tt) (he:∀C s₀ H₀ y,PE (Jf X scope own capt C s₀ H₀ y) elt te)
  {i:Nat} {x:Str} {u HK:Pos} (hN:X.N.Nodup) (hxi:X.N[i]?=some x) (hx:Loc X.env.scope x)
  (hs:∀x,foldedSetIterable iter X.env x=pure x:=by intro _;rfl) (R:swapsWith (.ListComp elt [⟨tg,iter,ifs,0⟩] scope pos) (some (.Name x u)) HK.line X.env=pure true:=by rfl)
  (hf:X.fn x=true\/X.env.scope.names.lookup x=some .local:=by walk_at "F") :
  PS X (.Assign [.Name x u] (.ListComp elt [⟨tg,iter,ifs,0⟩] scope pos) HK) (tAsg (tComp own capt wi g tt te) (Yv i)):=by
 intro pins s σ H D I h;rw[exec_Assign_Name_used _ _ _ _ R];refine aa (c9 (aa ?_));show wpAny _ X.A (do let _ <- comprehension (.ListComp elt [⟨tg,iter,ifs,0⟩] scope pos) scope X.env _ (newList []) false (eval iter X.env) (some (assign (.Name x u) X.env))) _ _ s
 refine aa (cE (fV (use:=some (assign (.Name x u) X.env)) (Q:=fun _ s'=>SP X pins D .next s') rfl hs (zbf (S.cells I.ok)) S.kind S.names (thn (hi pins s σ H _ I h) fun v s1 h1=>thn h1 fun itv s2 h2=>?_)) (fun _ s' hq=>aj (aj hq)) fun _ _ e=>e)
 refine zje (RR:=fun Y C=>compPost (model X.prog X.w) X.A X.xe (some (assign (.Name x u) X.env)) (fun _ s'=>SP X pins D .next s') Y C) hc S hg ht he h2 fun D' C s' H' Z J hCn y q=>?_
 obtain⟨m,Z⟩:=Z;obtain⟨f0,f1,f2,f3,f4,f5⟩:=y;have Is:Inv X pins σ H' s':=J s'.heap (wM _ _);refine my (zf4 Is hN hxi hx (show RelV (.ref D') (.ref D') from rfl) (fun G I'' sb=>?_) hf)
 obtain⟨a,sb,ha⟩:=sb;have neA:C≠a:=by
  rcases ha with rfl|ha
  ·exact f1
  ·exact fun z=>f4 x a ha z.symm
 have hn':G.heap.Ns C m:=Z.sameBut sb neA;exact⟨m,hn',fun h' U=>⟨_,H',I''.turned (t':=G.toks) (fun b o hb e=>(U.2 b hb).trans e) f0 f1 f3 f4 f5,q⟩⟩
end
theorem zlU{J:It}{n:Nat}{own:List Str}{capt:List Nat}{g:TG}{tt:TT}{L:TE}{σ:St}{N:Hp}{D:ak}{Q:VK}(C:Nat->List V->Hp->Prop)(h0:C 0 [] (upd N D (.lst [])))
  (turn:∀i ys u,i<n->u D=some (.lst ys)->C i ys u->J.go i u/\∀x R,J.yld i u x R->g x (Jx own++capS capt σ) R fun y U=>Wk (Jx own++capS capt σ) y/\tt y U fun b G =>
   if b=true then L y G (fun v I=>∃zs,I D=some (.lst zs)/\zs.length<sizeLine/\C (i+1) (zs++[v]) (upd I D (.lst (zs++[v])))) else ∃zs,G D=some (.lst zs)/\C (i+1) zs G)
  (stop:∀ys u,u D=some (.lst ys)->C n ys u->J.stop n u/\Q (.ref D) u) :
  zqp own capt g tt L σ J N D Q:=by
 refine⟨fun i m H=>m=n - i/\i<=n/\∃ys,H D=some (.lst ys)/\C i ys H,⟨n,rfl,eF _,[],JM,h0⟩,?_⟩
 rintro i m u ⟨rfl,hi,ys,S,p⟩
 by_cases hlt:i<n
 ·obtain⟨go,st⟩:=turn i ys u hlt S p;refine .inr ⟨go,_,_,?_,?_,st⟩
  ·rintro v I ⟨zs,e,l,q⟩;exact⟨zs,e,l,n - (i+1),by omega,rfl,hlt,_,JM,q⟩
  ·rintro G ⟨zs,e,q⟩;exact⟨n - (i+1),by omega,rfl,hlt,zs,e,q⟩
 ·have e:i=n:=by omega
  subst e;exact .inl (stop ys u S p)
def VC(scope outer:eU)(N:List Str)(capt:List Nat):Bool :=
 scope.kind == .function&&scope.names.all (fun y=>!(y.2 == .cell))&&scope.names.all (fun y=>!(y.2 == .local)||scope.names.lookup y.1 == some .local) &&
 scope.names.all (fun y=>!(y.2 == .free)||(outer.names.lookup y.1 == some .cell||outer.names.lookup y.1 == some .free))&&capt.all (fun k=>scope.names.lookup (N.getD k iB) == some .free)
theorem JG.of{X:Cx}{scope:eU}{own:List Str}{capt:List Nat}(h:VC scope X.env.scope X.N capt=true):JG scope own capt X:=by
 unfold VC at h;simp only[aF]at h;obtain⟨⟨⟨⟨J,x⟩,C⟩,G⟩,v⟩:=h;rw[bc]at x C G v;refine⟨by simpa using J,fun y u=>?_,fun y u I=>?_,fun y u hf=>?_,fun k L=>?_⟩
 ·simpa using x y u
 ·have:=C y u;rw[I]at this;simpa using this
 ·have:=G y u;rw[hf]at this;show X.env.scope.names.lookup y.1=some .cell\/X.env.scope.names.lookup y.1=some .free
  simpa using this
 ·simpa using v k L
section
variable{X:Cx}
theorem zrJ:OpR X (compareOp .Is) (fun x y H Q=>∃a b,x=.bl a/\y=.bl b/\Q (.bl (a == b)) H):=by
 intro pins s σ H x y v u Q I G C h;obtain⟨a,b,rfl,rfl,q⟩:=h;cases G;cases C;exact is_bool ⟨.bl (a == b),H,I,rfl,q⟩
def kitB(t T:String):Option Bool:=if (bh t == bh T)=true then some true else if PySem.W.kitMeta T=true then(fastBuiltinMro t).map (·.contains (.type T)) else none
theorem U7(K:qF)(t T:String):ou K (.type t) (.type T)=kitB t T:=rfl
inductive Ty (H:Hp):V->String->Prop where
 | non:Ty H .non "NoneType"
 | bl (x:Bool):Ty H (.bl x) "bool"
 | int (i:Int):Ty H (.int i) "int"
 | str (x:Str):Ty H (.str x) "str"
 | lst {a:ak} {xs:List V} (e:H a=some (.lst xs)):Ty H (.ref a) "list"
 | tup {a:ak} {xs:List V} (e:H a=some (.tup xs)):Ty H (.ref a) "tuple"
 | dK {a:ak} {kvs:List (Key×V)} (e:H a=some (.dK kvs)):Ty H (.ref a) "dict"
theorem Ty.of{K:qF}{H:Hp}{v:V}{t:String}(h:Ty H v t):TyOf K H v (.type t):=by
 cases h with
 | non=>exact .non
 | bl x=>exact .bl x
 | int i=>exact .int i
 | str x=>exact .str x
 | lst e=>exact .lst e
 | tup e=>exact .tup e
 | dK e=>exact .dK e
theorem Vi:bootBuiltins "isinstance" = some (.builtin "isinstance"):=by decide +kernel
theorem boot_int:bootBuiltins "int" = some (.type "int"):=by decide +kernel
theorem zjW:bootBuiltins "bool" = some (.type "bool"):=by decide +kernel
theorem QN:bootBuiltins "tuple" = some (.type "tuple"):=by decide +kernel
theorem zhk:bootBuiltins "str" = some (.type "str"):=by decide +kernel
theorem Vy:bootBuiltins "all" = some (.builtin "all"):=by decide +kernel
theorem Yn:bootBuiltins "repr" = some (.builtin "repr"):=by decide +kernel
theorem UQ:bootBuiltins "min" = some (.builtin "min"):=by decide +kernel
theorem Vz:bootBuiltins "max" = some (.builtin "max"):=by decide +kernel
theorem Q7:bootBuiltins "len" = some (.builtin "len"):=by decide +kernel
theorem zhl:∀{bs:List Bool}{u:List ah},Vals (bs.map V.bl) u->LSm.BoolsAre u bs
 | [],_,h=>by cases h;exact .nil
 | b::bs,_,h=>by
  cases h with
  | cons r t =>
   cases(show _=dS b from r)
   exact .cons b (zhl t)
theorem VA(hc:X.calm=true):JN X (.builtin "all") (fun xs H Q=>∃(a:ak) (bs:List Bool),xs=[.ref a]/\SqL X.K H a (bs.map V.bl)/\Q (.bl (bs.all id)) H):=by
 intro pins s σ H xs us Q I r h;obtain⟨a,bs,rfl,U,q⟩:=h;cases r with
 | cons Y N =>
  cases N;cases(show _=bT a from Y)
  obtain⟨x,R,p,hz⟩:=I.list U;have G:=zhl R;have C:s.heap.IsList a x.toArray:=p.isList;have y:a<s.heap.objs.size:=by obtain⟨_,e,_⟩:=C;exact av e
  refine call_all_walk (fq C ?_);refine⟨s.heap.objs.size,[s.heap.objs.size,a],[s.heap.objs.size],x.toArray.size,_,_,fun i=>(bs[i]?).getD true,rfl,vS (A:=X.A.in1) (I.ok.hd hc) _ a (aD y) x.toArray,
   ⟨⟨_,ay _ rfl,rfl,rfl⟩,C.push _⟩,fun i v s' Q' Z L J=>?_,fun h' tk S=>?_⟩
  ·obtain⟨b,e,rfl⟩:=G.get i v (by simpa using L)
   simp only[e,cX]at J;exact bq J
  ·have e:((eX x.toArray.size).all fun i=>(bs[i]?).getD true)=bs.all id:=by
    rw[ax,G.length];exact LSm.range_all bs
   rw[e];exact⟨.bl _,H,I.kept (rh S),rfl,q⟩
mutual
inductive Uz (H:Hp):V->af->Prop
 | non:Uz H .non .none
 | bl (b:Bool):Uz H (.bl b) (.bool b)
 | int (i:Int):Uz H (.int i) (.int i)
 | str (x:Str):Uz H (.str x) (.str x)
 | lst {a:ak} {xs:List V} {ds:qD}:H a=some (.lst xs)->YZ H xs ds->Uz H (.ref a) (.list ds)
 | tup {a:ak} {xs:List V} {ds:qD}:H a=some (.tup xs)->YZ H xs ds->Uz H (.ref a) (.tuple ds)
inductive YZ (H:Hp):List V->List af->Prop
 | nil:YZ H [] []
 | cons {v:V} {vs:List V} {d:af} {ds:qD}:Uz H v d->YZ H vs ds->YZ H (v::vs) (d::ds)
end
def Yq(i j:Int):Prop:=0<j/\j<2 ^ 128
theorem Vq:OpR X (binaryOp .FloorDiv) (rI Yq fun i j=>.int (i / j)):=opI fun i j _ _ _ _ _ hc q=>by
 have x:(0:Int)<j:=hc.1;have y:j<2 ^ 128:=hc.2;refine floordiv_int (by omega) (by rw[Int.fdiv_eq_ediv_of_nonneg i (by omega)];exact q) (.inl (PyProof.noPylong_of_log2 ?_))
 have u:j.natAbs<2 ^ 128:=by omega
 have C:j.natAbs.log2<128:=(um (by omega)).mpr u
 omega
end
def Pl(X:Cx)(l:List aO):Prop:=∀pos,(backTo pos (starEach l X.env)).any (·.1)=false
def Hd(X:Cx):List aO->Prop
 | []=>True
 | e::r=>starEach (e::r) X.env=(false,eval e X.env)::starEach r X.env/\Pl X r
structure PB(X:Cx)(es:List aO)(t:TA):Prop where
 pa:PA X es t
 pl:Pl X es
 hd:Hd X es
section
variable{X:Cx}{es:List aO}{t:TA}{te:TE}
theorem Qz:PB X [] tNil:=⟨Uo,fun _=>rfl,trivial⟩
theorem J1(h:PE X e te)(u:PB X es t)(l:starEach (e::es) X.env=(false,eval e X.env)::starEach es X.env):PB X (e::es) (QE te t) :=
 ⟨QH h u.pa l,fun pos=>by
  rw[l];have:(backTo pos ((false,eval e X.env)::starEach es X.env)).any (·.1)=(false||(backTo pos (starEach es X.env)).any (·.1)):=rfl
  rw[this,u.pl pos];rfl,l,u.pl⟩
theorem pb_i{j pos}(l:PB X es t):PB X (.Constant (.int i) j pos::es) (QE (tC (.int i)) t):=J1 JD l rfl
theorem pb_v(i:Nat){x:Str}{pos:Pos}(v:PB X es t)(u:X.N[i]?=some x:=by rfl)(y:Vis X.env.scope x:=by walk_at "V")(hd:(x == ("__debug__":Str))=false:=by rfl)
  (l:(x == ("__classdict__":Str))=false:=by rfl):PB X (.Name x pos::es) (QE (tVar i) t):=J1 (QV u y hd l) v rfl
theorem zhD(h:PE X (.Name x pos) te)(l:PB X es t):PB X (.Name x pos::es) (QE te t):=J1 h l rfl
theorem zok{a b c d}(h:PE X (.BinOp a b c d) te)(l:PB X es t):PB X (.BinOp a b c d::es) (QE te t):=J1 h l rfl
theorem zrz{a b c d}(h:PE X (.Compare a b c d) te)(l:PB X es t):PB X (.Compare a b c d::es) (QE te t):=J1 h l rfl
variable{e:aO}{x:Str}{p pos:Pos}
theorem zoV{x1}(h:PB X es t):PE X (.Tuple es x1 pos) (tTup t):=zoj h.pa
theorem zkF(h:PB X es t):PE X (.List es pos) (tLst t):=zrv h.pa
theorem Uf{id:String}{r:List V->Hp->VK->Prop}(hc:JN X (.builtin id) r)(G:X.mg x=none)(y:bootBuiltins x=some (.builtin id))(h:PB X (e::es) t)(J:Gl X x:=by rfl)(I:x ≠ "__name__":=by decide) (v:(x == ("__debug__":Str))=false:=by rfl) :
  PE X (.Call (.Name x p) (e::es) [] pos) (tCB r t):=zm3 hc J G y h.pa I v h.hd.1 (h.hd.2 pos)
theorem zrw(hc:JN X (.type T) r)(G:X.mg x=none)(v:bootBuiltins x=some (.type T))(h:PB X (e::es) t)(J:Gl X x:=by rfl)(I:x ≠ "__name__":=by decide) (u:(x == ("__debug__":Str))=false:=by rfl) :
  PE X (.Call (.Name x p) (e::es) [] pos) (tCB r t):=zkI hc J G v h.pa I u h.hd.1 (h.hd.2 pos)
end
end L2
namespace Bd
open PySem L2
structure Def(K:qF)(mg:qM)(x:Str)(st:cT)(ps:List Str)(f:ak)(fd:cD):Prop where
 F:Fun K x x st f fd
 b:Binds K fd ps []
 m:mg x=some (.ref f)
section
variable{X:Cx}{k:Nat}{f:ak}{fd:cD}{ps:List Str}{sp:Sp}{x:Str}{p pos:Pos}{e:aO}{es:List aO}{t:TA}{st:cT}
theorem zoX(D:Def X.K X.mg x st ps f fd)(G:FnOk X.prog X.w X.K X.mg X.base CX0 k f fd ps sp)(v:Room k X.A)(h:PB X (e::es) t)(y:Gl X x:=by rfl)
  (u:(x == ("__debug__":Str))=false:=by rfl):PE X (.Call (.Name x p) (e::es) [] pos) (zqH sp [] E0 t):=zoZ G v y D.m D.F.kp D.b .nil zu4 h.pa u h.hd.1 (h.hd.2 pos)
theorem zrp(u:X.mg x=none)(l:bootBuiltins x=some (.type T))(C:Gl X x:=by rfl)(v:x ≠ "__name__":=by decide) (hd:(x == ("__debug__":Str))=false:=by rfl):PE X (.Name x p) (tC (.ty T)) :=
 zo1 C u l rfl v hd
end
theorem iteP{c A B:Prop}[Decidable c](hc:c)(h:A):if decide c=true then A else B:=by
 rw[decide_eq_true hc];exact iteT h
theorem iteN{c A B:Prop}[Decidable c](hc:¬c)(h:B):if decide c=true then A else B:=by
 rw[decide_eq_false hc];exact iteF h
theorem zsC{c A B:Prop}[Decidable c](l:c->A)(u:¬c->B):if decide c=true then A else B:=by
 by_cases h:c
 ·exact iteP h (l h)
 ·exact iteN h (u h)
theorem zeD{α:Type}{xs:List α}{k:Int}{v:α}(h0:0<=k)(h:xs[k.toNat]?=some v):atI xs k=some v:=by
 obtain⟨n,rfl⟩:=kj h0;exact zql h
theorem QB(k:Nat):(0:Int)<2 ^ k:=by
 have:(0:Nat)<2 ^ k:=Nat.two_pow_pos k;have e:((2 ^ k:Nat):Int)=(2:Int) ^ k:=by simp
 omega
theorem zkA(h:k<=64):(2:Int) ^ k<2 ^ 128:=by
 have:(2:Nat) ^ k<2 ^ 128:=Nat.pow_lt_pow_right (by decide) (by omega)
 have e:((2 ^ k:Nat):Int)=(2:Int) ^ k:=by simp
 omega
theorem zfo(h:k<=64):(2:Int) ^ k<=2 ^ 64:=by
 have:(2:Nat) ^ k<=2 ^ 64:=Nat.pow_le_pow_right (by decide) (by omega)
 have e:((2 ^ k:Nat):Int)=(2:Int) ^ k:=by simp
 omega
theorem zmD(h:H p=none):Same H (upd H p o):=fun b u e=>by
 rw[Jn (Qs e h)];exact e
end Bd
namespace L2
open PySem PySem.Spec PyProof.Rows
theorem zqm(k h:Nat):(k*2 ^ h) &&& (2 ^ h)=(k % 2)*2 ^ h:=by
 have l:k*2 ^ h=k <<< h:=(km k h).symm;have v:(2:Nat) ^ h=1 <<< h:=by rw[km,ur]
 have u:(k &&& 1) <<< h=k <<< h &&& 1 <<< h:=Nat.shiftLeft_and_distrib;rw[l]
 conv=>lhs;rw[v]
 rw[<- u,Nat.and_one_is_mod,km]
theorem zmw(h:Nat)(k0:0<=k):eQ (k*2 ^ h) (2 ^ h)=if k % 2=0 then k*2 ^ h+2 ^ h else k*2 ^ h - 2 ^ h:=by
 obtain⟨n,rfl⟩:=kj k0;have l:((2 ^ h:Nat):Int)=(2:Int) ^ h:=by simp
 have u:((n:Int)*2 ^ h)=((n*2 ^ h:Nat):Int):=by rw[Int.natCast_mul,l]
 rw[bitXor_and,u,<- l,bitAnd_pp (l8 _) (l8 _)];have v:((n*2 ^ h:Nat):Int).toNat &&& ((2 ^ h:Nat):Int).toNat=(n % 2)*2 ^ h:=by
  rw[dD,dD];exact zqm n h
 rw[v];rcases Nat.mod_two_eq_zero_or_one n with z|z
 ·have:((n:Int)) % 2=0:=by lia
  rw[if_pos this,z];simp
 ·have:¬((n:Int)) % 2=0:=by lia
  rw[if_neg this,z,ur];lia
def HAND:af:=.dict [(.none,.none)]
def SCR(ns:List Int):af:=.dict [(.none,.list (ns.map .int))]
def Zu(H:Hp)(hd:ak)(n:Int):Prop:=∃d m t:Int,H hd=some (.lst [.int d,.int m,.int t])/\0<=m/\m<2 ^ 62/\0<=t/\t<=n
def StT(K:qF)(a:ak)(xs:List V):Prop :=
 ∃(o:Obj) (l:Array ah) (n:Nat),K.lookup a=some o/\o.cls=.type "tuple" /\ o.data=.seq l n/\l.size<=sizeLine/\Vals xs l.toList/\o.dict=none
theorem StT.sq{K:qF}{H:Hp}{a:ak}{xs:List V}(h:StT K a xs):SqT K H a xs:=by
 obtain⟨o,l,n,v,y,x,C,u,_⟩:=h;exact .inr ⟨o,l,n,v,y,x,C,u⟩
def hsT(k:Int×Int):Int:=reduceHash (pG [hashInt k.1,hashInt k.2])
def entZ(z:(Int×Int)×ak×V)(e:cW):Prop:=e.hash=hsT z.1/\e.key=.ref z.2.1/\RelV z.2.2 e.val
abbrev ZT:=List ((Int×Int)×ak×V)
def ZDO(a:ak)(zs:ZT)(v:Nat):HO:=.ext fun h=>(a == sysModules)=false/\zs.length<=sizeLine/\(zs.map (·.1)).Nodup/\∃o l,h.get? a=some o/\o.ExactDict/\o.data=.dict l v/\dh entZ zs l.toList
abbrev KT2:=List ((Int×Int)×af)
def entI(z:Int×V)(e:cW):Prop:=e.hash=hashInt z.1/\(∃t,e.key=.int z.1 t)/\RelV z.2 e.val
def KDO(a:ak)(zs:List (Int×V))(v:Nat):HO:=.ext fun h=>(a == sysModules)=false/\zs.length<=sizeLine/\(zs.map (·.1)).Nodup/\∃o l,h.get? a=some o/\o.ExactDict/\o.data=.dict l v/\dh entI zs l.toList
def blkT(k:Int×Int):af:=.tuple [.int k.1,.int k.2]
def zp2(l:List (Int×af)):List (af×af):=l.map fun q=>(.int q.1,q.2)
def U4(l:KT2):List (af×af):=l.map fun q=>(blkT q.1,q.2)
def EXC(C:ak):af:=.dict [(.none,.int (C:Int))]
def EXO(a C:ak):HO:=.ext fun h=>∃o,h.get? a=some o/\o.cls=.ref C/\∃u,o.data=.fields u
mutual
inductive Rep (K:qF)(hd:Option ak)(O:ak->Prop)(H:Hp):V->af->Prop
 | non:Rep K hd O H .non .none
 | bl (b:Bool):Rep K hd O H (.bl b) (.bool b)
 | int (i:Int):Rep K hd O H (.int i) (.int i)
 | str (x:Str):Rep K hd O H (.str x) (.str x)
 | tup {a vs ds} (h:H a=some (.tup vs)) (o:¬O a) (r:Reps K hd O H vs ds):Rep K hd O H (.ref a) (.tuple ds)
 | tupS {a vs ds} (h:StT K a vs) (r:Reps K hd O H vs ds):Rep K hd O H (.ref a) (.tuple ds)
 | lst {a vs ds} (h:H a=some (.lst vs)) (o:¬O a) (r:Reps K hd O H vs ds):Rep K hd O H (.ref a) (.list ds)
 | dct {a ep} (h:H a=some (KDO a [] ep)) (o:¬O a):Rep K hd O H (.ref a) (.dict [])
 | dcK {a kvs ep ks ps} (h:H a=some (KDO a kvs ep)) (o:¬O a) (r:Ys K hd O H kvs ks) (e:ps=zp2 ks):Rep K hd O H (.ref a) (.dict ps)
 | dcT {a zs ep ks ps} (h:H a=some (ZDO a zs ep)) (o:¬O a) (r:J3 K hd O H zs ks) (e:ps=U4 ks):Rep K hd O H (.ref a) (.dict ps)
 | hand {a} (h:hd=some a):Rep K hd O H (.ref a) HAND
 | scr {a ns} (h:Rd H a (.lst (ns.map V.int))) (o:¬O a):Rep K hd O H (.ref a) (SCR ns)
 | scrS {a} {ns:List Int} (h:∀H':Hp,SqL K H' a (ns.map V.int)):Rep K hd O H (.ref a) (SCR ns)
 | exc {a C} (h:H a=some (EXO a C)) (o:¬O a):Rep K hd O H (.ref a) (EXC C)
inductive Reps (K:qF)(hd:Option ak)(O:ak->Prop)(H:Hp):List V->List af->Prop
 | nil:Reps K hd O H [] []
 | cons {v d vs ds} (h:Rep K hd O H v d) (r:Reps K hd O H vs ds):Reps K hd O H (v::vs) (d::ds)
inductive Ys (K:qF)(hd:Option ak)(O:ak->Prop)(H:Hp):List (Int×V)->List (Int×af)->Prop
 | nil:Ys K hd O H [] []
 | cons {k v d kvs ks} (h:Rep K hd O H v d) (r:Ys K hd O H kvs ks):Ys K hd O H ((k,v)::kvs) ((k,d)::ks)
inductive J3 (K:qF)(hd:Option ak)(O:ak->Prop)(H:Hp):ZT->KT2->Prop
 | nil:J3 K hd O H [] []
 | cons {k q v d zs ks} (h:Rep K hd O H (.ref q) (.tuple [.int k.1,.int k.2])) (h2:Rep K hd O H v d) (r:J3 K hd O H zs ks):J3 K hd O H ((k,q,v)::zs) ((k,d)::ks)
end
section
variable{K:qF}{hd:Option ak}{O O':ak->Prop}{H H':Hp}
theorem Rep.mono(y:∀a o,H a=some o->O' a->O a)(C:∀a o,¬O a->H a=some o->H' a=some o)(q:Rep K hd O H v d):Rep K hd O' H' v d :=
 Rep.rec (motive_1:=fun v d _=>Rep K hd O' H' v d) (motive_2:=fun v d _=>Reps K hd O' H' v d) (motive_3:=fun v d _=>Ys K hd O' H' v d) (motive_4:=fun v d _=>J3 K hd O' H' v d)
  .non .bl .int .str (fun h o _ r=>.tup (C _ _ o h) (fun z=>o (y _ _ h z)) r) (fun h _ r=>.tupS h r) (fun h o _ r=>.lst (C _ _ o h) (fun z=>o (y _ _ h z)) r) (fun h o=>.dct (C _ _ o h) (fun z=>o (y _ _ h z))) (fun h o _ e r=>.dcK (C _ _ o h) (fun z=>o (y _ _ h z)) r e) (fun h o _ e r=>.dcT (C _ _ o h) (fun z=>o (y _ _ h z)) r e) .hand
  (fun h o=>h.elim (fun h=>.scr (.inl (C _ _ o h)) fun z=>o (y _ _ h z)) fun h=>h.elim fun u h=>.scr (.inr ⟨u,C _ _ o h⟩) fun z=>o (y _ _ h z)) .scrS (fun h o=>.exc (C _ _ o h) (fun z=>o (y _ _ h z)))
  .nil (fun _ _ h r=>.cons h r) .nil (fun _ _ h r=>.cons h r) .nil (fun _ _ _ h k r=>.cons h k r) q
theorem Reps.ind{P:List V->List af->Prop}(n:P [] [])(c:∀{v d vs ds},Rep K hd O H v d->Reps K hd O H vs ds->P vs ds->P (v::vs) (d::ds))(q:Reps K hd O H vs ds):P vs ds:=by
 refine Reps.rec (motive_1:=fun _ _ _=>True) (motive_2:=fun v d _=>P v d) (motive_3:=fun _ _ _=>True) (motive_4:=fun _ _ _=>True) ?_ ?_ ?_ ?_ ?_ ?_ ?_ ?_ ?_ ?_ ?_ ?_ ?_ ?_ n (fun h r _ i=>c h r i) ?_ ?_ ?_ ?_ q <;> intros <;> trivial
theorem J3.ind{P:ZT->KT2->Prop}(n:P [] [])(c:∀{k q v d vs ds},Rep K hd O H (.ref q) (.tuple [.int k.1,.int k.2])->Rep K hd O H v d->J3 K hd O H vs ds->P vs ds->P ((k,q,v)::vs) ((k,d)::ds))(q:J3 K hd O H vs ds):P vs ds:=by
 refine J3.rec (motive_1:=fun _ _ _=>True) (motive_4:=fun v d _=>P v d) (motive_2:=fun _ _ _=>True) (motive_3:=fun _ _ _=>True) ?_ ?_ ?_ ?_ ?_ ?_ ?_ ?_ ?_ ?_ ?_ ?_ ?_ ?_ ?_ ?_ ?_ ?_ n (fun h k r _ _ i=>c h k r i) q <;> intros <;> trivial
theorem Reps.mono(u:∀a o,H a=some o->O' a->O a)(v:∀a o,¬O a->H a=some o->H' a=some o)(q:Reps K hd O H vs ds):Reps K hd O' H' vs ds:=q.ind .nil fun h _ r=>.cons (h.mono u v) r
theorem J3.mono(u:∀a o,H a=some o->O' a->O a)(v:∀a o,¬O a->H a=some o->H' a=some o)(q:J3 K hd O H vs ds):J3 K hd O' H' vs ds:=q.ind .nil fun h k _ r=>.cons (h.mono u v) (k.mono u v) r
theorem dict_noK(e:(lh,v)::r=zp2 l):False:=by
 cases l with
 | nil=>cases e
 | cons q l=>cases e
theorem dict_noT(e:(lh,v)::r=U4 l):False:=by
 cases l with
 | nil=>cases e
 | cons q l=>cases e
theorem Reps.length(q:Reps K hd O H vs ds):vs.length=ds.length:=q.ind (P:=fun a b=>a.length=b.length) rfl fun _ _ e=>congrArg (·+1) e
theorem Reps.get{i:Nat}(q:Reps K hd O H l ds):ds[i]?=some d->∃v,l[i]?=some v/\Rep K hd O H v d :=
 q.ind (P:=fun l ds=>∀(i:Nat),ds[i]?=some d->∃v,l[i]?=some v/\Rep K hd O H v d) (fun _ e=>nomatch e) (fun {v _ _ _} h _ r i=>i.casesOn (fun e=>⟨v,rfl,aJ e▸h⟩) fun i e=>r i e) i
theorem Reps.append(q:Reps K hd O H vs ds)(s:Reps K hd O H ws es):Reps K hd O H (vs++ws) (ds++es):=q.ind (P:=fun a b=>Reps K hd O H (a++ws) (b++es)) s fun h _ r=>.cons h r
theorem Reps.take(n:Nat)(q:Reps K hd O H u ds):Reps K hd O H (u.take n) (ds.take n) :=
 q.ind (P:=fun u ds=>∀n:Nat,Reps K hd O H (u.take n) (ds.take n)) (fun n=>by rw[rn,rn];exact .nil) (fun h _ r n=>n.casesOn .nil fun n=>.cons h (r n)) n
theorem Reps.drop(n:Nat)(q:Reps K hd O H u ds):Reps K hd O H (u.drop n) (ds.drop n) :=
 q.ind (P:=fun u ds=>∀n:Nat,Reps K hd O H (u.drop n) (ds.drop n)) (fun n=>by rw[rq,rq];exact .nil) (fun h k r n=>n.casesOn (.cons h k) fun n=>r n) n
theorem Reps.set{v d}(h:Rep K hd O H v d)(n:Nat)(q:Reps K hd O H u ds):Reps K hd O H (u.set n v) (ds.set n d) :=
 q.ind (P:=fun u ds=>∀n:Nat,Reps K hd O H (u.set n v) (ds.set n d)) (fun n=>.nil) (fun k s r n=>n.casesOn (.cons h s) fun n=>.cons k (r n)) n
theorem Rep.tupI(h:Rep K hd O H v (.tuple ds)):∃a x,v=.ref a/\SqT K H a x/\Reps K hd O H x ds:=by
 cases h with
 | tup h o r=>exact⟨_,_,rfl,.inl (.inl h),r⟩
 | tupS h r=>exact⟨_,_,rfl,h.sq,r⟩
theorem Rep.lstI(h:Rep K hd O H v (.list ds)):∃a u,v=.ref a/\H a=some (.lst u)/\¬O a/\Reps K hd O H u ds:=by
 cases h with
 | lst h o r=>exact⟨_,_,rfl,h,o,r⟩
theorem Rep.intI(h:Rep K hd O H v (.int i)):v=.int i:=by cases h;rfl
theorem Rep.blI(h:Rep K hd O H v (.bool b)):v=.bl b:=by cases h;rfl
theorem Rep.strI(h:Rep K hd O H v (.str x)):v=.str x:=by cases h;rfl
theorem Rep.nonI(h:Rep K hd O H v .none):v=.non:=by cases h;rfl
theorem Rep.handI(h:Rep K hd O H v HAND):∃a,v=.ref a/\hd=some a:=by
 generalize e:HAND=d at h;cases h with
 | hand h=>exact⟨_,rfl,h⟩
 | dct _ _=>cases e
 | dcK _ _ _ u=>cases e;exact(dict_noK u).elim
 | dcT _ _ _ u=>cases e;exact(dict_noT u).elim
 | scr _ _=>simp[HAND,SCR]at e
 | scrS _=>simp[HAND,SCR]at e
 | exc _ _=>simp[HAND,EXC]at e
 | _=>cases e
theorem Rep.scrI(h:Rep K hd O H v (SCR ns)):∃a,v=.ref a/\SqL K H a (ns.map V.int):=by
 generalize e:SCR ns=d at h;cases h with
 | hand h=>simp[HAND,SCR]at e
 | dct _ _=>cases e
 | dcK _ _ _ u=>cases e;exact(dict_noK u).elim
 | dcT _ _ _ u=>cases e;exact(dict_noT u).elim
 | @scr a ms h o =>
  have:ns=ms:=by
   have u:(ns.map bK)=ms.map bK:=by simpa[SCR] using e
   have:=congrArg (lx fun x=>match x with|bK i=>i|_=>0) u
   simpa[cB,iY] using this
  subst this;exact⟨_,rfl,.inl h⟩
 | @scrS a ms h =>
  have:ns=ms:=by
   have u:(ns.map bK)=ms.map bK:=by simpa[SCR] using e
   have:=congrArg (lx fun x=>match x with|bK i=>i|_=>0) u
   simpa[cB,iY] using this
  subst this;exact⟨_,rfl,h H⟩
 | exc _ _=>simp[SCR,EXC]at e
 | _=>cases e
end
mutual
def JP:af->Bool
 | .list _=>false
 | .tuple ts=>YG ts
 | .dict [(.none,.none)]=>true
 | .dict _=>false
 | _=>true
def YG:List af->Bool
 | []=>true
 | t::ts=>JP t&&YG ts
end
section
variable{K:qF}{hd:Option ak}{O O':ak->Prop}{H:Hp}
theorem zpm(e:JP (.dict (zp2 ks))=true):False:=by
 unfold JP at e;split at e
 ·rename_i h;cases h
 ·rename_i h;cases h
 ·rename_i h;exact dict_noK (kR h).symm
 ·cases e
 ·rename_i h;exact h _ rfl
theorem zpl(e:JP (.dict (U4 ks))=true):False:=by
 unfold JP at e;split at e
 ·rename_i h;cases h
 ·rename_i h;cases h
 ·rename_i h;exact dict_noT (kR h).symm
 ·cases e
 ·rename_i h;exact h _ rfl
def MutO(o:Option HO):Prop:=(∃xs,o=some (.lst xs))\/(∃v,o=some (.dK v))\/∃a zs u,o=some (ZDO a zs u)
theorem Rep.up(y:∀a,O a->MutO (H a))(q:Rep K hd O' H v d):JP d=true->Rep K hd O H v d:=by
 refine Rep.rec (motive_1:=fun v d _=>JP d=true->Rep K hd O H v d) (motive_2:=fun v d _=>YG d=true->Reps K hd O H v d) (motive_3:=fun _ _ _=>True) (motive_4:=fun _ _ _=>True)
  (fun _=>.non) (fun b _=>.bl b) (fun b _=>.int b) (fun b _=>.str b) (fun h _ _ r e=>.tup h (fun z=>by rcases y _ z with⟨xs,q⟩|⟨xs,q⟩|⟨xs,zs,C,q⟩ <;> (rw[h]at q;cases q)) (r (by simpa[JP] using e))) (fun h _ r e=>.tupS h (r (by simpa[JP] using e)))
  (fun _ _ _ _ e=>by simp[JP]at e) (fun _ _ e=>by simp[JP]at e) (fun _ _ _ x _ e=>by subst x;exact(zpm e).elim) (fun _ _ _ x _ e=>by subst x;exact(zpl e).elim) (fun h _=>.hand h) (fun _ _ e=>by simp[SCR,JP]at e) (fun _ e=>by simp[SCR,JP]at e) (fun _ _ e=>by simp[EXC,JP]at e)
  (fun _=>.nil) (fun _ _ h r e=>by rw[YG,aF]at e;exact .cons (h e.1) (r e.2)) trivial ?_ trivial ?_ q <;> intros <;> trivial
end
section
variable{X:Cx}{pins:qO}{σ:St}{H:Hp}{s:au}{hd:Option ak}{O:ak->Prop}
theorem Rep.reads(I:Inv X pins σ H s){u:ah}(q:Rep X.K hd O H v d):RelV v u->d.hasDict=false->∃C,Reads s.heap u d C:=by
 refine Rep.rec (motive_1:=fun v d _=>∀u,RelV v u->d.hasDict=false->∃C,Reads s.heap u d C) (motive_2:=fun v d _=>∀u,Vals v u->fv d=false->∃C,oH s.heap u d C) (motive_3:=fun _ _ _=>True) (motive_4:=fun _ _ _=>True)
  (fun _ r _=>by cases r;exact⟨_,.none⟩) (fun b _ r _=>by cases r;exact⟨_,.bool b⟩) (fun i _ r _=>by obtain⟨t,rfl⟩:=r;exact⟨_,.int i t⟩) (fun x _ r _=>by obtain⟨t,rfl⟩:=r;exact⟨_,.str x t⟩)
  (fun {_ vs _} h _ _ q _ r e=>?_) (fun {_ vs _} h _ q _ r e=>?_) (fun {_ vs _} h _ _ q _ r e=>?_) (fun _ _ _ _ e=>by simp[ck]at e) (fun _ _ _ _ _ _ _ e=>by simp[ck]at e) (fun _ _ _ _ _ _ _ e=>by simp[ck]at e)
  (fun _ _ _ e=>by simp[HAND,ck]at e) (fun _ _ _ _ e=>by simp[SCR,ck]at e) (fun _ _ _ e=>by simp[SCR,ck]at e) (fun _ _ _ _ e=>by simp[EXC,ck]at e)
  (fun _ r _=>by cases r;exact⟨_,.nil⟩) (fun _ _ h q _ r e=>?_) trivial (by intros;trivial) trivial (by intros;trivial) q u
 ·cases r;obtain⟨J,N,p,_⟩:=I.tuple (xs:=vs) (.inl (.inl h));obtain⟨o,L,hc,n,y⟩:=p;obtain⟨C,G⟩:=q _ N (by simpa[ck] using e)
  exact⟨_,.tuple L hc y (by simpa using G)⟩
 ·cases r;obtain⟨J,N,p,_⟩:=I.tuple (xs:=vs) h.sq;obtain⟨o,L,hc,n,y⟩:=p;obtain⟨C,G⟩:=q _ N (by simpa[ck] using e)
  exact⟨_,.tuple L hc y (by simpa using G)⟩
 ·cases r;obtain⟨J,N,p,_⟩:=I.list (xs:=vs) (.inl (.inl h));obtain⟨o,n,L,hc,_,y⟩:=p;obtain⟨C,G⟩:=q _ N (by simpa[ck] using e)
  exact⟨_,.list L hc y (by simpa using G)⟩
 ·cases r with
  | cons S R =>
   rw[fv,ly]at e;obtain⟨C,G⟩:=h _ S e.1;obtain⟨bs,U⟩:=q _ R e.2;exact⟨_,.cons G U⟩
theorem Reps.reads(I:Inv X pins σ H s){u:List ah}(q:Reps X.K hd O H x ds):Vals x u->fv ds=false->∃v,oH s.heap u ds v :=
 q.ind (P:=fun x ds=>∀u,Vals x u->fv ds=false->∃v,oH s.heap u ds v) (fun _ r _=>by cases r;exact⟨_,.nil⟩) (fun h _ q _ r e=>by
  cases r with
  | cons C J =>
   rw[fv,ly]at e;obtain⟨v,G⟩:=h.reads I C e.1;obtain⟨bs,y⟩:=q _ J e.2;exact⟨_,.cons G y⟩) u
end
inductive Cell where
 | val (d:af)
 | own (ds:qD)
 | dct (ks:List (Key×af))
 | rdo (ks:List (Key×af))
 | dtt (ks:KT2)
def Cell.mine:Cell->Bool
 | .val _=>false
 | .own _=>true
 | .dct _=>true
 | .rdo _=>false
 | .dtt _=>true
def Uy(K:qF)(hd:Option ak)(O:ak->Prop)(H:Hp)(l:List (Key×V))(u:List (Key×af)):Prop:=dh (fun(p:Key×V) (q:Key×af)=>p.1=q.1/\Rep K hd O H p.2 q.2) l u
theorem Uy.mono{K:qF}{hd:Option ak}{O u:ak->Prop}{H x:Hp}(y:∀a o,H a=some o->u a->O a)(C:∀a o,¬O a->H a=some o->x a=some o){l:List (Key×V)}{v:List (Key×af)}(r:Uy K hd O H l v):Uy K hd u x l v :=
 Paired.mapP r fun _ _ z=>⟨z.1,z.2.mono y C⟩
abbrev En:=List (Option Cell)
structure Ctx where
 hd:Option ak
 ext:ak->Prop
def OwnS(l:En)(σ:St)(a:ak):Prop:=∃(i:Nat) (c:Cell),c.mine=true/\l[i]?=some (some c)/\σ[i]?=some (some (V.ref a))
def Own(C:Ctx)(l:En)(σ:St)(a:ak):Prop:=C.ext a\/OwnS l σ a
def Hn(hd:Option ak)(H:Hp)(n:Nat):Prop:=∀a,hd=some a->Zu H a n
structure Stt(K:qF)(C:Ctx)(ρ:En)(σ:St)(H:Hp)(n:Nat):Prop where
 len:ρ.length=σ.length
 val:∀(i:Nat) (d:af),ρ[i]?=some (some (Cell.val d))->∃v,σ[i]?=some (some v)/\Rep K C.hd (Own C ρ σ) H v d
 own:∀(i:Nat) (ds:qD),ρ[i]?=some (some (Cell.own ds))->∃a vs,σ[i]?=some (some (V.ref a))/\H a=some (.lst vs)/\Reps K C.hd (Own C ρ σ) H vs ds/\¬C.ext a
 dct:∀(i:Nat) (ks:List (Key×af)),ρ[i]?=some (some (Cell.dct ks))->∃a kvs,σ[i]?=some (some (V.ref a))/\H a=some (.dK kvs)/\Uy K C.hd (Own C ρ σ) H kvs ks/\¬C.ext a
 rdo:∀(i:Nat) (ks:List (Key×af)),ρ[i]?=some (some (Cell.rdo ks))->∃a kvs,σ[i]?=some (some (V.ref a))/\H a=some (.dK kvs)/\Uy K C.hd (Own C ρ σ) H kvs ks/\C.ext a/\C.hd≠some a
 dtt:∀(i:Nat) (ks:KT2),ρ[i]?=some (some (Cell.dtt ks))->∃a zs ep,σ[i]?=some (some (V.ref a))/\H a=some (ZDO a zs ep)/\J3 K C.hd (Own C ρ σ) H zs ks/\¬C.ext a
 dif:∀(i j:Nat) (c e:Cell) (a:ak),c.mine=true->e.mine=true->ρ[i]?=some (some c)->ρ[j]?=some (some e)->σ[i]?=some (some (V.ref a))->σ[j]?=some (some (V.ref a))->i=j
 hnd:Hn C.hd H n
 ext:∀a,C.ext a->MutO (H a)
 hx:∀a,C.hd=some a->C.ext a
def ExtE(hd:Option ak)(H l:Hp):Prop:=∀a o,H a=some o->hd≠some a->l a=some o
theorem ExtE.refl:ExtE hd H H:=fun _ _ h _=>h
theorem ExtE.trans(a:ExtE hd H H1)(b:ExtE hd H1 H2):ExtE hd H H2:=fun c o h n=>b c o (a c o h n) n
theorem ExtE.new(h:H p=none):ExtE hd H (upd H p o):=fun b u e _=>by
 rw[Jn (Qs e h)];exact e
section
variable{K:qF}{C:Ctx}{ρ:En}{σ:St}{H H':Hp}{n n':Nat}
theorem MutO.ne(h:MutO o):o≠none:=by
 rcases h with⟨_,rfl⟩|⟨_,rfl⟩|⟨_,_,_,rfl⟩ <;> exact fun z=>by cases z
theorem Stt.at(S:Stt K C ρ σ H n){i:Nat}{c:Cell}(m:c.mine=true)(G:ρ[i]?=some (some c)):∃a:ak,σ[i]?=some (some (V.ref a))/\MutO (H a)/\¬C.ext a:=by
 cases c with
 | val d=>cases m
 | own ds =>
  obtain⟨a,I,u,x,_,v⟩:=S.own i ds G;exact⟨a,u,.inl ⟨_,x⟩,v⟩
 | dct y =>
  obtain⟨a,I,u,x,_,v⟩:=S.dct i y G;exact⟨a,u,.inr (.inl ⟨_,x⟩),v⟩
 | rdo y=>cases m
 | dtt y =>
  obtain⟨a,I,J,u,x,_,v⟩:=S.dtt i y G;exact⟨a,u,.inr (.inr ⟨_,_,_,x⟩),v⟩
theorem Stt.lst(S:Stt K C ρ σ H n){a:ak}(h:Own C ρ σ a):MutO (H a):=by
 rcases h with h|⟨i,c,m,u,v⟩
 ·exact S.ext a h
 ·obtain⟨b,l,x,_⟩:=S.at m u;rw[v]at l;cases l;exact x
theorem Stt.dom(S:Stt K C ρ σ H n)(h:Own C ρ σ a):H a≠none:=(S.lst h).ne
theorem Stt.free(S:Stt K C ρ σ H n)(h:H a=none):¬Own C ρ σ a:=fun z=>S.dom z h
theorem ExtE.rep(e:ExtE C.hd H H')(hx:∀a,C.hd=some a->C.ext a){v d}(r:Rep K C.hd (Own C ρ σ) H v d):Rep K C.hd (Own C ρ σ) H' v d :=
 r.mono (fun _ _ _ z=>z) fun a o no h=>e a o h fun z=>no (.inl (hx a z))
theorem ExtE.reps(e:ExtE C.hd H H')(hx:∀a,C.hd=some a->C.ext a){v d}(r:Reps K C.hd (Own C ρ σ) H v d):Reps K C.hd (Own C ρ σ) H' v d :=
 r.mono (fun _ _ _ z=>z) fun a o no h=>e a o h fun z=>no (.inl (hx a z))
theorem Stt.on(S:Stt K C ρ σ H n)(e:ExtE C.hd H H')(h:Hn C.hd H' n'):Stt K C ρ σ H' n' where
 len:=S.len
 val:=fun i d hi=>by
  obtain⟨v,x,y⟩:=S.val i d hi;exact⟨v,x,e.rep S.hx y⟩
 own:=fun i ds hi=>by
  obtain⟨a,G,x,y,I,u⟩:=S.own i ds hi;exact⟨a,G,x,e a _ y fun z=>u (S.hx a z),e.reps S.hx I,u⟩
 dct:=fun i J hi=>by
  obtain⟨a,G,x,y,I,u⟩:=S.dct i J hi;exact⟨a,G,x,e a _ y fun z=>u (S.hx a z),Paired.mapP I fun _ _ z=>⟨z.1,e.rep S.hx z.2⟩,u⟩
 rdo:=fun i J hi=>by
  obtain⟨a,G,x,y,I,u,N⟩:=S.rdo i J hi;exact⟨a,G,x,e a _ y N,Paired.mapP I fun _ _ z=>⟨z.1,e.rep S.hx z.2⟩,u,N⟩
 dtt:=fun i J hi=>by
  obtain⟨a,G,L,x,y,I,u⟩:=S.dtt i J hi;exact⟨a,G,L,x,e a _ y fun z=>u (S.hx a z),I.mono (fun _ _ _ z=>z) (fun a o no h=>e a o h fun z=>no (.inl (S.hx a z))),u⟩
 dif:=S.dif
 hnd:=h
 ext:=fun a R=>by
  by_cases z:C.hd=some a
  ·obtain⟨d,m,t,q,_⟩:=h a z;exact .inl ⟨_,q⟩
  ·rcases S.ext a R with⟨xs,q⟩|⟨xs,q⟩|⟨b,xs,L,q⟩
   ·exact .inl ⟨xs,e a _ q z⟩
   ·exact .inr (.inl ⟨xs,e a _ q z⟩)
   ·exact .inr (.inr ⟨b,xs,L,e a _ q z⟩)
 hx:=S.hx
end
abbrev DTE:=En->Nat->(af->Nat->Prop)->Prop
abbrev DTT:=En->Nat->(Bool->Nat->Prop)->Prop
abbrev DTA:=En->Nat->(List af->Nat->Prop)->Prop
def DE(X:Cx)(e:aO)(d:DTE):Prop:=∃x,PE X e x/\∀(C:Ctx) (u:En) (σ:St) (H:Hp) (n:Nat) (Q:VK) (R:qN),Stt X.K C u σ H n->d u n R ->
 (∀t y v l,R t y->ExtE C.hd H l->Hn C.hd l y->Rep X.K C.hd (Own C u σ) l v t->Q v l)->x σ H Q
def RepT(K:qF)(hd:Option ak)(O:ak->Prop)(H:Hp)(v:V)(t:af):Prop :=
 Rep K hd O H v t\/(∃a u ds,v=.ref a/\t=.list ds/\H a=some (.lst u)/\Reps K hd O H u ds/\hd≠some a)\/∃a zs y x,v=.ref a/\t=.dict (U4 x)/\H a=some (ZDO a zs y)/\J3 K hd O H zs x/\hd≠some a
def DL(X:Cx)(e:aO)(d:DTE):Prop:=∃x,PE X e x/\∀(C:Ctx) (u:En) (σ:St) (H:Hp) (n:Nat) (Q:VK) (R:qN),Stt X.K C u σ H n->d u n R ->
 (∀t y v l,R t y->ExtE C.hd H l->Hn C.hd l y->RepT X.K C.hd (Own C u σ) l v t->Q v l)->x σ H Q
def DN(X:Cx)(e:aO)(d:DTA):Prop:=∃y,PE X e y/\∀(C:Ctx) (v:En) (σ:St) (H:Hp) (n:Nat) (Q:VK) (R:List af->Nat->Prop),Stt X.K C v σ H n->d v n R ->
 (∀ts G p x u,R ts G->ExtE C.hd H u->Hn C.hd u G->H p=none->u p=some (.lst x)->Reps X.K C.hd (fun a=>Own C v σ a\/a=p) u x ts->Q (.ref p) u)->y σ H Q
def DT(X:Cx)(e:aO)(d:DTT):Prop:=∃v,PT X e v/\∀(C:Ctx) (u:En) (σ:St) (H:Hp) (n:Nat) (Q:Bool->Hp->Prop) (R:Bool->Nat->Prop),Stt X.K C u σ H n->d u n R ->
 (∀b x l,R b x->ExtE C.hd H l->Hn C.hd l x->Q b l)->v σ H Q
def DW(X:Cx)(e:aO)(d:DTT):Prop:=∃v,PW X e v/\∀(C:Ctx) (u:En) (σ:St) (H:Hp) (n:Nat) (Q:Bool->Hp->Prop) (R:Bool->Nat->Prop),Stt X.K C u σ H n->d u n R ->
 (∀b x l,R b x->ExtE C.hd H l->Hn C.hd l x->Q b l)->v σ H Q
def DB(X:Cx)(y:List aO)(d:DTA):Prop:=∃v,PB X y v/\∀(C:Ctx) (u:En) (σ:St) (H:Hp) (n:Nat) (Q:List V->Hp->Prop) (R:List af->Nat->Prop),Stt X.K C u σ H n->d u n R ->
 (∀ts G x l,R ts G->ExtE C.hd H l->Hn C.hd l G->Reps X.K C.hd (Own C u σ) l x ts->ts.length=y.length->Q x l)->v σ H Q
section
variable{X:Cx}{e a b c:aO}{es:List aO}{d da db dc:DTE}{pos:Pos}
theorem dl(h:DE X e d):DL X e d:=by
 obtain⟨u,p,h⟩:=h;exact⟨u,p,fun C J σ H n Q R S hd I=>h C J σ H n Q R S hd fun t L v x r e y G=>I t L v x r e y (.inl G)⟩
def dNew(d:DTA):DTE:=fun u n R=>d u n fun ts v=>R (.list ts) v
theorem Jl{d:DTA}(h:DN X e d):DE X e (dNew d):=by
 obtain⟨u,p,h⟩:=h;refine⟨u,p,fun C I σ H n Q R S hd G=>h C I σ H n Q _ S hd fun ts J p U v r e x y N L=>G _ J _ v r e x (.lst N (S.free y) (L.mono (fun _ _ _ z=>.inl z) fun _ _ _ z=>z))⟩
def dVar(i:Nat):DTE:=fun l n R=>match l[i]? with|some (some (Cell.val d))=>R d n|_=>False
def dOwn(i:Nat):DTE:=fun u n R=>match u[i]? with|some (some (Cell.own d))=>R (.list d) n|_=>False
def dC(t:af):DTE:=fun _ n R=>R t n
theorem Jk(i:Nat)(u:X.N[i]?=some x:=by rfl)(I:Vis X.env.scope x:=by walk_at "V")(hd:(x == ("__debug__":Str))=false:=by rfl)
  (l:(x == ("__classdict__":Str))=false:=by rfl):DE X (.Name x pos) (dVar i):=by
 refine⟨_,QV u I hd l,fun C L σ H n Q R S h J=>?_⟩
 unfold dVar at h;split at h
 ·rename_i d e;obtain⟨v,y,G⟩:=S.val i d e;exact⟨v,y,J d n v H h ExtE.refl S.hnd G⟩
 ·exact h.elim
theorem Yb(i:Nat)(y:X.N[i]?=some x:=by rfl)(J:Vis X.env.scope x:=by walk_at "V")(hd:(x == ("__debug__":Str))=false:=by rfl)
  (u:(x == ("__classdict__":Str))=false:=by rfl):DL X (.Name x pos) (dOwn i):=by
 refine⟨_,QV y J hd u,fun C Z σ H n Q R S h L=>?_⟩
 unfold dOwn at h;split at h
 ·rename_i ds e;obtain⟨p,v,G,I,Y,U⟩:=S.own i ds e;exact⟨.ref p,G,L _ n _ H h ExtE.refl S.hnd (.inr (.inl ⟨p,v,ds,rfl,rfl,I,Y,fun z=>U (S.hx p z)⟩))⟩
 ·exact h.elim
theorem Je{i j pos}:DE X (.Constant (.int i) j pos) (dC (.int i)):=⟨_,JD,fun _ _ _ H n _ _ S h l=>l _ n _ H h ExtE.refl S.hnd (.int i)⟩
theorem QP{b j pos}:DE X (.Constant (.bool b) j pos) (dC (.bool b)):=⟨_,zo2,fun _ _ _ H n _ _ S h u=>u _ n _ H h ExtE.refl S.hnd (.bl b)⟩
theorem QK{j pos}:DE X (.Constant .none j pos) (dC .none):=⟨_,zru,fun _ _ _ H n _ _ S h l=>l _ n _ H h ExtE.refl S.hnd .non⟩
theorem Qi{x j pos}:DE X (.Constant (.str x) j pos) (dC (.str x)):=⟨_,zrq,fun _ _ _ H n _ _ S h l=>l _ n _ H h ExtE.refl S.hnd (.str x)⟩
end
section
variable{K:qF}{hd:Option ak}{O:ak->Prop}{H H':Hp}{v:V}{t:af}{n:Nat}
theorem Same.ext(h:Same H H'):ExtE hd H H':=fun a o e _=>h a o e
theorem Hn.same(h:Hn hd H n)(s:Same H H'):Hn hd H' n:=fun a e=>by
 obtain⟨d,m,t,q,r⟩:=h a e;exact⟨d,m,t,s _ _ q,r⟩
theorem Reps.same{vs ts}(s:Same H H')(r:Reps K hd O H vs ts):Reps K hd O H' vs ts:=r.mono (fun _ _ _ z=>z) fun a o _ h=>s a o h
theorem ExtE.repT(e:ExtE C.hd H H')(hx:∀a,C.hd=some a->C.ext a)(r:RepT K C.hd (Own C ρ σ) H v t):RepT K C.hd (Own C ρ σ) H' v t:=by
 rcases r with r|⟨a,J,ds,x,y,I,G,u⟩|⟨a,zs,L,N,x,y,I,G,u⟩
 ·exact .inl (e.rep hx r)
 ·exact .inr (.inl ⟨a,J,ds,x,y,e _ _ I u,e.reps hx G,u⟩)
 ·exact .inr (.inr ⟨a,zs,L,N,x,y,e _ _ I u,G.mono (fun _ _ _ z=>z) (fun a o no h=>e a o h fun z=>no (.inl (hx a z))),u⟩)
theorem RepT.lstI{ds}(h:RepT K hd O H v (.list ds)):∃a u,v=.ref a/\H a=some (.lst u)/\Reps K hd O H u ds:=by
 rcases h with h|⟨a,u,I,y,x,C,G,_⟩|⟨a,u,J,I,y,x,C,G,_⟩
 ·obtain⟨a,u,y,x,_,C⟩:=h.lstI;exact⟨a,u,y,x,C⟩
 ·cases x;exact⟨a,u,y,C,G⟩
 ·cases x
theorem RepT.tupI{ds}(h:RepT K hd O H v (.tuple ds)):∃a x,v=.ref a/\SqT K H a x/\Reps K hd O H x ds:=by
 rcases h with h|⟨a,x,I,C,y,G,J,_⟩|⟨a,x,L,I,C,y,G,J,_⟩
 ·exact h.tupI
 ·cases y
 ·cases y
theorem RepT.rep(h:RepT K hd O H v t)(nl:∀ds,t≠.list ds)(nd:∀y,t≠.dict (U4 y):=by intro y z;first|cases z|exact dict_noT (kR z)):Rep K hd O H v t:=by
 rcases h with h|⟨a,C,x,G,u,I,J,_⟩|⟨a,C,L,x,G,u,I,J,_⟩
 ·exact h
 ·exact absurd u (nl x)
 ·exact absurd u (nd x)
theorem RepT.intI{i}(h:RepT K hd O H v (.int i)):v=.int i:=(h.rep (by intro _ z;cases z)).intI
theorem RepT.blI{i}(h:RepT K hd O H v (.bool i)):v=.bl i:=(h.rep (by intro _ z;cases z)).blI
theorem RepT.strI{i}(h:RepT K hd O H v (.str i)):v=.str i:=(h.rep (by intro _ z;cases z)).strI
theorem RepT.nonI(h:RepT K hd O H v .none):v=.non:=(h.rep (by intro _ z;cases z)).nonI
theorem Rep.newT{vs ts}(no:¬O p)(h:H p=none)(r:Reps K hd O H vs ts):Rep K hd O (upd H p (.tup vs)) (.ref p) (.tuple ts) :=
 .tup JM no (r.same (fun b u e=>by rw[Jn (Qs e h)];exact e))
end
theorem JS(h:H p=none):Same H (upd H p o):=fun b u e=>by
 rw[Jn (Qs e h)];exact e
abbrev G2:=af->af->(af->Prop)->Prop
def dOp(g:G2)(v db:DTE):DTE:=fun l n R=>v l n fun x u=>db l u fun y C=>g x y fun z=>R z C
def Gp2(X:Cx)(r:R2)(g:G2):Prop:=∀(hd:Option ak) (O:ak->Prop) (H:Hp) (x y:V) (t u:af) (Q:VK) (R:af->Prop),(∀p,O p->H p≠none)->RepT X.K hd O H x t->RepT X.K hd O H y u->g t u R ->
 (∀z v l,R z->Same H l->Rep X.K hd O l v z->Q v l)->r x y H Q
section
variable{X:Cx}{a b c:aO}{da db dc:DTE}{pos:Pos}{r r':R2}{g g':G2}
theorem two{C:Ctx}{l:En}{σ:St}{H:Hp}{n:Nat}{ta tb:TE}(ha:∀(C:Ctx) (l:En) (σ:St) (H:Hp) (n:Nat) (Q:VK) (R:qN),Stt X.K C l σ H n->da l n R ->
  (∀t L v G,R t L->ExtE C.hd H G->Hn C.hd G L->RepT X.K C.hd (Own C l σ) G v t->Q v G)->ta σ H Q)
  (hb:∀(C:Ctx) (l:En) (σ:St) (H:Hp) (n:Nat) (Q:VK) (R:qN),Stt X.K C l σ H n->db l n R ->
  (∀t L v G,R t L->ExtE C.hd H G->Hn C.hd G L->RepT X.K C.hd (Own C l σ) G v t->Q v G)->tb σ H Q)
  {Z:V->V->Hp->Prop} {R2:af->af->Nat->Prop} (S:Stt X.K C l σ H n) (h:da l n fun x U=>db l U fun y J=>R2 x y J)
  (hq:∀x y J v w I,R2 x y J->ExtE C.hd H I->Stt X.K C l σ I J->RepT X.K C.hd (Own C l σ) I v x->RepT X.K C.hd (Own C l σ) I w y->Z v w I) :
  ta σ H fun v N=>tb σ N fun w I=>Z v w I:=by
 refine ha C l σ H n _ _ S h fun t U v N r1 e1 h1 q1=>?_
 have S1:=S.on e1 h1;refine hb C l σ N U _ _ S1 r1 fun u J w I r2 Y h2 q2=>?_
 exact hq t u J v w I r2 (e1.trans Y) (S1.on Y h2) (Y.repT S.hx q1) q2
theorem QZ{op:Operator}(Y:OpR X (binaryOp op) r)(hg:Gp2 X r g)(G:DL X a da)(l:DL X b db):DE X (.BinOp a op b pos) (dOp g da db):=by
 obtain⟨ta,pa,G⟩:=G;obtain⟨tb,pb,l⟩:=l;refine⟨_,JB Y pa pb,fun C ρ σ H n Q R S h Z=>?_⟩
 refine two G l S h fun x y L v w H2 N e J q1 q2=>?_
 exact hg C.hd (Own C ρ σ) H2 v w x y Q _ (fun p=>J.dom) q1 q2 N fun z u U rz I rp=>Z z L u U rz (e.trans I.ext) (J.hnd.same I) rp
theorem Qx{op:nI}(Y:OpR X (compareOp op) r)(hg:Gp2 X r g)(G:DL X a da)(l:DL X b db)(hm:behindInMarks op b=false):DE X (.Compare a [op] [b] pos) (dOp g da db):=by
 obtain⟨ta,pa,G⟩:=G;obtain⟨tb,pb,l⟩:=l;refine⟨_,zkH Y pa pb hm,fun C ρ σ H n Q R S h Z=>?_⟩
 refine two G l S h fun x y L v w H2 N e J q1 q2=>?_
 exact hg C.hd (Own C ρ σ) H2 v w x y Q _ (fun p=>J.dom) q1 q2 N fun z u U rz I rp=>Z z L u U rz (e.trans I.ext) (J.hnd.same I) rp
def QY(d:DTE):DTT:=fun u n R=>d u n fun t v=>match t with|.bool k=>R k v|_=>False
theorem Jp{op:nI}(Z:OpR X (compareOp op) r)(hg:Gp2 X r g)(G:DL X a da)(l:DL X b db)(hm:behindInMarks op b=false):DT X (.Compare a [op] [b] pos) (QY (dOp g da db)):=by
 obtain⟨ta,pa,G⟩:=G;obtain⟨tb,pb,l⟩:=l;refine⟨_,zhA Z pa pb hm,fun C ρ σ H n Q R S h hq=>?_⟩
 refine two G l S h fun x y N v w H2 U e J q1 q2=>?_
 refine hg C.hd (Own C ρ σ) H2 v w x y _ _ (fun p=>J.dom) q1 q2 U fun z u Y L I rp=>?_
 cases z with
 | bool k =>
  cases rp;exact⟨k,rfl,hq k N Y L (e.trans I.ext) (J.hnd.same I)⟩
 | _=>exact L.elim
def U6(g g':G2)(da db dc:DTE):DTE:=fun u n R=>da u n fun x C=>db u C fun y v=>g x y fun z=>match z with
 | .bool true=>dc u v fun w G=>g' y w fun z=>R z G
 | .bool false=>R (.bool false) v
 | _=>False
def gI(C:Int->Int->Prop)(f:Int->Int->Int):G2
 | .int i,.int j,R=>C i j/\R (.int (f i j))
 | _,_,_=>False
def gB(f:Int->Int->Bool):G2
 | .int i,.int j,R=>R (.bool (f i j))
 | _,_,_=>False
theorem gp_I:Gp2 X (rI C fun i j=>.int (f i j)) (gI C f):=by
 intro hd O H x y t u Q R dom v l h G;unfold gI at h;split at h
 ·rename_i i j;exact⟨i,j,v.intI,l.intI,h.1,G _ _ H h.2 (Same.refl H) (.int _)⟩
 ·exact h.elim
def gI0(f:Int->Int->Int):G2
 | .int i,.int j,R=>R (.int (f i j))
 | _,_,_=>False
theorem zpT:Gp2 X (rI0 fun i j=>.int (f i j)) (gI0 f):=by
 intro hd O H x y t u Q R dom v l h C;unfold gI0 at h;split at h
 ·rename_i i j;exact⟨i,j,v.intI,l.intI,C _ _ H h (Same.refl H) (.int _)⟩
 ·exact h.elim
theorem gp_B:Gp2 X (rI0 fun i j=>.bl (f i j)) (gB f):=by
 intro hd O H x y t u Q R dom C v h G;unfold gB at h;split at h
 ·rename_i i j;exact⟨i,j,C.intI,v.intI,G _ _ H h (Same.refl H) (.bl _)⟩
 ·exact h.elim
end
section
variable{X:Cx}{a b c:aO}{da db dc:DTE}{pos:Pos}
def oSub:=gI0 fun i j=>i - j
def oMod:=gI (fun _ j=>0<j) fun i j=>i % j
def U5:=gI Yq fun i j=>i / j
def oShl:=gI CPow fun i j=>i*2 ^ j.toNat
def oXor:=gI0 eQ
def oAnd:=gI0 fB
theorem UE(v:DL X a da)(l:DL X b db):DE X (.BinOp a .Sub b pos) (dOp oSub da db):=QZ zrC zpT v l
theorem Zy(u:DL X a da)(l:DL X b db):DE X (.BinOp a .Mod b pos) (dOp oMod da db):=QZ UK gp_I u l
theorem zp9(x:DL X a da)(u:DL X b db):DE X (.BinOp a .FloorDiv b pos) (dOp U5 da db):=QZ Vq gp_I x u
theorem JV(u:DL X a da)(l:DL X b db):DE X (.BinOp a .LShift b pos) (dOp oShl da db):=QZ zrD gp_I u l
theorem ztn(u:DL X a da)(l:DL X b db):DE X (.BinOp a .BitXor b pos) (dOp oXor da db):=QZ zrB zpT u l
theorem zts(u:DL X a da)(l:DL X b db):DE X (.BinOp a .BitAnd b pos) (dOp oAnd da db):=QZ zrM zpT u l
end
section
variable{X:Cx}{pins:qO}{σ:St}{H:Hp}{s:au}{hd:Option ak}{O:ak->Prop}
theorem RepT.reads(I:Inv X pins σ H s)(h:RepT X.K hd O H v d)(r:RelV v u)(e:d.hasDict=false):∃y,Reads s.heap u d y:=by
 rcases h with h|⟨a,N,ds,rfl,rfl,G,C,_⟩|⟨a,zs,U,Y,rfl,rfl,G,C,_⟩
 rotate_left 2
 ·simp[ck]at e
 ·exact h.reads I r e
 ·cases r;obtain⟨J,S,p,_⟩:=I.list (xs:=N) (.inl (.inl G));obtain⟨o,n,L,hc,_,x⟩:=p;obtain⟨y,R⟩:=Reps.reads I C S (by simpa[ck] using e)
  exact⟨_,.list L hc x (by simpa using R)⟩
end
def Okd(t:af):Prop:=t.canLay0=true/\t.depth<=60
section
variable{X:Cx}{a b c:aO}{da db dc:DTE}{pos:Pos}{k:Nat}
def rEqD(K:qF)(neg:Bool):R2:=fun x y H Q=>∃hd O t u,RepT K hd O H x t/\RepT K hd O H y u/\Okd t/\Okd u/\Q (.bl (if neg then !t.eqv u else t.eqv u)) H
theorem zrK(S:Room k X.A):OpR X (compareOp .Eq) (rEqD X.K false):=by
 intro pins s σ H x y v u Q I L J h;obtain⟨hd,O,t,w,R,U,C,G,q⟩:=h;obtain⟨Z,N⟩:=R.reads I L (bS _ C.1);obtain⟨bs,Y⟩:=U.reads I J (bS _ G.1);refine SeqAt.compareEq_reads N Y C.1 G.1 ?_ ⟨.bl _,H,I,rfl,q⟩;have:=S.un;have:=C.2;omega
theorem zrF(U:Room k X.A):OpR X (compareOp .NotEq) (rEqD X.K true):=by
 intro pins s σ H x y v u Q I L J h;obtain⟨hd,O,t,w,S,Y,C,G,q⟩:=h;obtain⟨as,R⟩:=S.reads I L (bS _ C.1);obtain⟨bs,Z⟩:=Y.reads I J (bS _ G.1);refine SeqAt.compareNe_reads R Z C.1 G.1 ?_ ⟨.bl _,H,I,rfl,q⟩;have:=U.un;have:=C.2;omega
theorem Vp:Okd .none:=⟨by simp[bp],by simp[cC]⟩
def oEq:G2
 | .int i,.int j,R=>R (.bool (decide (i=j)))
 | .str i,.str j,R=>R (.bool (decide (i=j)))
 | .bool i,.bool j,R=>R (.bool (decide (i=j)))
 | t,u,R=>Okd t/\Okd u/\R (.bool (t.eqv u))
def oNe:G2
 | .int i,.int j,R=>R (.bool (!decide (i=j)))
 | .str i,.str j,R=>R (.bool (!decide (i=j)))
 | .bool i,.bool j,R=>R (.bool (!decide (i=j)))
 | t,u,R=>Okd t/\Okd u/\R (.bool (!t.eqv u))
def rEqA(K:qF):R2:=fun x y H Q=>rEq x y H Q\/rEqD K false x y H Q
def rNeA(K:qF):R2:=fun x y H Q=>rNe x y H Q\/rEqD K true x y H Q
theorem Qy(l:Room k X.A):OpR X (compareOp .Eq) (rEqA X.K):=OpR.or zu7 (zrK l)
theorem QU(l:Room k X.A):OpR X (compareOp .NotEq) (rNeA X.K):=OpR.or zu5 (zrF l)
theorem Qv:Gp2 X (rEqA X.K) oEq:=by
 intro hd O H x y t u Q R dom C v h G;unfold oEq at h;split at h
 ·rename_i i j;rw[C.intI,v.intI];refine .inl ⟨rfl,?_⟩;have e:decide (V.int i=V.int j)=decide (i=j):=decide_eq_decide.mpr ⟨fun z=>by cases z;rfl,fun z=>by rw[z]⟩
  rw[e];exact G _ _ H h (Same.refl H) (.bl _)
 ·rename_i i j;rw[C.strI,v.strI];refine .inl ⟨rfl,?_⟩;have e:decide (V.str i=V.str j)=decide (i=j):=decide_eq_decide.mpr ⟨fun z=>by cases z;rfl,fun z=>by rw[z]⟩
  rw[e];exact G _ _ H h (Same.refl H) (.bl _)
 ·rename_i i j;rw[C.blI,v.blI];refine .inl ⟨rfl,?_⟩;have e:decide (V.bl i=V.bl j)=decide (i=j):=decide_eq_decide.mpr ⟨fun z=>by cases z;rfl,fun z=>by rw[z]⟩
  rw[e];exact G _ _ H h (Same.refl H) (.bl _)
 ·exact .inr ⟨hd,O,_,_,C,v,h.1,h.2.1,G _ _ H h.2.2 (Same.refl H) (.bl _)⟩
theorem QQ:Gp2 X (rNeA X.K) oNe:=by
 intro hd O H x y t u Q R dom C v h G;unfold oNe at h;split at h
 ·rename_i i j;rw[C.intI,v.intI];refine .inl ⟨rfl,?_⟩;have e:decide (V.int i=V.int j)=decide (i=j):=decide_eq_decide.mpr ⟨fun z=>by cases z;rfl,fun z=>by rw[z]⟩
  rw[e];exact G _ _ H h (Same.refl H) (.bl _)
 ·rename_i i j;rw[C.strI,v.strI];refine .inl ⟨rfl,?_⟩;have e:decide (V.str i=V.str j)=decide (i=j):=decide_eq_decide.mpr ⟨fun z=>by cases z;rfl,fun z=>by rw[z]⟩
  rw[e];exact G _ _ H h (Same.refl H) (.bl _)
 ·rename_i i j;rw[C.blI,v.blI];refine .inl ⟨rfl,?_⟩;have e:decide (V.bl i=V.bl j)=decide (i=j):=decide_eq_decide.mpr ⟨fun z=>by cases z;rfl,fun z=>by rw[z]⟩
  rw[e];exact G _ _ H h (Same.refl H) (.bl _)
 ·exact .inr ⟨hd,O,_,_,C,v,h.1,h.2.1,G _ _ H h.2.2 (Same.refl H) (.bl _)⟩
def isNone:af->Bool
 | .none=>true
 | _=>false
def oIs:G2
 | .bool a,.bool b,R=>R (.bool (a == b))
 | t,.none,R=>R (.bool (isNone t))
 | _,_,_=>False
def rIs:R2:=fun x y H Q=>(y=.non/\Q (.bl (decide (x=.non))) H)\/∃a b,x=.bl a/\y=.bl b/\Q (.bl (a == b)) H
theorem YC:OpR X (compareOp .Is) rIs:=OpR.or zrI zrJ
theorem RepT.isN{K:qF}{hd:Option ak}{O:ak->Prop}{H:Hp}{v:V}{t:af}(h:RepT K hd O H v t):decide (v=.non)=(isNone t):=by
 rcases h with h|⟨a,x,ds,rfl,rfl,l,u,_⟩|⟨a,zs,y,C,rfl,rfl,l,u,_⟩
 ·cases h <;> simp[HAND,SCR,EXC,isNone]
 ·simp[isNone]
 ·simp[isNone]
theorem Yw:Gp2 X rIs oIs:=by
 intro hd O H x y t u Q R dom C v h G;unfold oIs at h;split at h
 ·rename_i i j;exact .inr ⟨i,j,C.blI,v.blI,G _ _ H h (Same.refl H) (.bl _)⟩
 ·refine .inl ⟨v.nonI,?_⟩;rw[C.isN];exact G _ _ H h (Same.refl H) (.bl _)
 ·exact h.elim
def rInD(K:qF)(neg:Bool):R2:=fun x y H Q=>∃hd O t ts,RepT K hd O H x t/\(RepT K hd O H y (.tuple ts)\/RepT K hd O H y (.list ts))/\Okd t/\(∀u∈ts,Okd u)/\Q (.bl (if neg then !ts.any (fun u=>u.eqv t) else ts.any (fun u=>u.eqv t))) H
theorem zkT:∀{ts:qD},(∀u∈ts,Okd u)->aZ ts=true
 | [],_=>by simp[aZ]
 | t::ts,h=>by
  simp only[aZ,aF];exact⟨(h t (by simp)).1,zkT fun u l=>h u (by simp[l])⟩
theorem zkM(Z:Room k X.A):OpR X (compareOp .NotIn) (rInD X.K true):=by
 intro pins s σ H x y v u Q I U L h;obtain⟨hd,O,t,ts,Y,C,G,h4,q⟩:=h;obtain⟨as,R⟩:=Y.reads I U (bS _ G.1);have cl:=zkT h4;have S:X.A.units+1+min (bN ts) t.depth<cLine:=by
  have:=Z.un;have:=G.2;omega
 rcases C with C|C
 ·obtain⟨bs,J⟩:=C.reads I L (bS _ (by simpa[bp] using cl))
  exact SeqAt.notIn_tuple_reads J R cl G.1 S ⟨.bl _,H,I,rfl,q⟩
 ·obtain⟨bs,J⟩:=C.reads I L (bS _ (by simpa[bp] using cl))
  exact SeqAt.notIn_list_reads J R cl G.1 S ⟨.bl _,H,I,rfl,q⟩
def YH:G2
 | t,.tuple ts,R=>Okd t/\(∀u∈ts,Okd u)/\R (.bool (!ts.any fun u=>u.eqv t))
 | t,.list ts,R=>Okd t/\(∀u∈ts,Okd u)/\R (.bool (!ts.any fun u=>u.eqv t))
 | _,_,_=>False
theorem znM:Gp2 X (rInD X.K true) YH:=by
 intro hd O H x y t u Q R dom C v h G;unfold YH at h;split at h
 ·exact⟨hd,O,_,_,C,.inl v,h.1,h.2.1,G _ _ H h.2.2 (Same.refl H) (.bl _)⟩
 ·exact⟨hd,O,_,_,C,.inr v,h.1,h.2.1,G _ _ H h.2.2 (Same.refl H) (.bl _)⟩
 ·exact h.elim
def oLtA:G2
 | .int i,.int j,R=>R (.bool (decide (i<j)))
 | .str i,.str j,R=>R (.bool (decide (i.cps.toList<j.cps.toList)))
 | .tuple xs,.tuple ys,R=>∃ns v,xs=ns.map bK/\ys=v.map bK/\R (.bool (HT.lexLt ns v))
 | _,_,_=>False
def rLtA(K:qF):R2:=fun x y H Q=>(rI0 fun i j=>.bl (decide (i<j))) x y H Q\/(∃i j,x=.str i/\y=.str j/\Q (.bl (decide (i.cps.toList<j.cps.toList))) H)\/rLtT K x y H Q
theorem Qp(l:Room k X.A):OpR X (compareOp .Lt) (rLtA X.K):=OpR.or zrH (OpR.or zkN (zrG l.units0))
theorem zdQ{K:qF}{hd:Option ak}{O:ak->Prop}{H:Hp}:∀{ns:List Int}{l:List V},Reps K hd O H l (ns.map bK)->l=ns.map V.int
 | [],_,h=>by cases h;rfl
 | n::ns,_,h=>by
  cases h with
  | cons h r=>rw[h.intI,zdQ r];rfl
theorem Qm:Gp2 X (rLtA X.K) oLtA:=by
 intro hd O H x y t u Q R dom C v h G;unfold oLtA at h;split at h
 ·exact .inl ⟨_,_,C.intI,v.intI,G _ _ H h (Same.refl H) (.bl _)⟩
 ·exact .inr (.inl ⟨_,_,C.strI,v.strI,G _ _ H h (Same.refl H) (.bl _)⟩)
 ·obtain⟨ns,J,rfl,rfl,h⟩:=h;obtain⟨p,U,N,s1,L⟩:=C.tupI;obtain⟨q,Y,S,s2,I⟩:=v.tupI;rw[zdQ L]at s1;rw[zdQ I]at s2;exact .inr (.inr ⟨p,q,ns,J,N,S,s1,s2,G _ _ H h (Same.refl H) (.bl _)⟩)
 ·exact h.elim
def oLeA:G2
 | .int i,.int j,R=>R (.bool (decide (i<=j)))
 | .str i,.str j,R=>R (.bool (!decide (j.cps.toList<i.cps.toList)))
 | _,_,_=>False
def rLeA:R2:=fun x y H Q=>(rI0 fun i j=>.bl (decide (i<=j))) x y H Q\/(∃i j,x=.str i/\y=.str j/\Q (.bl (!decide (j.cps.toList<i.cps.toList))) H)
theorem zkO:OpR X (compareOp .LtE) (fun x y H Q=>∃i j,x=.str i/\y=.str j/\Q (.bl (!decide (j.cps.toList<i.cps.toList))) H):=by
 intro pins s σ H x y v u Q I G C h;obtain⟨i,j,rfl,rfl,q⟩:=h;obtain⟨t,rfl⟩:=G;obtain⟨t',rfl⟩:=C;exact PySem.P.le_str ⟨.bl _,H,I,rfl,q⟩
theorem Qo:OpR X (compareOp .LtE) rLeA:=OpR.or zu6 zkO
theorem Qk:Gp2 X rLeA oLeA:=by
 intro hd O H x y t u Q R dom C v h G;unfold oLeA at h;split at h
 ·exact .inl ⟨_,_,C.intI,v.intI,G _ _ H h (Same.refl H) (.bl _)⟩
 ·exact .inr ⟨_,_,C.strI,v.strI,G _ _ H h (Same.refl H) (.bl _)⟩
 ·exact h.elim
variable{r r':R2}{g g':G2}
theorem Vj(ho:OpR X (compareOp op) r)(hg:Gp2 X r g)(U:OpR X (compareOp op') r')(hg':Gp2 X r' g')(ha:DL X a da)(hb:DL X b db)(hc:DL X c dc)
  (hm:lastMarks [op,op'] [b,c]=false:=by with_unfolding_all rfl):DE X (.Compare a [op,op'] [b,c] pos) (U6 g g' da db dc):=by
 obtain⟨ta,pa,ha⟩:=ha;obtain⟨tb,pb,hb⟩:=hb;obtain⟨tc,pc,hc⟩:=hc;refine⟨_,zm1 ho U pa pb pc hm,fun C Z σ H n Q R S h hq=>?_⟩
 refine two ha hb S h fun x y n2 v w H2 r2 e S2 q1 q2=>?_
 refine hg C.hd (Own C Z σ) H2 v w x y _ _ (fun p=>S2.dom) q1 q2 r2 fun z u G L I rp=>?_
 have N:=S2.on I.ext (S2.hnd.same I);cases z with
 | bool k =>
  cases rp;refine⟨k,rfl,?_⟩;cases k with
  | false=>exact iteF (hq _ n2 _ G L (e.trans I.ext) N.hnd (.bl _))
  | true =>
   refine iteT (hc C Z σ G n2 _ _ N L fun z2 n3 w2 H4 r4 Y h4 q4=>?_)
   have S4:=N.on Y h4;have q2':=Y.repT S.hx ((Same.ext I:ExtE C.hd H2 G).repT S.hx q2);exact hg' C.hd (Own C Z σ) H4 w w2 y z2 Q _ (fun p=>S4.dom) q2' q4 r4 fun z u G L J rp=>hq z n3 u G L (((e.trans I.ext).trans Y).trans J.ext) (S4.hnd.same J) rp
 | _=>exact L.elim
end
section
variable{X:Cx}{a b c e:aO}{es rest:List aO}{d da db dc:DTE}{t u:DTT}{pos p:Pos}{k:Nat}
def truD:af->(Bool->Prop)->Prop
 | .none,R=>R false
 | .bool b,R=>R b
 | .int i,R=>R (decide (i≠0))
 | .str x,R=>x.length<=16777216/\R (decide (x.length≠0))
 | .list ts,R=>R (!ts.isEmpty)
 | .tuple ts,R=>R (!ts.isEmpty)
 | _,_=>False
def dTru(d:DTE):DTT:=fun l n R=>d l n fun t v=>truD t fun b=>R b v
theorem zn_{K:qF}{hd:Option ak}{O:ak->Prop}{H:Hp}{v:V}{t:af}{Q:Bool->Hp->Prop}{R:Bool->Prop}(r:RepT K hd O H v t)(h:truD t R)(y:∀b,R b->Q b H):∃k,TruV K v H k/\Q k H:=by
 cases t with
 | none=>exact⟨false,by rw[r.nonI];rfl,y _ h⟩
 | bool b=>exact⟨b,by rw[r.blI];rfl,y _ h⟩
 | int i=>exact⟨decide (i≠0),by rw[r.intI];show _=(i != 0);by_cases z:i=0 <;> simp[z],y _ h⟩
 | str x =>
  refine⟨decide (x.length≠0),by rw[r.strI];exact⟨h.1,by by_cases z:x.length=0 <;> simp[z]⟩,y _ h.2⟩
 | list ts =>
  obtain⟨p,C,e,G,I⟩:=r.lstI;subst e;refine⟨!ts.isEmpty,.inl ⟨C,.of G,?_⟩,y _ h⟩;cases I <;> rfl
 | tuple ts =>
  obtain⟨p,C,e,G,I⟩:=r.tupI;subst e;refine⟨!ts.isEmpty,.inr (.inl ⟨C,G,?_⟩),y _ h⟩;cases I <;> rfl
 | dict _=>exact h.elim
theorem Qc(l:DL X a da)(U:∀whole,isTrue a X.env whole=(do let v <- whole;standAt a.pos;holding [v] (truthy v)):=by intro _;rfl):DT X a (dTru da):=by
 obtain⟨Y,pa,l⟩:=l;refine⟨_,zmR pa U,fun C I σ H n Q R S h G=>?_⟩
 refine l C I σ H n _ _ S h fun t J v x r L y q=>?_
 exact zn_ q r fun b N=>G b J x N L y
def dAnd(t u:DTT):DTT:=fun v n R=>t v n fun b l=>if b=true then u v l R else R false l
def dOr(t u:DTT):DTT:=fun v n R=>t v n fun b l=>if b=true then R true l else u v l R
def dNot(t:DTT):DTT:=fun v n R=>t v n fun b l=>R (!b) l
theorem Qb(h:DW X a t):DT X a t:=by
 obtain⟨l,pa,h⟩:=h;exact⟨_,pa.pt,h⟩
theorem YV(h:DT X a t):DW X (.BoolOp .And [a] pos) t:=by
 obtain⟨v,pa,h⟩:=h;exact⟨_,zoM pa,h⟩
theorem QS(h:DT X a t):DW X (.BoolOp .Or [a] pos) t:=by
 obtain⟨v,pa,h⟩:=h;exact⟨_,zra pa,h⟩
theorem YT(h:DT X a t)(h':DW X (.BoolOp .And (b::rest) pos) u):DW X (.BoolOp .And (a::b::rest) pos) (dAnd t u):=by
 obtain⟨ta,pa,h⟩:=h;obtain⟨tb,U,h'⟩:=h';refine⟨_,zrb pa U,fun C I σ H n Q R S hd G=>?_⟩
 refine h C I σ H n _ _ S hd fun b J x r v y=>?_
 cases b with
 | true=>exact iteT (h' C I σ x J Q R (S.on v y) (by simpa using r) fun b L Y r Z N=>G b L Y r (v.trans Z) N)
 | false=>exact iteF (G _ J x (by simpa using r) v y)
theorem Qu(h:DT X a t)(h':DW X (.BoolOp .Or (b::rest) pos) u):DW X (.BoolOp .Or (a::b::rest) pos) (dOr t u):=by
 obtain⟨ta,pa,h⟩:=h;obtain⟨tb,U,h'⟩:=h';refine⟨_,zu0 pa U,fun C I σ H n Q R S hd G=>?_⟩
 refine h C I σ H n _ _ S hd fun b J x r v y=>?_
 cases b with
 | false=>exact iteF (h' C I σ x J Q R (S.on v y) (by simpa using r) fun b L Y r Z N=>G b L Y r (v.trans Z) N)
 | true=>exact iteT (G _ J x (by simpa using r) v y)
theorem Qj(h:DT X a t):DT X (.UnaryOp .Not a pos) (dNot t):=by
 obtain⟨L,pa,h⟩:=h;refine⟨_,zre pa,fun C G σ H n Q R S hd x=>?_⟩
 exact h C G σ H n _ _ S hd fun b I l r J v=>x _ I l r J v
def bolD:af->(Bool->Prop)->Prop
 | .bool b,R=>R b
 | _,_=>False
def zqd(da db:DTE):DTE:=fun x n R=>da x n fun t v=>bolD t fun b=>if b=true then db x v R else R (.bool false) v
def dOrV(da db:DTE):DTE:=fun x n R=>da x n fun t v=>bolD t fun b=>if b=true then R (.bool true) v else db x v R
def zqb(da:DTE):DTE:=fun x n R=>da x n fun t v=>bolD t fun b=>R (.bool (!b)) v
theorem Ui{op}(h:DE X a d):DE X (.BoolOp op [a] pos) d:=by
 obtain⟨v,pa,h⟩:=h;exact⟨_,zrs pa,h⟩
theorem YU(h:DE X a da)(h':DE X (.BoolOp .And (b::rest) pos) db):DE X (.BoolOp .And (a::b::rest) pos) (zqd da db):=by
 obtain⟨ta,pa,h⟩:=h;obtain⟨tb,pb,h'⟩:=h';refine⟨_,zry pa pb,fun C J σ H n Q R S hd I=>?_⟩
 refine h C J σ H n _ _ S hd fun t L v y r x G Z=>?_
 cases t with
 | bool b =>
  cases Z;refine⟨b,rfl,?_⟩;cases b with
  | true=>exact iteT (h' C J σ y L Q R (S.on x G) (by simpa[bolD] using r) fun t N v H2 r e2 U Y=>I t N v H2 r (x.trans e2) U Y)
  | false=>exact iteF (I _ L _ y (by simpa[bolD] using r) x G (.bl _))
 | _=>exact r.elim
theorem zov(h:DE X a da)(h':DE X (.BoolOp .Or (b::rest) pos) db):DE X (.BoolOp .Or (a::b::rest) pos) (dOrV da db):=by
 obtain⟨ta,pa,h⟩:=h;obtain⟨tb,pb,h'⟩:=h';refine⟨_,zu2 pa pb,fun C J σ H n Q R S hd I=>?_⟩
 refine h C J σ H n _ _ S hd fun t L v y r x G Z=>?_
 cases t with
 | bool b =>
  cases Z;refine⟨b,rfl,?_⟩;cases b with
  | false=>exact iteF (h' C J σ y L Q R (S.on x G) (by simpa[bolD] using r) fun t N v H2 r e2 U Y=>I t N v H2 r (x.trans e2) U Y)
  | true=>exact iteT (I _ L _ y (by simpa[bolD] using r) x G (.bl _))
 | _=>exact r.elim
theorem zp5(h:DE X a da):DE X (.UnaryOp .Not a pos) (zqb da):=by
 obtain⟨ta,pa,h⟩:=h;refine⟨_,zrt pa,fun C J σ H n Q R S hd I=>?_⟩
 refine h C J σ H n _ _ S hd fun t Y v x r Z G L=>?_
 cases t with
 | bool b =>
  cases L;exact⟨b,rfl,I _ Y _ x r Z G (.bl _)⟩
 | _=>exact r.elim
def dIfE(t:DTT)(da db:DTE):DTE:=fun l n R=>t l n fun b v=>if b=true then da l v R else db l v R
theorem znY(hc:DT X c t)(h:DE X a da)(h':DE X b db):DE X (.IfExp c a b pos) (dIfE t da db):=by
 obtain⟨tc,pc,hc⟩:=hc;obtain⟨ta,pa,h⟩:=h;obtain⟨tb,pb,h'⟩:=h';refine⟨_,zm0 pc pa pb,fun C L σ H n Q R S hd hq=>?_⟩
 refine hc C L σ H n _ _ S hd fun b n1 Y r l Z=>?_
 cases b with
 | true=>exact iteT (h C L σ Y n1 Q R (S.on l Z) (by simpa using r) fun t y v N r U G J=>hq t y v N r (l.trans U) G J)
 | false=>exact iteF (h' C L σ Y n1 Q R (S.on l Z) (by simpa using r) fun t y v N r U G J=>hq t y v N r (l.trans U) G J)
def dNil:DTA:=fun _ n R=>R [] n
def Qa(d:DTE)(ds:DTA):DTA:=fun l n R=>d l n fun t v=>ds l v fun ts x=>R (t::ts) x
theorem Ja:DB X [] dNil:=⟨_,Qz,fun C x σ H n Q R S h v=>v [] n [] H h ExtE.refl S.hnd .nil rfl⟩
theorem zlK(h:DE X e d)(l:DB X es ds)(hs:starEach (e::es) X.env=(false,eval e X.env)::starEach es X.env):DB X (e::es) (Qa d ds):=by
 obtain⟨ta,pa,h⟩:=h;obtain⟨tb,pb,l⟩:=l;refine⟨_,J1 pa pb hs,fun C x σ H n Q R S hd Y=>?_⟩
 refine h C x σ H n _ _ S hd fun t n1 v L r y N q1=>?_
 refine l C x σ L n1 _ _ (S.on y N) r fun ts I vs H2 J G U Z l2=>?_
 exact Y _ I _ H2 J (y.trans G) U (.cons (G.rep S.hx q1) Z) (by simp[l2])
def Yr(K:qF)(hd:Option ak)(O:ak->Prop)(H:Hp):List V->List af->Prop:=dh (RepT K hd O H)
def DBL(X:Cx)(es:List aO)(d:DTA):Prop:=∃x,PB X es x/\∀(C:Ctx) (v:En) (σ:St) (H:Hp) (n:Nat) (Q:List V->Hp->Prop) (R:List af->Nat->Prop),Stt X.K C v σ H n->d v n R ->
 (∀ts G y l,R ts G->ExtE C.hd H l->Hn C.hd l G->Yr X.K C.hd (Own C v σ) l y ts->ts.length=es.length->Q y l)->x σ H Q
theorem Jo:DBL X [] dNil:=⟨_,Qz,fun C x σ H n Q R S h v=>v [] n [] H h ExtE.refl S.hnd .nil rfl⟩
theorem Ji(h:DL X e d)(l:DBL X es ds)(hs:starEach (e::es) X.env=(false,eval e X.env)::starEach es X.env):DBL X (e::es) (Qa d ds):=by
 obtain⟨ta,pa,h⟩:=h;obtain⟨tb,pb,l⟩:=l;refine⟨_,J1 pa pb hs,fun C x σ H n Q R S hd Y=>?_⟩
 refine h C x σ H n _ _ S hd fun t n1 v L r y N q1=>?_
 refine l C x σ L n1 _ _ (S.on y N) r fun ts I vs H2 J G U Z l2=>?_
 exact Y _ I _ H2 J (y.trans G) U (.cons (G.repT S.hx q1) Z) (by simp[l2])
def dTup(ds:DTA):DTE:=fun x n R=>ds x n fun ts v=>R (.tuple ts) v
theorem Js(h:DB X es ds)(L:es.length<=sizeLine:=by decide):DE X (.Tuple es x1 pos) (dTup ds):=by
 obtain⟨ta,pa,h⟩:=h;refine⟨_,zoV pa,fun C J σ H n Q R S hd I=>?_⟩
 refine h C J σ H n _ _ S hd fun ts U Z H1 r G x y Y=>⟨by rw[y.length,Y];exact L,fun p v=>?_⟩
 have N:=S.on G x;exact I _ U _ _ r (G.trans (ExtE.new v)) (x.same (JS v)) (.newT (N.free v) v y)
theorem Jz(h:DB X es ds)(Z:es.length<=sizeLine:=by decide):DN X (.List es pos) ds:=by
 obtain⟨ta,pa,h⟩:=h;refine⟨_,zkF pa,fun C Y σ H n Q R S hd U=>?_⟩
 refine h C Y σ H n _ _ S hd fun ts n1 N H1 r I x J l1=>⟨by rw[J.length,l1];exact Z,fun p l=>?_⟩
 have S1:=S.on I x;have G:H p=none:=by
  cases z:H p with
  | none=>rfl
  | some o =>
   by_cases y:C.hd=some p
   ·obtain⟨d,m,t,q,_⟩:=x p y;rw[l]at q;cases q
   ·rw[I p o z y]at l;cases l
 refine U ts n1 p N _ r (I.trans (ExtE.new l)) (x.same (JS l)) G JM ?_;refine J.mono (fun b o v z=>z.elim id fun z=>?_) fun b o _ v=>JS l b o v
 subst z;rw[l]at v;cases v
end
section
variable{X:Cx}{a b c e:aO}{es rest:List aO}{d da db dc:DTE}{ds:DTA}{pos p:Pos}{k:Nat}{x:Str}
abbrev GC:=List af->(af->Prop)->Prop
def YR(g:GC)(ds:DTA):DTE:=fun u n R=>ds u n fun ts l=>g ts fun z=>R z l
def GpC(X:Cx)(r:List V->Hp->VK->Prop)(g:GC):Prop:=∀(hd:Option ak) (O:ak->Prop) (H:Hp) (xs:List V) (ts:qD) (Q:VK) (R:af->Prop),(∀p,O p->H p≠none)->Yr X.K hd O H xs ts->g ts R ->
 (∀z v l,R z->Same H l->Rep X.K hd O l v z->Q v l)->r xs H Q
theorem JA{id:String}{r:List V->Hp->VK->Prop}{g:GC}(hc:JN X (.builtin id) r)(v:GpC X r g)(hm:X.mg x=none)(hv:bootBuiltins x=some (.builtin id))(h:DBL X (e::es) ds)(hg:Gl X x:=by rfl)(hn:x ≠ "__name__":=by decide) (y:(x == ("__debug__":Str))=false:=by rfl) :
  DE X (.Call (.Name x p) (e::es) [] pos) (YR g ds):=by
 obtain⟨ta,pa,h⟩:=h;refine⟨_,Uf hc hm hv pa hg hn y,fun C J σ H n Q R S hd hq=>?_⟩
 refine h C J σ H n _ _ S hd fun ts n1 Y Z r1 L I q1 _=>?_
 have S1:=S.on L I;exact v C.hd (Own C J σ) Z Y ts Q _ (fun p=>S1.dom) q1 r1 fun z u U rz G rp=>hq z n1 u U rz (L.trans G.ext) (I.same G) rp
theorem Qg(hc:JN X (.type T) r)(v:GpC X r g)(hm:X.mg x=none)(hv:bootBuiltins x=some (.type T))(h:DBL X (e::es) ds)(hg:Gl X x:=by rfl)(hn:x ≠ "__name__":=by decide) (G:(x == ("__debug__":Str))=false:=by rfl) :
  DE X (.Call (.Name x p) (e::es) [] pos) (YR g ds):=by
 obtain⟨ta,pa,h⟩:=h;refine⟨_,zrw hc hm hv pa hg hn G,fun C L σ H n Q R S hd hq=>?_⟩
 refine h C L σ H n _ _ S hd fun ts n1 Z H1 r1 U J q1 _=>?_
 have S1:=S.on U J;exact v C.hd (Own C L σ) H1 Z ts Q _ (fun p=>S1.dom) q1 r1 fun z u Y rz I rp=>hq z n1 u Y rz (U.trans I.ext) (J.same I) rp
theorem QJ{K:qF}{hd:Option ak}{O:ak->Prop}{H:Hp}{xs:List V}{t:af}(h:Yr K hd O H xs [t]):∃v,xs=[v]/\RepT K hd O H v t:=by
 cases h with
 | cons h r=>cases r;exact⟨_,rfl,h⟩
theorem zkt{K:qF}{hd:Option ak}{O:ak->Prop}{H:Hp}{xs:List V}{t u:af}(h:Yr K hd O H xs [t,u]):∃v w,xs=[v,w]/\RepT K hd O H v t/\RepT K hd O H w u:=by
 cases h with
 | cons h r=>cases r with|cons l r=>cases r;exact⟨_,_,rfl,h,l⟩
def bLen:GC:=fun l R=>(∃ts,l=[.list ts]/\R (.int ts.length))\/(∃ts,l=[.tuple ts]/\R (.int ts.length))\/(∃x:Str,l=[.str x]/\x.length<=16777216/\R (.int x.length))\/∃ts,l=[.dict [(.none,.list ts)]]/\R (.int ts.length)
def rLen(K:qF):List V->Hp->VK->Prop:=fun xs H Q=>∃x n,xs=[x]/\LenV K x H n/\Q (.int n) H
theorem Uk:GpC X (rLen X.K) bLen:=by
 intro hd O H xs ts Q R dom rs h y;rcases h with⟨ts,rfl,h⟩|⟨ts,rfl,h⟩|⟨x,rfl,h⟩|⟨ts,rfl,h⟩
 ·obtain⟨v,rfl,r⟩:=QJ rs;obtain⟨p,C,rfl,u,I⟩:=r.lstI;exact⟨_,_,rfl,.inl ⟨C,.of u,rfl⟩,by rw[I.length];exact y _ _ H h (Same.refl H) (.int _)⟩
 ·obtain⟨v,rfl,r⟩:=QJ rs;obtain⟨p,C,rfl,u,I⟩:=r.tupI;exact⟨_,_,rfl,.inr ⟨C,u,rfl⟩,by rw[I.length];exact y _ _ H h (Same.refl H) (.int _)⟩
 ·obtain⟨v,rfl,r⟩:=QJ rs;rw[r.strI];exact⟨_,_,rfl,⟨h.1,rfl⟩,y _ _ H h.2 (Same.refl H) (.int _)⟩
 ·obtain⟨v,rfl,r⟩:=QJ rs;have r:=r.rep (by intro _ z;cases z)
  generalize e:(uu [(lh,uv ts)])=t at r;cases r with
  | scr u o =>
   simp only[SCR,iZ,fX,ka,mO,true_and,and_true]at e;subst e;exact⟨_,_,rfl,.inl ⟨_,.inl u,rfl⟩,by simpa using y _ _ H h (Same.refl H) (.int _)⟩
  | scrS u =>
   simp only[SCR,iZ,fX,ka,mO,true_and,and_true]at e;subst e;exact⟨_,_,rfl,.inl ⟨_,u H,rfl⟩,by simpa using y _ _ H h (Same.refl H) (.int _)⟩
  | hand _=>simp[HAND]at e
  | exc _ _=>simp[EXC]at e
  | dct _ _=>cases e
  | dcK _ _ _ G=>cases e;exact(dict_noK G).elim
  | dcT _ _ _ G=>cases e;exact(dict_noT G).elim
  | _=>cases e
def bMin:GC
 | [.int i,.int j],R=>R (.int (if j<i then j else i))
 | _,_=>False
def bMax:GC
 | [.int i,.int j],R=>R (.int (if j > i then j else i))
 | _,_=>False
theorem YM:GpC X (fun xs H Q=>∃i j,xs=[.int i,.int j]/\Q (.int (if j<i then j else i)) H) bMin:=by
 intro hd O H xs ts Q R dom rs h y;unfold bMin at h;split at h
 ·obtain⟨v,w,rfl,l,u⟩:=zkt rs;rw[l.intI,u.intI];exact⟨_,_,rfl,y _ _ H h (Same.refl H) (.int _)⟩
 ·exact h.elim
theorem Z4:GpC X (fun xs H Q=>∃i j,xs=[.int i,.int j]/\Q (.int (if j > i then j else i)) H) bMax:=by
 intro hd O H xs ts Q R dom rs h y;unfold bMax at h;split at h
 ·obtain⟨v,w,rfl,l,u⟩:=zkt rs;rw[l.intI,u.intI];exact⟨_,_,rfl,y _ _ H h (Same.refl H) (.int _)⟩
 ·exact h.elim
def bInt:GC
 | [.int i],R=>R (.int i)
 | [.bool k],R=>R (.int (if k then 1 else 0))
 | _,_=>False
theorem Z3:GpC X (fun xs H Q=>(∃i,xs=[.int i]/\Q (.int i) H)\/∃k,xs=[.bl k]/\Q (.int (if k then 1 else 0)) H) bInt:=by
 intro hd O H xs ts Q R dom rs h y;unfold bInt at h;split at h
 ·obtain⟨v,rfl,u⟩:=QJ rs;rw[u.intI];exact .inl ⟨_,rfl,y _ _ H h (Same.refl H) (.int _)⟩
 ·obtain⟨v,rfl,u⟩:=QJ rs;rw[u.blI];exact .inr ⟨_,rfl,y _ _ H h (Same.refl H) (.int _)⟩
 ·exact h.elim
def bAll:GC
 | [.list ts],R=>∃bs:List Bool,ts=bs.map cq/\R (.bool (bs.all id))
 | _,_=>False
theorem Vx{K:qF}{hd:Option ak}{O:ak->Prop}{H:Hp}:∀{ns:List Bool}{l:List V},Reps K hd O H l (ns.map cq)->l=ns.map V.bl
 | [],_,h=>by cases h;rfl
 | n::ns,_,h=>by
  cases h with
  | cons h r=>rw[h.blI,Vx r];rfl
theorem Z2:GpC X (fun xs H Q=>∃(a:ak) (bs:List Bool),xs=[.ref a]/\SqL X.K H a (bs.map V.bl)/\Q (.bl (bs.all id)) H) bAll:=by
 intro hd O H xs ts Q R dom rs h C;unfold bAll at h;split at h
 ·obtain⟨bs,rfl,h⟩:=h;obtain⟨v,rfl,G⟩:=QJ rs;obtain⟨p,I,rfl,u,y⟩:=G.lstI;rw[Vx y]at u;exact⟨p,bs,rfl,.of u,C _ _ H h (Same.refl H) (.bl _)⟩
 ·exact h.elim
def YF:GC
 | [.list ts],R=>R (.tuple ts)
 | [.tuple ts],R=>R (.tuple ts)
 | _,_=>False
theorem Q6:GpC X (fun xs H Q=>∃p ys,xs=[.ref p]/\((SqL X.K H p ys/\∀l,H l=none->Q (.ref l) (upd H l (.tup ys)))\/(SqT X.K H p ys/\Q (.ref p) H))) YF:=by
 intro hd O H xs ts Q R dom rs h L;unfold YF at h;split at h
 ·obtain⟨v,rfl,y⟩:=QJ rs;obtain⟨p,C,rfl,G,J⟩:=y.lstI;refine⟨p,C,rfl,.inl ⟨.of G,fun l I=>?_⟩⟩
  exact L _ _ _ h (JS I) (.newT (fun z=>dom l z I) I J)
 ·obtain⟨v,rfl,y⟩:=QJ rs;obtain⟨p,C,rfl,G,J⟩:=y.tupI;exact⟨p,C,rfl,.inr ⟨G,L _ _ H h (Same.refl H) (y.rep (by intro _ z;cases z))⟩⟩
 ·exact h.elim
def JW:af->(List af->Prop)->Prop
 | .list ts,R=>R ts
 | .tuple ts,R=>R ts
 | _,_=>False
def tyN:af->Option String
 | .none=>some "NoneType"
 | .bool _=>some "bool"
 | .int _=>some "int"
 | .str _=>some "str"
 | .list _=>some "list"
 | .tuple _=>some "tuple"
 | .dict []=>some "dict"
 | .dict _=>none
def rIsi(K:qF):List V->Hp->VK->Prop:=fun xs H Q=>∃x hd O t T y b,xs=[x,.ty T]/\RepT K hd O H x t/\tyN t=some y/\kitB y T=some b/\Q (.bl b) H
theorem zl1:JN X (.builtin "isinstance") (rIsi X.K):=by
 intro pins s σ H xs us Q I r h;obtain⟨x,hd,O,t,T,y,b,rfl,L,ty,e,q⟩:=h;cases r with
 | cons C Y =>
  cases Y with
  | cons S r4 =>
   cases r4;cases(show _=bh T from S)
   have fin:∀R,tyN t=some R->R=y:=fun R h=>aJ (h.symm.trans ty)
   have go:Ty H x y->wpAny (model X.prog X.w) X.A (call (.builtin "isinstance") [_,bh T]) (EP X pins σ Q) X.xe s:=fun ty=>zlk I C ty.of ((U7 X.K y T).trans e) fun tk=>⟨.bl b,H,I.tok tk,rfl,q⟩
   rcases L with L|⟨a,Z,ds,rfl,rfl,N,h4,_⟩|⟨a,zs,G,J,rfl,rfl,N,h4,_⟩
   ·cases L with
    | non=>cases ty;exact go .non
    | bl b=>cases ty;exact go (.bl b)
    | int i=>cases ty;exact go (.int i)
    | str i=>cases ty;exact go (.str i)
    | tup h o r=>cases ty;exact go (.tup h)
    | lst h o r=>cases ty;exact go (.lst h)
    | @dct a G h o =>
      cases ty;cases(show _=bT a from C)
      obtain⟨⟨_,_,_,v,es,g1,g2,_⟩,_⟩:=I.hok a _ h;exact bu eE I.kIn ⟨v,g1,g2.1⟩ ((U7 X.K "dict" T).trans e) (fun z=>nomatch z) fun tk=>⟨.bl b,H,I.tok tk,rfl,q⟩
    | @dcK a kvs G J ps h o r e' =>
     cases ps with
     | nil =>
      cases ty;cases(show _=bT a from C)
      obtain⟨⟨_,_,_,v,es,g1,g2,_⟩,_⟩:=I.hok a _ h;exact bu eE I.kIn ⟨v,g1,g2.1⟩ ((U7 X.K "dict" T).trans e) (fun z=>nomatch z) fun tk=>⟨.bl b,H,I.tok tk,rfl,q⟩
     | cons _ _=>simp[tyN]at ty
    | @dcT a zs G J ps h o r e' =>
     cases ps with
     | nil =>
      cases ty;cases(show _=bT a from C)
      obtain⟨⟨_,_,_,v,es,g1,g2,_⟩,_⟩:=I.hok a _ h;exact bu eE I.kIn ⟨v,g1,g2.1⟩ ((U7 X.K "dict" T).trans e) (fun z=>nomatch z) fun tk=>⟨.bl b,H,I.tok tk,rfl,q⟩
     | cons _ _=>simp[tyN]at ty
    | hand h=>simp[HAND,tyN]at ty
    | scr h o=>simp[SCR,tyN]at ty
    | scrS h=>simp[SCR,tyN]at ty
    | exc h o=>simp[EXC,tyN]at ty
    | @tupS a Z ds h r =>
     cases ty;cases(show _=bT a from C)
     obtain⟨o,U,n,hk,hc,_⟩:=h;exact bu lX I.kIn ⟨o,I.kIn a o hk,hc⟩ ((U7 X.K "tuple" T).trans e) (fun z=>nomatch z) fun tk=>⟨.bl b,H,I.tok tk,rfl,q⟩
   ·cases ty;exact go (.lst N)
   ·cases J with
    | nil =>
     cases ty;cases(show _=bT a from C)
     obtain⟨⟨_,_,_,v,es,g1,g2,_⟩,_⟩:=I.hok a _ N;exact bu eE I.kIn ⟨v,g1,g2.1⟩ ((U7 X.K "dict" T).trans e) (fun z=>nomatch z) fun tk=>⟨.bl b,H,I.tok tk,rfl,q⟩
    | cons _ _=>simp[tyN,U4]at ty
def Shd(t:af):Prop:=t.showable=true/\t.hasDict=false/\t.depth<=60/\t.shown.length<=16777216
def zq8(K:qF):List V->Hp->VK->Prop:=fun xs H Q=>∃x hd O d,xs=[x]/\RepT K hd O H x d/\Shd d/\Q (.str d.shown) H
theorem Yo(y:Room k X.A):JN X (.builtin "repr") (zq8 X.K):=by
 intro pins s σ H xs us Q I r h;obtain⟨x,hd,O,d,rfl,rp,⟨J,C,h3,N⟩,q⟩:=h;cases r with
 | cons Y S =>
  cases S;have fin:∀h' tk u,(∀b o,s.heap.get? b=some o->h'.get? b=some o)->EP X pins σ Q (.str d.shown u) { s with heap:=h',toks:=tk }:=fun h' tk u v=>⟨.str d.shown,H,I.kept v,⟨_,rfl⟩,q⟩
  have G:∀tk u,EP X pins σ Q (.str d.shown u) { s with toks:=tk }:=fun tk u=>⟨.str d.shown,H,I.tok tk,⟨_,rfl⟩,q⟩
  obtain⟨as,U⟩:=rp.reads I Y C;cases U with
  | none=>exact P.repr_of_none (by simpa only[gy] using G _ _)
  | bool b=>exact P.repr_of_bool (by simpa only[gy] using G _ _)
  | int i=>exact P.repr_of_int (by simpa[hW] using J) (by simpa only[gy] using G _ _)
  | str x=>exact P.repr_of_str (by simpa only[gy] using G _ _) (by have Z:_<=sizeLine:=N;simpa only[gy] using Z)
  | list a1 a2 L R=>exact oI (.list a1 a2 L R) J (mP C) y.gd (by have:=y.units;omega) (fun _ _ e=>e) (fun h' u tk v=>fin h' tk u v) N
  | tuple a1 a2 L R=>exact oI (.tuple a1 a2 L R) J (mP C) y.gd (by have:=y.units;omega) (fun _ _ e=>e) (fun h' u tk v=>fin h' tk u v) N
  | dict _ _ _ _ _=>simp[ck]at C
def Yt:GC
 | [t],R=>Shd t/\R (.str t.shown)
 | _,_=>False
theorem Ym:GpC X (zq8 X.K) Yt:=by
 intro hd O H xs ts Q R dom rs h u;unfold Yt at h;split at h
 ·obtain⟨v,rfl,l⟩:=QJ rs;exact⟨v,hd,O,_,rfl,l,h.1,u _ _ H h.2 (Same.refl H) (.str _)⟩
 ·exact h.elim
end
section
variable{X:Cx}{a b c e:aO}{es rest:List aO}{d da db dc:DTE}{ds:DTA}{pos p:Pos}{k:Nat}{x:Str}
theorem Reps.atI{K:qF}{hd:Option ak}{O:ak->Prop}{H:Hp}{vs ts}{i:Int}{t}(r:Reps K hd O H vs ts)(h:L2.atI ts i=some t):∃v,L2.atI vs i=some v/\Rep K hd O H v t:=by
 unfold L2.atI at h ⊢;rw[r.length];cases e:ixN ts.length i with
 | none=>rw[e]at h;cases h
 | some j =>
  rw[e]at h;have h:ts[j]?=some t:=h;exact r.get h
def oIx:G2
 | .list ts,.int i,R=>match atI ts i with|some t=>R t|none=>False
 | .tuple ts,.int i,R=>match atI ts i with|some t=>R t|none=>False
 | .str x,.int i,R=>x.length<=16777216/\match atI x.cps.toList i with|some c=>R (.str ⟨#[c]⟩)|none=>False
 | _,_,_=>False
theorem zvJ:Gp2 X (rIx X.K) oIx:=by
 intro hd O H x y t u Q R dom G C h U;unfold oIx at h;split at h
 ·rename_i ts i;obtain⟨p,I,rfl,J,L⟩:=G.lstI;split at h
  ·rename_i t S;obtain⟨v,ev,N⟩:=L.atI S;exact .inl ⟨p,I,i,v,rfl,C.intI,.of J,ev,U _ _ H h (Same.refl H) N⟩
  ·exact h.elim
 ·rename_i ts i;obtain⟨p,I,rfl,J,L⟩:=G.tupI;split at h
  ·rename_i t S;obtain⟨v,ev,N⟩:=L.atI S;exact .inr (.inl ⟨p,I,i,v,rfl,C.intI,J,ev,U _ _ H h (Same.refl H) N⟩)
  ·exact h.elim
 ·rename_i z i;obtain⟨h0,h⟩:=h;split at h
  ·rename_i c Y;exact .inr (.inr ⟨z,i,c,G.strI,C.intI,h0,Y,U _ _ H h (Same.refl H) (.str _)⟩)
  ·exact h.elim
 ·exact h.elim
theorem Jj(G:DL X a da)(l:DL X b db)(hs:zme b:=by intro _ _;rfl):DE X (.Subscript a b pos) (dOp oIx da db):=by
 obtain⟨ta,pa,G⟩:=G;obtain⟨tb,pb,l⟩:=l;refine⟨_,Ug zsA pa pb hs,fun C ρ σ H n Q R S h Y=>?_⟩
 refine two G l S h fun x y L v w H2 N e J q1 Z=>?_
 exact zvJ C.hd (Own C ρ σ) H2 v w x y Q _ (fun p=>J.dom) q1 Z N fun z u U rz I rp=>Y z L u U rz (e.trans I.ext) (J.hnd.same I) rp
def dNeg(d:DTE):DTE:=fun u n R=>d u n fun t l=>match t with|.int i=>R (.int (-i)) l|_=>False
theorem U9(h:DE X a da):DE X (.UnaryOp .USub a pos) (dNeg da):=by
 obtain⟨Z,pa,h⟩:=h;refine⟨_,zu1 zqA pa,fun C J σ H n Q R S hd I=>?_⟩
 refine h C J σ H n _ _ S hd fun t N v l r Y G L=>?_
 cases t with
 | int i=>rw[L.intI];exact⟨i,rfl,I _ N _ l r Y G (.int _)⟩
 | _=>exact r.elim
def zq9(K:qF):R2:=fun x y H Q=>∃a b xs ys,x=.ref a/\y=.ref b/\SqT K H a xs/\SqT K H b ys/\xs.length+ys.length<=sizeLine /\
 (xs=[]->Q (.ref b) H)/\(ys=[]->Q (.ref a) H)/\∀p,H p=none->Q (.ref p) (upd H p (.tup (xs++ys)))
theorem zo_:OpR X (binaryOp .Add) (zq9 X.K):=by
 intro pins s σ H x y v u Q I S R h;obtain⟨a,b,xs,ys,rfl,rfl,ha,Y,hz,q0,q1,q2⟩:=h
 by_cases hx:xs=[]
 ·cases S;cases R;obtain⟨l,r1,p1,_⟩:=I.tuple ha;obtain⟨J,r2,p2,_⟩:=I.tuple Y;have hv:l=[]:=r1.nil_iff.mpr hx;obtain⟨⟨cls,dd,data,sl⟩,U,hc,n,hd⟩:=id p1;obtain⟨⟨Z,L,data2,N⟩,G,C,n2,hd2⟩:=id p2;simp only at hc hd C hd2;subst hc hd C hd2;exact mH ⟨_,U,rfl⟩ ⟨_,G,rfl⟩ ki lS gu gh (fT _ _)
   (tuple_addW0 a b l.toArray J.toArray n n2 dd L sl N (by simp[hv])) ⟨U,G,⟨.ref b,H,I,rfl,q0 hx⟩⟩
 ·exact zo9 pins s σ H _ _ v u Q I S R ⟨a,b,xs,ys,rfl,rfl,ha,Y,hx,hz,q1,fun _=>q2⟩
def oAdd:G2
 | .int i,.int j,R=>R (.int (i+j))
 | .str i,.str j,R=>i.length+j.length<=16777216/\R (.str (i++j))
 | .tuple xs,.tuple ys,R=>xs.length+ys.length<=16777216/\R (.tuple (xs++ys))
 | _,_,_=>False
def zq_(K:qF):R2:=fun x y H Q=>(rI0 fun i j=>.int (i+j)) x y H Q\/(∃i j,x=.str i/\y=.str j/\i.length+j.length<=sizeLine/\Q (.str (i++j)) H)\/zq9 K x y H Q
theorem zpa:OpR X (binaryOp .Add) (zq_ X.K):=OpR.or Q3 (OpR.or zjw zo_)
theorem zs5:Gp2 X (zq_ X.K) oAdd:=by
 intro hd O H x y t u Q R dom G C h v;unfold oAdd at h;split at h
 ·exact .inl ⟨_,_,G.intI,C.intI,v _ _ H h (Same.refl H) (.int _)⟩
 ·exact .inr (.inl ⟨_,_,G.strI,C.strI,h.1,v _ _ H h.2 (Same.refl H) (.str _)⟩)
 ·rename_i xs ys;obtain⟨p,N,rfl,S,I⟩:=G.tupI;obtain⟨q,Y,rfl,U,L⟩:=C.tupI;refine .inr (.inr ⟨p,q,N,Y,rfl,rfl,S,U,by rw[I.length,L.length];exact h.1,fun e=>?_,fun e=>?_,fun l J=>?_⟩)
  ·subst e;cases I;exact v _ _ H h.2 (Same.refl H) (C.rep (by intro _ z;cases z))
  ·subst e;cases L;exact v _ _ H h.2 (Same.refl H) (by rw[bM];exact G.rep (by intro _ z;cases z))
  ·exact v _ _ _ h.2 (JS J) (.newT (fun z=>dom l z J) J (I.append L))
 ·exact h.elim
theorem JH(u:DL X a da)(l:DL X b db):DE X (.BinOp a .Add b pos) (dOp oAdd da db):=QZ zpa zs5 u l
def dCat(da db:DTE):DTA:=fun u n R=>da u n fun x v=>db u v fun y C=>match x,y with|.list xs,.list ys=>xs.length+ys.length<=16777216/\R (xs++ys) C|_,_=>False
theorem Vc{C:Ctx}{H u:Hp}{v:Nat}{p:ak}(G:ExtE C.hd H u)(I:Hn C.hd u v)(l:u p=none):H p=none:=by
 cases z:H p with
 | none=>rfl
 | some o =>
  by_cases y:C.hd=some p
  ·obtain⟨d,m,t,q,_⟩:=I p y;rw[l]at q;cases q
  ·rw[G p o z y]at l;cases l
theorem zmN{K:qF}{hd:Option ak}{O:ak->Prop}{H:Hp}{p:ak}{o:HO}{vs ts}(u:H p=none)(r:Reps K hd O H vs ts):Reps K hd (fun a=>O a\/a=p) (upd H p o) vs ts:=by
 refine r.mono (fun b o l z=>z.elim id fun z=>?_) fun b o _ l=>JS u b o l
 subst z;rw[u]at l;cases l
theorem Yc(J:DL X a da)(I:DL X b db):DN X (.BinOp a .Add b pos) (dCat da db):=by
 obtain⟨ta,pa,J⟩:=J;obtain⟨tb,pb,I⟩:=I;refine⟨_,JB zrL pa pb,fun C ρ σ H n Q R S h hq=>?_⟩
 refine two J I S h fun x y Y v w H2 u e U q1 q2=>?_
 split at u
 ·obtain⟨p,Z,rfl,h1,L⟩:=q1.lstI;obtain⟨q,ws,rfl,h3,N⟩:=q2.lstI;refine⟨p,q,Z,ws,rfl,rfl,h1,h3,by rw[L.length,N.length];exact u.1,fun l G=>?_⟩
  exact hq _ Y l _ _ u.2 (e.trans (ExtE.new G)) (U.hnd.same (JS G)) (Vc e U.hnd G) JM (zmN G (L.append N))
 ·exact u.elim
def oMul:=gI CMul fun i j=>i*j
theorem ZI(y:DL X a da)(v:DL X b db):DE X (.BinOp a .Mult b pos) (dOp oMul da db):=QZ QT gp_I y v
abbrev GD:=List af->Nat->(af->Nat->Prop)->Prop
def spD(K:qF)(m:Nat)(g:GD):Sp:=fun y H Q _=>∃(hd:Option ak) (O:ak->Prop) (ts:qD) (n:Nat) (R:qN),Reps K hd O H y ts/\Hn hd H n/\(∀a,O a->MutO (H a))/\(∀a,hd=some a->O a)/\ts.length=m/\g ts n R /\
 ∀t u v l,R t u->ExtE hd H l->Hn hd l u->Rep K hd O l v t->Q v l
def dFn(g:GD)(ds:DTA):DTE:=fun u n R=>ds u n fun ts l=>g ts l R
theorem zvM{st:cT}{ps:List Str}{f:ak}{fd:cD}{g:GD}{m:Nat}(D:Bd.Def X.K X.mg x st ps f fd)(G:FnOk X.prog X.w X.K X.mg X.base CX0 k f fd ps (spD X.K m g))(U:Room k X.A)(h:DB X (e::es) ds)(Z:(e::es).length=m:=by rfl)(hg:Gl X x:=by rfl)
  (u:(x == ("__debug__":Str))=false:=by rfl):DE X (.Call (.Name x p) (e::es) [] pos) (dFn g ds):=by
 obtain⟨ta,pa,h⟩:=h;refine⟨_,Bd.zoX D G U pa hg u,fun C I σ H n Q R S hd hq=>?_⟩
 refine h C I σ H n _ _ S hd fun ts n1 vs H1 r1 J y q1 l1=>?_
 have S1:=S.on J y;rw[bM];exact⟨C.hd,Own C I σ,ts,n1,R,q1,y,fun a=>S1.lst,fun a z=>.inl (S.hx a z),l1.trans Z,r1,fun t n' v L rt e2 Y q2=>hq t n' v L rt (J.trans e2) Y q2⟩
def dFnL(g:GD)(ds:DTA):DTE:=fun u n R=>ds u n fun ts l=>g ts l fun t v=>JP t=true/\R t v
theorem ztr{st:cT}{ps:List Str}{f:ak}{fd:cD}{g:GD}{m:Nat}(D:Bd.Def X.K X.mg x st ps f fd)(G:FnOk X.prog X.w X.K X.mg X.base CX0 k f fd ps (spD X.K m g))(hr:Room k X.A)(h:DBL X (e::es) ds)(hm:(e::es).length=m:=by rfl)(hg:Gl X x:=by rfl)
  (y:(x == ("__debug__":Str))=false:=by rfl):DE X (.Call (.Name x p) (e::es) [] pos) (dFnL g ds):=by
 obtain⟨ta,pa,h⟩:=h;refine⟨_,Bd.zoX D G hr pa hg y,fun C ρ σ H n Q R S hd hq=>?_⟩
 refine h C ρ σ H n _ _ S hd fun ts n1 u Y r1 e1 I q1 l1=>?_
 have S1:=S.on e1 I;rw[bM];have lend:∀{u ts},Yr X.K C.hd (Own C ρ σ) Y u ts->Reps X.K C.hd (fun a=>C.hd=some a) Y u ts:=by
  intro u ts q;induction q with
  | nil=>exact .nil
  | cons r _ ih =>
   refine .cons ?_ ih;rcases r with r|⟨a,ws,us,rfl,rfl,U,J,L⟩|⟨a,zs,ep,ks,rfl,rfl,U,J,L⟩
   ·exact r.mono (fun a o _ z=>.inl (S.hx a z)) fun _ _ _ z=>z
   ·exact .lst U L (J.mono (fun a o _ z=>.inl (S.hx a z)) fun _ _ _ z=>z)
   ·exact .dcT U L (J.mono (fun a o _ z=>.inl (S.hx a z)) fun _ _ _ z=>z) rfl
 refine⟨C.hd,fun a=>C.hd=some a,ts,n1,_,lend q1,I,fun a z=>?_,fun a z=>z,l1.trans hm,r1,fun t n' v H' rt e2 Z q2=>?_⟩
 ·obtain⟨d,m,t,q,_⟩:=I a z;exact .inl ⟨_,q⟩
 ·exact hq t n' v H' rt.2 (e1.trans e2) Z (q2.up (fun a z=>(S1.on e2 Z).lst z) rt.1)
end
section
variable{X:Cx}{pins:qO}{σ:St}{H H':Hp}{s s':au}{C e:ak}
theorem Inv.land(I:Inv X pins σ H s)(st:∀b o,s.heap.get? b=some o->b∉frs X.stack->h''.get? b=some o)(up:∀b o,s.heap.get? b=some o->b∈frs X.stack->∃l,h''.get? b=some { o with slots:=l }) :
  Un (frs X.stack) [] H H s.heap h''/\HOk X.prog X.w H h'':=by
 refine⟨⟨fun b o e _ x _=>st b o e x,fun b o e _ hf _=>up b o e hf,fun _ _ _ n _=>n,fun b o e _=>?_,fun _ _ q=>q,fun _ _ _ q=>q,fun _ _ q=>q⟩,fun a u e=>?_⟩
 ·by_cases hf:b∈frs X.stack
  ·obtain⟨l,q⟩:=up b o e hf;exact⟨_,q⟩
  ·exact⟨o,st b o e hf⟩
 ·refine(I.hok a u e).stay (fun c v hc q=>st c v q fun hf=>?_) (fun _ q=>q) (fun _ _ q=>q) fun _ _ _ q=>q
  have n:=I.stkFree c hf;rcases hc with z|z
  ·rw[z]at n;rw[n]at e;cases e
  ·rw[n]at z;cases z
def Fly1(P:aG)(w:aP)(l:List Env)(H H':Hp)(h:aN)(C e:ak)(h':aN):Prop :=
 ∃B u,mQ B l e (.ref C) u h'/\H' e=none/\h.get? e=none/\∀h'',B.StaysIn h''->h'.UpToSlots h''->Un (frs l) [] H H' h h''/\HOk P w H' h''
def CX1(P:aG)(w:aP):CXT:=fun outer H s E e s'=>∃l C H',e=.ref l/\s'.os=s.os/\gV s'.gens/\Fly1 P w outer H H' s.heap C l s'.heap/\E (.ref C) none H'
inductive FlyX (X:Cx)(C:ak)(H':Hp)(e:ak)(s':au):Prop
 | made {Hy:qO} {σ':St} {s h1} (I:Inv X Hy σ' H' s) (m:Heap.MadeExcOf s.heap h1 e (.ref C) []) (hs:s'={ s with heap:=h1 })
 | on {Hy:qO} {σ':St} {H1:Hp} {s} (I:Inv X Hy σ' H1 s) (os:s'.os=s.os) (bare:gV s'.gens) (f:Fly1 X.prog X.w X.stack H1 H' s.heap C e s'.heap)
def XW(X:Cx)(C:ak)(H':Hp):Prop:=∀e s',FlyX X C H' e s'->X.xe (.ref e) s'
theorem zu3:Zv (CX1 X.prog X.w) X (fun u _ H'=>∃C,u=.ref C/\XW X C H'):=fun pins σ H s e s' I l=>by
 obtain⟨x,C,H',rfl,os,bare,f,G,y,v⟩:=l;cases y;exact v x s' (.on I os bare f)
theorem zlp(x:HOk P w H h)(e:H a=some u):∃o,h.get? a=some o:=by
 have x:=x a u e;cases u with
 | lst xs=>obtain⟨_,_,_,_,e⟩:=x;exact⟨_,e⟩
 | tup xs=>obtain⟨_,_,_,o,e,_⟩:=x;exact⟨_,e⟩
 | dK l=>obtain⟨_,_,_,_,o,_,_,e,_⟩:=x;exact⟨_,e⟩
 | dT l=>obtain⟨_,_,_,_,o,_,_,e,_⟩:=x;exact⟨_,e⟩
 | set S n=>obtain⟨o,_,_,_,e,_⟩:=x;exact⟨_,e⟩
 | ins C I fs=>obtain⟨_,_,_,e,_⟩:=x;exact⟨_,e⟩
 | own y=>obtain⟨_,e⟩:=x;exact⟨_,e⟩
 | xd fs=>obtain⟨_,⟨_,_,_,e,_⟩,_⟩:=x;exact⟨_,e⟩
 | rng lo hi=>obtain⟨_,_,_,e⟩:=x;exact⟨_,e⟩
 | frz v u=>obtain⟨e,_⟩:=x;exact⟨_,e⟩
 | tbl ps=>obtain⟨_,e,_⟩:=x;exact⟨_,e⟩
 | met f y=>exact⟨_,show h.get? a=some _ from x⟩
 | ext G=>obtain⟨_,e,_⟩:=x;exact e
theorem znK(x:HOk P w H h)(n:h.get? a=none):H a=none:=by
 cases q:H a with
 | none=>rfl
 | some u=>obtain⟨o,e⟩:=zlp x q;rw[n]at e;cases e
end
section
variable{P:aG}{w:aP}{K:qF}{mg:qM}{base:aN}{N:List Str}{qual:Str}{scope:eU}{f:ak}{cd:ah}{A:bo}{outer:List Env}{s₀:au}{H₀:Hp}{E:XK}{C:ak}{H':Hp}
theorem zmv(hE:E (.ref C) none H'):XW (cxOf (CX1 P w) P w K mg base N qual scope f cd A outer s₀ H₀ E) C H':=by
 intro e s' fx;generalize hX:cxOf (CX1 P w) P w K mg base N qual scope f cd A outer s₀ H₀ E=X at fx;have Z:X.xe=fun e s'=>wpAny (model P w) (A.deeper (envOfC qual scope s₀.heap.objs.size f cd)) (leaving (envOfC qual scope s₀.heap.objs.size f cd) e) (fun _ y=>CX1 P w outer H₀ s₀ E e y) (fun e' y=>CX1 P w outer H₀ s₀ E e' y) s':=by rw[<- hX];rfl
 have l:X.stack=envOfC qual scope s₀.heap.objs.size f cd::outer:=by rw[<- hX];rfl
 have hA:X.A=A.deeper (envOfC qual scope s₀.heap.objs.size f cd):=by rw[<- hX];rfl
 have v:X.s₀=s₀:=by rw[<- hX];rfl
 have U:X.H₀=H₀:=by rw[<- hX];rfl
 have hex:X.ex=[]:=by rw[<- hX];rfl
 have hfs:X.fs=frs outer:=by rw[<- hX];rfl
 have hP:X.prog=P:=by rw[<- hX];rfl
 have hw:X.w=w:=by rw[<- hX];rfl
 have fin:∀{pins σ H s} (I:Inv X pins σ H s) {h'':aN},Un (frs X.stack) [] H H' s.heap h''->HOk X.prog X.w H' h''->Un (frs outer) [] H₀ H' s₀.heap h''/\HOk P w H' h'':=fun {pins σ H s} I {h''} u G=>by
  have J:=(I.call (h':=h'') (g':=s.gens) (d':=s.drawn) (t':=s.toks) u G I.bare (fun b z=>absurd z (by simp))).base
  rw[hex,hfs,U,v]at J;rw[hP,hw]at G;exact⟨J,G⟩
 have old:∀{pins σ H s} (I:Inv X pins σ H s) {a:ak},s.heap.get? a=none->s₀.heap.get? a=none:=fun {pins σ H s} I {a} n=>by
  cases q:s₀.heap.get? a with
  | none=>rfl
  | some o =>
   have b:=I.base;rw[v]at b;obtain⟨o',z⟩:=b.there a o q (by rw[hex];simp)
   rw[n]at z;cases z
 rw[Z];cases fx with
 | @made pins σ s h1 I m hs =>
  subst hs;have fr:(A.deeper (envOfC qual scope s₀.heap.objs.size f cd)).frames=some (envOfC qual scope s₀.heap.objs.size f cd::outer):=by rw[<- hA,<- l];exact I.ok.frames
  have ff:=I.stack;rw[l]at ff;refine wpAny_leaves_madeW (base:=nS s.heap (frs X.stack)) (h:=s.heap) fr rfl (fun b o q=>lW _ q) (PySem.W.funFrames_hide ff fun env he b hb=>by rw[l];exact eY.mpr ⟨env,he,hb⟩) m fun h' t fl tup bt up=>?_
  refine⟨e,C,H',rfl,I.os.trans (by rw[v]),I.bare,⟨_,_,fl,znK I.hok m.new,old I m.new,fun h'' st x=>?_⟩,hE⟩
  obtain⟨u,G⟩:=I.land (h'':=h'') (fun b o q nf=>st b o (lK _ q nf)) (fun b o q hf=>by
   obtain⟨_,o',L,R⟩:=I.stack.mem hf;rw[q]at L;cases L;exact(up.trans x) b o (m.keeps b o q) R)
  exact fin I u G
 | @on pins σ H s I os bare g =>
  obtain⟨B,a0,fl,ne,nn,st⟩:=g;have fr:(A.deeper (envOfC qual scope s₀.heap.objs.size f cd)).frames=some (envOfC qual scope s₀.heap.objs.size f cd::outer):=by rw[<- hA,<- l];exact I.ok.frames
  rw[l]at fl;refine wpAny_leaves_onW fr rfl fl fun h' Y up=>⟨e,C,H',rfl,(os.trans I.os).trans (by rw[v]),bare,⟨B,a0,Y,ne,old I nn,fun h'' S x=>?_⟩,hE⟩
  obtain⟨u,G⟩:=st h'' S (up.trans x);exact fin I u G
end
def zte:List ah:=[.type "ValueError",.type "Exception",.type "BaseException",.type "object"]
def OwnX(K:qF)(mg:qM)(x:Str)(C:ak):Prop:=∀h:aN,K.In h->OwnCls x C zte "ValueError.__new__" mg h
section
variable{X:Cx}{x:Str}{C:ak}{np Hq pos:Pos}
theorem zmU(O:OwnX X.K X.mg x C)(hc:X.calm=true)(L:Gl X x)(hd:(x == ("__debug__":Str))=false:=by rfl):PS X (.Raise (some (.Call (.Name x np) [] [] Hq)) none pos) (fun _ _ H=>XW X C H):=by
 intro pins s σ H D I h;have v:=(O X.base I.ok.mod.kin).keeps I.bk;obtain⟨J,N,nm,q,bs,hdct,sn,sub,ab,col,dd,k0,k1,k2,k3,k5,mN,y,G,u,T⟩:=v.obj;refine wpAny_Raise_call_subU (C:=C) (nm:=nm) (q:=q) (N:=N) (bs:=bs) (bm:=J) (hdct:=hdct) (sn:=sn) (sub:=sub) (ab:=ab) (col:=col) (dd:=dd) (k0:=k0) (k1:=k1) (k2:=k2) (k3:=k3) (k5:=k5)
  fC (by decide) fC (mN:=mN) (T.hasType fC.hasBase) (I.ok.hd hc) rfl u (UM I L v.bound ⟨rfl,?_⟩ hd)
 exact evalArgs_empty ⟨rfl,eF _,y,G,T,fun h' e m=>h e _ (.made I m rfl)⟩
end
def Keep(C:Ctx)(u:En)(σ:St)(H:Hp)(l:En)(σ':St)(v:Hp):Prop:=∀a o,H a=some o->C.hd≠some a->¬OwnS u σ a->v a=some o/\¬OwnS l σ' a
structure JO where
 nx:En->Nat->Prop
 rt:af->Nat->Prop
 bk:En->Nat->Prop:=fun _ _=>False
 ct:En->Nat->Prop:=fun _ _=>False
 xr:Str->Nat->Prop:=fun _ _=>False
abbrev DTS:=JO->En->Nat->Prop
def XN(X:Cx)(c:Str)(l:Hp):Prop:=∀C,X.mg c=some (.ref C)->XW X C l
structure Good(X:Cx)(C:Ctx)(ρ:En)(σ:St)(H:Hp)(D:Ends)(D':JO):Prop where
 nx:∀ρ' σ' H' n',D'.nx ρ' n'->Stt X.K C ρ' σ' H' n'->Keep C ρ σ H ρ' σ' H'->D.nx σ' H'
 rt:∀t n' v H',D'.rt t n'->Hn C.hd H' n'->(∀a o,H a=some o->C.hd≠some a->¬OwnS ρ σ a->H' a=some o)->Rep X.K C.hd C.ext H' v t->D.rt v H'
 bk:∀ρ' σ' H' n',D'.bk ρ' n'->Stt X.K C ρ' σ' H' n'->Keep C ρ σ H ρ' σ' H'->D.bk σ' H'
 ct:∀ρ' σ' H' n',D'.ct ρ' n'->Stt X.K C ρ' σ' H' n'->Keep C ρ σ H ρ' σ' H'->D.ct σ' H'
 xr:∀c n' H',D'.xr c n'->Hn C.hd H' n'->(∀a o,H a=some o->C.hd≠some a->¬OwnS ρ σ a->H' a=some o)->XN X c H'
def DS(X:Cx)(st:cT)(d:DTS):Prop:=∃ts,PS X st ts/\∀(C:Ctx) (l:En) (σ:St) (H:Hp) (n:Nat) (D:Ends) (u:JO),Stt X.K C l σ H n->d u l n->Good X C l σ H D u->ts D σ H
def DSs(X:Cx)(st:List cT)(d:DTS):Prop:=∃ts,PSs X st ts/\∀(C:Ctx) (l:En) (σ:St) (H:Hp) (n:Nat) (D:Ends) (u:JO),Stt X.K C l σ H n->d u l n->Good X C l σ H D u->ts D σ H
section
variable{K:qF}{C:Ctx}{ρ ρ1 ρ2:En}{σ σ1 σ2:St}{H H1 H2:Hp}{n n1:Nat}{D:Ends}{D':JO}
theorem Keep.refl:Keep C ρ σ H ρ σ H:=fun _ _ h _ no=>⟨h,no⟩
theorem Keep.trans(k1:Keep C ρ σ H ρ1 σ1 H1)(k2:Keep C ρ1 σ1 H1 ρ2 σ2 H2):Keep C ρ σ H ρ2 σ2 H2:=fun a o h u no=>by
 obtain⟨v,l⟩:=k1 a o h u no;exact k2 a o v u l
theorem ExtE.keep(e:ExtE C.hd H H1):Keep C ρ σ H ρ σ H1:=fun a o h l no=>⟨e a o h l,no⟩
theorem Good.on{X:Cx}(g:Good X C ρ σ H D D')(k:Keep C ρ σ H ρ1 σ1 H1):Good X C ρ1 σ1 H1 D D' where
 nx:=fun l σ' u y h S x=>g.nx l σ' u y h S (k.trans x)
 rt:=fun t y v u h N x r=>g.rt t y v u h N (fun a o L I no=>by
  obtain⟨J,G⟩:=k a o L I no;exact x a o J I G) r
 bk:=fun l σ' u y h S x=>g.bk l σ' u y h S (k.trans x)
 ct:=fun l σ' u y h S x=>g.ct l σ' u y h S (k.trans x)
 xr:=fun c y u h N x=>g.xr c y u h N fun a o L I no=>by
  obtain⟨J,G⟩:=k a o L I no;exact x a o J I G
theorem Keep.rep(k:Keep C ρ σ H ρ1 σ1 H1)(hx:∀a,C.hd=some a->C.ext a){v t}(r:Rep K C.hd (Own C ρ σ) H v t):Rep K C.hd (Own C ρ1 σ1) H1 v t :=
 Rep.mono (O:=Own C ρ σ) (fun a o h z=>by
  by_cases q:Own C ρ σ a
  ·exact q
  ·rcases z with z|z
   ·exact .inl z
   ·exact absurd z (k a o h (fun y=>q (.inl (hx a y))) fun y=>q (.inr y)).2) (fun a o no h=>(k a o h (fun y=>no (.inl (hx a y))) fun y=>no (.inr y)).1) r
theorem Keep.reps(k:Keep C ρ σ H ρ1 σ1 H1)(hx:∀a,C.hd=some a->C.ext a){v t}(r:Reps K C.hd (Own C ρ σ) H v t):Reps K C.hd (Own C ρ1 σ1) H1 v t :=
 Reps.mono (O:=Own C ρ σ) (fun a o h z=>by
  by_cases q:Own C ρ σ a
  ·exact q
  ·rcases z with z|z
   ·exact .inl z
   ·exact absurd z (k a o h (fun y=>q (.inl (hx a y))) fun y=>q (.inr y)).2) (fun a o no h=>(k a o h (fun y=>no (.inl (hx a y))) fun y=>no (.inr y)).1) r
theorem Jv{α:Type}{l:List (Option α)}{i j:Nat}{v w:α}(h:(l.set i (some v))[j]?=some (some w)):(i=j/\v=w)\/(i≠j/\l[j]?=some (some w)):=by
 by_cases e:i=j
 ·subst e;rw[gz]at h;simp only[↓reduceIte]at h;split at h
  ·simp at h;exact .inl ⟨rfl,h⟩
  ·cases h
 ·rw[aM e]at h;exact .inr ⟨e,h⟩
theorem U8{α:Type}{l:List (Option α)}{i j:Nat}{v w:α}(e:i≠j)(h:l[j]?=some (some w)):(l.set i (some v))[j]?=some (some w):=by
 rw[aM e];exact h
theorem zod{α:Type}{l:List (Option α)}{i j:Nat}{v:α}{w:Option α}(h:(l.set i (some v))[j]?=some w)(e:i=j):i<l.length:=by
 subst e;rw[gz]at h;simp only[↓reduceIte]at h;split at h
 ·assumption
 ·cases h
theorem zki{α:Type}{l:List (Option α)}{i:Nat}{v:α}(h:i<l.length):(l.set i (some v))[i]?=some (some v):=by
 rw[gz];simp[h]
theorem Vr{i:Nat}{t:af}{v:V}{a:ak}(h:OwnS (ρ.set i (some (.val t))) (σ.set i (some v)) a):OwnS ρ σ a:=by
 obtain⟨j,c,m,u,x⟩:=h;rcases Jv u with⟨_,z⟩|⟨e,u⟩
 ·subst z;cases m
 ·rcases Jv x with⟨z,_⟩|⟨_,x⟩
  ·exact absurd z e
  ·exact⟨j,c,m,u,x⟩
def QF(K:qF)(hd:Option ak)(O:ak->Prop)(H:Hp)(a:ak):Cell->Prop
 | .val _=>False
 | .rdo _=>False
 | .own ts=>∃y,H a=some (.lst y)/\Reps K hd O H y ts
 | .dct x=>∃u,H a=some (.dK u)/\Uy K hd O H u x
 | .dtt x=>∃zs G,H a=some (ZDO a zs G)/\J3 K hd O H zs x
theorem QF.mono(x:QF K hd O H a c)(y:∀a o,H a=some o->O' a->O a)(I:∀a o,¬O a->H a=some o->H' a=some o)(G:∀o,H a=some o->H' a=some o):QF K hd O' H' a c:=by
 cases c with
 | val _=>exact x.elim
 | rdo _=>exact x.elim
 | own ts=>obtain⟨l,u,v⟩:=x;exact⟨l,G _ u,v.mono y I⟩
 | dct L=>obtain⟨l,u,v⟩:=x;exact⟨l,G _ u,v.mono y I⟩
 | dtt L=>obtain⟨l,J,u,v⟩:=x;exact⟨l,J,G _ u,v.mono y I⟩
theorem QF.some(x:QF K hd O H a c):∃o,H a=some o:=by
 cases c with
 | val _=>exact x.elim
 | rdo _=>exact x.elim
 | own ts=>obtain⟨u,l,v⟩:=x;exact⟨_,l⟩
 | dct y=>obtain⟨u,l,v⟩:=x;exact⟨_,l⟩
 | dtt y=>obtain⟨u,G,l,v⟩:=x;exact⟨_,l⟩
theorem QF.mine(x:QF K hd O H a c):c.mine=true:=by
 cases c with
 | val _=>exact x.elim
 | rdo _=>exact x.elim
 | own ts=>rfl
 | dct l=>rfl
 | dtt l=>rfl
theorem Stt.cell(S:Stt K C ρ σ H n){i:Nat}{c:Cell}(m:c.mine=true)(h:ρ[i]?=some (some c)):∃a:ak,σ[i]?=some (some (V.ref a))/\QF K C.hd (Own C ρ σ) H a c/\¬C.ext a:=by
 cases c with
 | val _=>cases m
 | rdo _=>cases m
 | own ts=>obtain⟨a,l,u,x,v,y⟩:=S.own i ts h;exact⟨a,u,⟨l,x,v⟩,y⟩
 | dct G=>obtain⟨a,l,u,x,v,y⟩:=S.dct i G h;exact⟨a,u,⟨l,x,v⟩,y⟩
 | dtt G=>obtain⟨a,l,I,u,x,v,y⟩:=S.dtt i G h;exact⟨a,u,⟨l,I,x,v⟩,y⟩
def zqo(K:qF)(C:Ctx)(ρ:En)(σ:St)(H:Hp):Prop:=∀(i:Nat) (u:List (Key×af)),ρ[i]?=some (some (Cell.rdo u))->∃a l,σ[i]?=some (some (V.ref a))/\H a=some (.dK l)/\Uy K C.hd (Own C ρ σ) H l u/\C.ext a/\C.hd≠some a
theorem Stt.mk'(len:ρ.length=σ.length)(val:∀(i:Nat) (d:af),ρ[i]?=some (some (Cell.val d))->∃v,σ[i]?=some (some v)/\Rep K C.hd (Own C ρ σ) H v d)
  (cell:∀(i:Nat) (c:Cell),c.mine=true->ρ[i]?=some (some c)->∃a:ak,σ[i]?=some (some (V.ref a))/\QF K C.hd (Own C ρ σ) H a c/\¬C.ext a)
  (rdo:zqo K C ρ σ H) (dif:∀(i j:Nat) (c e:Cell) (a:ak),c.mine=true->e.mine=true->ρ[i]?=some (some c)->ρ[j]?=some (some e)->σ[i]?=some (some (V.ref a))->σ[j]?=some (some (V.ref a))->i=j)
  (hnd:Hn C.hd H n) (ext:∀a,C.ext a->MutO (H a)) (hx:∀a,C.hd=some a->C.ext a):Stt K C ρ σ H n where
 len:=len
 val:=val
 own:=fun i ts h=>by obtain⟨a,u,⟨l,x,G⟩,y⟩:=cell i _ rfl h;exact⟨a,l,u,x,G,y⟩
 dct:=fun i ts h=>by obtain⟨a,u,⟨l,x,G⟩,y⟩:=cell i _ rfl h;exact⟨a,l,u,x,G,y⟩
 rdo:=rdo
 dtt:=fun i ts h=>by obtain⟨a,u,⟨l,I,x,G⟩,y⟩:=cell i _ rfl h;exact⟨a,l,I,u,x,G,y⟩
 dif:=dif
 hnd:=hnd
 ext:=ext
 hx:=hx
theorem Stt.put(S:Stt K C ρ σ H n){i:Nat}{t:af}{v:V}(r:Rep K C.hd (Own C ρ σ) H v t):Stt K C (ρ.set i (some (.val t))) (σ.set i (some v)) H n:=by
 have sub:∀a o,H a=some o->Own C (ρ.set i (some (.val t))) (σ.set i (some v)) a->Own C ρ σ a:=fun a o _ z=>z.elim .inl fun z=>.inr (Vr z)
 have mono:∀{w u},Rep K C.hd (Own C ρ σ) H w u->Rep K C.hd (Own C (ρ.set i (some (.val t))) (σ.set i (some v))) H w u:=fun q=>q.mono sub fun _ _ _ z=>z
 refine .mk' (by simp[S.len]) (fun j d h=>?_) (fun j c m h=>?_) (fun j ks h=>?_) (fun j k c e a Y U x y L h4=>?_) S.hnd S.ext S.hx
 rotate_left 2
 ·rcases Jv h with⟨_,z⟩|⟨e,h'⟩
  ·cases z
  ·obtain⟨a,N,q1,q2,q3,q4⟩:=S.rdo j ks h';exact⟨a,N,U8 e q1,q2,q3.mono sub fun _ _ _ z=>z,q4⟩
 rotate_left 1
 ·rcases Jv h with⟨e,z⟩|⟨e,h'⟩
  ·cases z;have:=zod h e;subst e;exact⟨v,zki (by rw[<- S.len];exact this),mono r⟩
  ·obtain⟨w,x,y⟩:=S.val j d h';exact⟨w,U8 e x,mono y⟩
 ·rcases Jv h with⟨e,z⟩|⟨e,h'⟩
  ·subst z;cases m
  ·obtain⟨a,x,y,L⟩:=S.cell m h';exact⟨a,U8 e x,y.mono sub (fun _ _ _ z=>z) fun _ z=>z,L⟩
 ·rcases Jv x with⟨e,z⟩|⟨e,J⟩
  ·subst z;cases Y
  ·rcases Jv y with⟨Z,z⟩|⟨Z,G⟩
   ·subst z;cases U
   ·rcases Jv L with⟨z,_⟩|⟨_,R⟩
    ·exact absurd z e
    ·rcases Jv h4 with⟨z,_⟩|⟨_,I⟩
     ·exact absurd z Z
     ·exact S.dif j k c _ a Y U J G R I
theorem Qq:Keep C ρ σ H (ρ.set i (some (.val t))) (σ.set i (some v)) H:=fun a o h _ no=>⟨h,fun z=>no (Vr z)⟩
theorem zix{i:Nat}{c:Cell}{p a:ak}(h:OwnS (ρ.set i (some c)) (σ.set i (some (.ref p))) a):OwnS ρ σ a\/a=p:=by
 obtain⟨j,ds,m,u,v⟩:=h;rcases Jv v with⟨e,z⟩|⟨e,v⟩
 ·cases z;exact .inr rfl
 ·rcases Jv u with⟨z,_⟩|⟨_,u⟩
  ·exact absurd z e
  ·exact .inl ⟨j,ds,m,u,v⟩
theorem Stt.putNew(S:Stt K C ρ σ H n){i:Nat}{c:Cell}{p:ak}{R:Hp}(e:ExtE C.hd H R)(h:Hn C.hd R n1)(hp:H p=none)(r:QF K C.hd (fun a=>Own C ρ σ a\/a=p) R p c) :
  Stt K C (ρ.set i (some c)) (σ.set i (some (.ref p))) R n1:=by
 have S':=S.on e h;have mc:=r.mine;have sub:∀a,Own C (ρ.set i (some c)) (σ.set i (some (.ref p))) a->Own C ρ σ a\/a=p:=fun a z=>z.elim (fun z=>.inl (.inl z)) fun z=>(zix z).elim (fun z=>.inl (.inr z)) .inr
 have npx:¬C.ext p:=fun z=>S.dom (.inl z) hp
 have sb:∀a o,H a=some o->Own C (ρ.set i (some c)) (σ.set i (some (.ref p))) a->Own C ρ σ a:=fun a o I z=>(sub a z).elim id fun z=>by subst z;rw[hp]at I;cases I
 have kp:∀a o,¬Own C ρ σ a->H a=some o->R a=some o:=fun a o no I=>e a o I fun z=>no (.inl (S.hx a z))
 have Iu:∀(j:Nat) (d:Cell),d.mine=true->ρ[j]?=some (some d)->σ[j]?≠some (some (V.ref p)):=fun j d m x v=>by
  obtain⟨a,e1,Z,_⟩:=S.cell m x;rw[v]at e1;cases e1;obtain⟨o,Z⟩:=Z.some;rw[hp]at Z;cases Z
 refine .mk' (by simp[S.len]) (fun j d L=>?_) (fun j d m L=>?_) (fun j ks L=>?_) (fun j k c1 c2 a m1 m2 x v h3 U=>?_) h S'.ext S.hx
 rotate_left 2
 ·rcases Jv L with⟨_,z⟩|⟨u,h'⟩
  ·subst z;cases mc
  ·obtain⟨a,kvs,q1,q2,q3,q4,q5⟩:=S.rdo j ks h';exact⟨a,kvs,U8 u q1,e a _ q2 q5,q3.mono sb kp,q4,q5⟩
 rotate_left 1
 ·rcases Jv L with⟨_,z⟩|⟨u,h'⟩
  ·subst z;cases mc
  ·obtain⟨w,x,v⟩:=S.val j d h';exact⟨w,U8 u x,v.mono sb kp⟩
 ·rcases Jv L with⟨u,z⟩|⟨u,h'⟩
  ·subst z;have:=zod L u;subst u;exact⟨p,zki (by rw[<- S.len];exact this),r.mono (fun a o _ z=>sub a z) (fun _ _ _ z=>z) fun _ z=>z,npx⟩
  ·obtain⟨a,x,v,U⟩:=S.cell m h';exact⟨a,U8 u x,v.mono sb kp (fun o I=>e a o I fun z=>U (S.hx a z)),U⟩
 ·rcases Jv h3 with⟨e3,z3⟩|⟨e3,N⟩
  ·cases z3;rcases Jv U with⟨J,_⟩|⟨J,G⟩
   ·rw[<- e3,<- J]
   ·rcases Jv v with⟨z,_⟩|⟨_,y⟩
    ·exact absurd z J
    ·exact absurd G (Iu k _ m2 y)
  ·rcases Jv x with⟨z,_⟩|⟨_,Y⟩
   ·exact absurd z e3
   ·rcases Jv U with⟨J,z4⟩|⟨J,G⟩
    ·cases z4;exact absurd N (Iu j _ m1 Y)
    ·rcases Jv v with⟨z,_⟩|⟨_,y⟩
     ·exact absurd z J
     ·exact S.dif j k _ _ a m1 m2 Y y N G
theorem Stt.putOwn(S:Stt K C ρ σ H n)(e:ExtE C.hd H H')(h:Hn C.hd H' n1)(v:H p=none)(u:H' p=some (.lst vs))(r:Reps K C.hd (fun a=>Own C ρ σ a\/a=p) H' vs ts) :
  Stt K C (ρ.set i (some (.own ts))) (σ.set i (some (.ref p))) H' n1:=S.putNew e h v ⟨vs,u,r⟩
theorem zhP(e:ExtE C.hd H H')(v:H p=none):Keep C ρ σ H (ρ.set i (some c)) (σ.set i (some (.ref p))) H':=fun a o h u no =>
 ⟨e a o h u,fun z=>(zix z).elim no fun z=>by subst z;rw[v]at h;cases h⟩
theorem zeb(e:ExtE C.hd H H')(l:H p=none):Keep C ρ σ H (ρ.set i (some (.own ts))) (σ.set i (some (.ref p))) H':=zhP e l
theorem Stt.chgC(S:Stt K C ρ σ H n){i:Nat}{c y:Cell}{p:ak}{J:HO}(m:c.mine=true)(m':y.mine=true)(Y:ρ[i]?=some (some c))(N:σ[i]?=some (some (.ref p)))
  (r:∀(O':ak->Prop) (H':Hp),(∀a o,H a=some o->O' a->Own C ρ σ a)->(∀a o,¬Own C ρ σ a->H a=some o->H' a=some o)->H' p=some J->QF K C.hd O' H' p y) :
  Stt K C (ρ.set i (some y)) σ (upd H p J) n/\Keep C ρ σ H (ρ.set i (some y)) σ (upd H p J):=by
 have op:OwnS ρ σ p:=⟨i,c,m,Y,N⟩;obtain⟨p',e1,hp,x⟩:=S.cell m Y;rw[N]at e1;cases e1;have HW:∀a,OwnS (ρ.set i (some y)) σ a->OwnS ρ σ a:=fun a ⟨j,d,G,u,v⟩=>by
  rcases Jv u with⟨e,_⟩|⟨e,u⟩
  ·subst e;rw[N]at v;cases v;exact op
  ·exact⟨j,d,G,u,v⟩
 have sub:∀a o,H a=some o->Own C (ρ.set i (some y)) σ a->Own C ρ σ a:=fun a o _ z=>z.elim .inl fun z=>.inr (HW a z)
 have kp:∀a o,¬Own C ρ σ a->H a=some o->upd H p J a=some o:=fun a o no ho=>by rw[Jn (show a≠p from fun z=>no (by rw[z];exact .inr op))];exact ho
 have rd:zqo K C (ρ.set i (some y)) σ (upd H p J):=fun j ks R=>by
  rcases Jv R with⟨_,z⟩|⟨L,h'⟩
  ·subst z;cases m'
  ·obtain⟨a,kvs,u,v,Z,I,q5⟩:=S.rdo j ks h';exact⟨a,kvs,u,by rw[Jn (show a≠p from fun z=>x (by rw[<- z];exact I))];exact v,Z.mono sub kp,I,q5⟩
 refine⟨.mk' (by simp[S.len]) (fun j d R=>?_) (fun j d G R=>?_) rd (fun j k c1 c2 a m1 m2 u v Z I=>?_) (fun a U=>?_) (fun a U=>?_) S.hx,fun a o h nh no=>⟨by rw[Jn (show a≠p from fun z=>no (by rw[z];exact op))];exact h,fun z=>no (HW a z)⟩⟩
 ·rcases Jv R with⟨_,z⟩|⟨L,h'⟩
  ·subst z;cases m'
  ·obtain⟨w,u,v⟩:=S.val j d h';exact⟨w,u,v.mono sub kp⟩
 ·rcases Jv R with⟨L,z⟩|⟨L,h'⟩
  ·subst z;subst L;exact⟨p,N,r _ _ sub kp JM,x⟩
  ·obtain⟨a,u,v,I⟩:=S.cell G h';have:a≠p:=fun z=>by subst z;exact L (S.dif i j c d a m G Y h' N u)
   exact⟨a,u,v.mono sub kp (fun o ho=>by rw[Jn this];exact ho),I⟩
 ·have get:∀(j:Nat) (d:Cell),d.mine=true->(ρ.set i (some y))[j]?=some (some d)->∃d':Cell,d'.mine=true/\ρ[j]?=some (some d'):=fun j d G q=>by
   rcases Jv q with⟨e,_⟩|⟨_,q⟩
   ·subst e;exact⟨_,m,Y⟩
   ·exact⟨_,G,q⟩
  obtain⟨d1,md1,g1⟩:=get j c1 m1 u;obtain⟨d2,md2,g2⟩:=get k c2 m2 v;exact S.dif j k d1 d2 a md1 md2 g1 g2 Z I
 ·obtain⟨d,m,t,q,rest⟩:=S.hnd a U;exact⟨d,m,t,by rw[Jn (show a≠p from fun z=>x (by rw[<- z];exact S.hx a U))];exact q,rest⟩
 ·by_cases z:a=p
  ·subst z;exact absurd U x
  ·rw[Jn z];exact S.ext a U
theorem Stt.chg(S:Stt K C ρ σ H n)(v:ρ[i]?=some (some (.own ts)))(x:σ[i]?=some (some (.ref p)))(r:Reps K C.hd (Own C ρ σ) H ws us) :
  Stt K C (ρ.set i (some (.own us))) σ (upd H p (.lst ws)) n/\Keep C ρ σ H (ρ.set i (some (.own us))) σ (upd H p (.lst ws)):=S.chgC rfl rfl v x fun _ _ a b u=>⟨ws,u,r.mono a b⟩
theorem Stt.freeze(S:Stt K C ρ σ H n){i:Nat}{ts:qD}(U:ρ[i]?=some (some (.own ts))):Stt K C (ρ.set i (some (.val (.list ts)))) σ H n/\Keep C ρ σ H (ρ.set i (some (.val (.list ts)))) σ H:=by
 obtain⟨p,vs,Y,hp,hr,N⟩:=S.own i ts U;have L:∀a,OwnS (ρ.set i (some (.val (.list ts)))) σ a->OwnS ρ σ a/\a≠p:=fun a ⟨j,ds,m,u,x⟩=>by
  rcases Jv u with⟨_,z⟩|⟨e,u⟩
  ·subst z;cases m
  ·exact⟨⟨j,ds,m,u,x⟩,fun z=>by subst z;exact e (S.dif i j (.own ts) ds a rfl m U u Y x)⟩
 have sub:∀a o,H a=some o->Own C (ρ.set i (some (.val (.list ts)))) σ a->Own C ρ σ a:=fun a o _ z=>z.elim .inl fun z=>.inr (L a z).1
 have rd:zqo K C (ρ.set i (some (.val (.list ts)))) σ H:=fun j ks G=>by
  rcases Jv G with⟨_,z⟩|⟨J,h'⟩
  ·cases z
  ·obtain⟨a,R,u,x,y,I⟩:=S.rdo j ks h';exact⟨a,R,u,x,y.mono sub fun _ _ _ z=>z,I⟩
 refine⟨.mk' (by simp[S.len]) (fun j d G=>?_) (fun j d m G=>?_) rd (fun j k c1 c2 a m1 Z u x y I=>?_) S.hnd S.ext S.hx,fun a o h _ no=>⟨h,fun z=>no (L a z).1⟩⟩
 ·rcases Jv G with⟨J,z⟩|⟨J,h'⟩
  ·cases z;subst J;exact⟨.ref p,Y,.lst hp (fun z=>z.elim N fun z=>(L p z).2 rfl) (hr.mono sub fun _ _ _ z=>z)⟩
  ·obtain⟨w,u,x⟩:=S.val j d h';exact⟨w,u,x.mono sub fun _ _ _ z=>z⟩
 ·rcases Jv G with⟨_,z⟩|⟨J,h'⟩
  ·subst z;cases m
  ·obtain⟨a,u,y,I⟩:=S.cell m h';exact⟨a,u,y.mono sub (fun _ _ _ z=>z) fun _ z=>z,I⟩
 ·rcases Jv u with⟨_,z⟩|⟨_,g1⟩
  ·subst z;cases m1
  ·rcases Jv x with⟨_,z⟩|⟨_,g2⟩
   ·subst z;cases Z
   ·exact S.dif j k _ _ a m1 Z g1 g2 y I
end
section
variable{X:Cx}{a b c e:aO}{es rest:List aO}{d da db dc:DTE}{ds:DTA}{dt:DTT}{t u:DTS}{st:cT}{sts sa sb:List cT}{pos p:Pos}{k:Nat}{x:Str}
def Zr:DTS:=fun D l n=>D.nx l n
def sSeq(t u:DTS):DTS:=fun D l n=>t { D with nx:=u D } l n
theorem Jy:DSs X [] Zr:=⟨_,zhB,fun C l σ H n D v S h g=>g.nx l σ H n h S Keep.refl⟩
theorem Jb(l:DS X st t)(v:DSs X sts u):DSs X (st::sts) (sSeq t u):=by
 obtain⟨Y,pa,l⟩:=l;obtain⟨Z,N,v⟩:=v;refine⟨_,Qr pa N,fun C J σ H n D I S h g=>?_⟩
 exact l C J σ H n _ _ S h ⟨fun y σ' G L U R k=>v C y σ' G L D I R U (g.on k),g.rt,g.bk,g.ct,g.xr⟩
theorem Jc(l:DS X st t):DSs X [st] t:=by
 obtain⟨v,pa,l⟩:=l;exact⟨_,UO pa,l⟩
def YY(i:Nat)(t:DTS):DTS:=fun D y n=>match y[i]? with|some (some (.own ts))=>t D (y.set i (some (.val (.list ts)))) n|_=>False
theorem Uc(i:Nat)(l:DSs X sts t):DSs X sts (YY i t):=by
 obtain⟨I,pa,l⟩:=l;refine⟨_,pa,fun C J σ H n D v S h g=>?_⟩
 unfold YY at h;split at h
 ·rename_i ts G;obtain⟨y,kp⟩:=S.freeze G;exact l C _ σ H n D v y h (g.on kp)
 ·exact h.elim
def sRet(d:DTE):DTS:=fun D l n=>d l n fun t v=>D.rt t v
theorem Jg(h:DE X e d):DS X (.Return (some e) pos) (sRet d):=by
 obtain⟨Y,pa,h⟩:=h;refine⟨_,YK pa,fun C J σ H n D Z S hd g=>?_⟩
 refine h C J σ H n _ _ S hd fun t L v y r N G q=>?_
 exact g.rt t L v y r G (fun a o U I _=>N a o U I) (q.mono (fun _ _ _ z=>.inl z) fun _ _ _ z=>z)
def sIf(c:DTT)(t u:DTS):DTS:=fun D l n=>c l n fun b v=>if b=true then t D l v else u D l v
theorem Jw(hc:DT X c dt)(v:DSs X sa t)(y:DSs X sb u):DS X (.If c sa sb pos) (sIf dt t u):=by
 obtain⟨tc,pc,hc⟩:=hc;obtain⟨Y,pa,v⟩:=v;obtain⟨Z,U,y⟩:=y;refine⟨_,zoP pc pa U,fun C G σ H n D L S hd g=>?_⟩
 refine hc C G σ H n _ _ S hd fun b N J r l R=>?_
 cases b with
 | true=>exact iteT (v C G σ J N D L (S.on l R) (by simpa using r) (g.on l.keep))
 | false=>exact iteF (y C G σ J N D L (S.on l R) (by simpa using r) (g.on l.keep))
def sSet(i:Nat)(d:DTE):DTS:=fun D y n=>d y n fun t C=>D.nx (y.set i (some (.val t))) C
theorem zth(I:X.N.Nodup)(hi:X.N[i]?=some x)(hx:Loc X.env.scope x)(h:DE X e d)(U:swapsWith e (some (.Name x pos')) pos.line X.env=pure false:=by rfl)(hf:X.fn x=true\/X.env.scope.names.lookup x=some .local:=by walk_at "F") :
  DS X (.Assign [.Name x pos'] e pos) (sSet i d):=by
 obtain⟨Y,pa,h⟩:=h;refine⟨_,QA I hi hx pa U hf,fun C L σ H n D Z S hd g=>?_⟩
 refine h C L σ H n _ _ S hd fun t R v G r y J q=>?_
 exact g.nx _ _ G R r ((S.on y J).put q) (y.keep.trans Qq)
def sOwn(i:Nat)(d:DTA):DTS:=fun D l n=>d l n fun ts v=>D.nx (l.set i (some (.own ts))) v
theorem Uj(J:X.N.Nodup)(hi:X.N[i]?=some x)(hx:Loc X.env.scope x)(h:DN X e ds)(Y:swapsWith e (some (.Name x pos')) pos.line X.env=pure false:=by rfl)(hf:X.fn x=true\/X.env.scope.names.lookup x=some .local:=by walk_at "F") :
  DS X (.Assign [.Name x pos'] e pos) (sOwn i ds):=by
 obtain⟨ta,pa,h⟩:=h;refine⟨_,QA J hi hx pa Y hf,fun C R σ H n D D' S hd g=>?_⟩
 refine h C R σ H n _ _ S hd fun ts U p Z I r G L y v q=>?_
 exact g.nx _ _ I U r (S.putOwn G L y v q) (zeb G y)
abbrev DTG:=af->En->(En->Prop)->Prop
abbrev DTGs:=List af->En->(En->Prop)->Prop
def DG(X:Cx)(G:aO)(is:List Nat)(d:DTG):Prop:=(∀t y R,d t y R->∃l,R l)/\∃g,PG X G g/\∀(C:Ctx) (y:En) (σ:St) (H:Hp) (n:Nat) (v:V) (t:af) (Q:St->Hp->Prop) (R:En->Prop),Stt X.K C y σ H n->Rep X.K C.hd (Own C y σ) H v t->d t y R ->
 (∀l σ',R l->Stt X.K C l σ' H n->Keep C y σ H l σ' H->(∀j,j∉is->σ'[j]?=σ[j]?)->σ'.length=σ.length->Q σ' H)->g v σ H Q
def DGs(X:Cx)(y:List aO)(is:List Nat)(d:DTGs):Prop:=(∀ts v R,d ts v R->ts.length=y.length)/\(∀t v R,d t v R->∃l,R l)/\∃g,PGs X y g/\∀(C:Ctx) (v:En) (σ:St) (H:Hp) (n:Nat) (G:List V) (ts:qD) (Q:St->Hp->Prop) (R:En->Prop),Stt X.K C v σ H n->Reps X.K C.hd (Own C v σ) H G ts->d ts v R ->
 (∀l σ',R l->Stt X.K C l σ' H n->Keep C v σ H l σ' H->(∀j,j∉is->σ'[j]?=σ[j]?)->σ'.length=σ.length->Q σ' H)->g G σ H Q
def Qd(i:Nat):DTG:=fun t y R=>R (y.set i (some (.val t)))
def U2:DTGs:=fun ts l R=>match ts with|[]=>R l|_=>False
def Q5(d:DTG)(ds:DTGs):DTGs:=fun ts v R=>match ts with|t::ts=>d t v fun l=>ds ts l R|[]=>False
def U3(ds:DTGs):DTG:=fun t v R=>match t with|.tuple ts=>ds ts v R|_=>False
theorem zp3(y:X.N.Nodup)(hi:X.N[i]?=some x)(hx:Loc X.env.scope x)(hf:X.fn x=true\/X.env.scope.names.lookup x=some .local:=by walk_at "F"):DG X (.Name x pos) [i] (Qd i):=by
 refine⟨fun t I R h=>⟨_,h⟩,_,Z5 y hi hx hf,fun C I σ H n v t Q R S r hd G=>?_⟩
 exact G _ _ hd (S.put r) Qq (fun j J=>by rw[aM (fun z=>J (by simp[z]))]) (by simp)
theorem JK:DGs X [] [] U2:=by
 refine⟨fun ts l R h=>?_,fun ts l R h=>?_,_,zkE,fun C l σ H n y ts Q R S r hd v=>?_⟩
 ·cases ts with
  | nil=>rfl
  | cons _ _=>exact h.elim
 ·cases ts with
  | nil=>exact⟨_,h⟩
  | cons _ _=>exact h.elim
 ·cases r with
  | nil=>exact⟨rfl,v _ _ hd S Keep.refl (fun _ _=>rfl) rfl⟩
  | cons _ _=>exact hd.elim
theorem Jm(N:DG X e is g)(U:DGs X es js gs)(hs:(assignEach (e::es) X.env).map (·.2)=assign e X.env::(assignEach es X.env).map (·.2):=by rfl):DGs X (e::es) (is++js) (Q5 g gs):=by
 obtain⟨w1,ga,pa,N⟩:=N;obtain⟨l2,w2,gb,pb,U⟩:=U;refine⟨fun ts y R h=>?_,fun ts y R h=>?_,_,Vt pa pb hs,fun C y σ H n vs ts Q R S r hd hq=>?_⟩
 ·cases ts with
  | nil=>exact h.elim
  | cons t ts =>
   obtain⟨l,h'⟩:=w1 t y _ h;simp[l2 ts l R h']
 ·cases ts with
  | nil=>exact h.elim
  | cons t ts =>
   obtain⟨l,h'⟩:=w1 t y _ h;exact w2 ts l R h'
 ·cases r with
  | nil=>exact hd.elim
  | cons r rs =>
   refine⟨_,_,rfl,N C y σ H n _ _ _ _ S r hd fun l σ' hr S' kp hj hl=>?_⟩
   refine U C l σ' H n _ _ _ _ S' (kp.reps S.hx rs) hr fun Y L G S2 J Z I=>?_
   exact hq Y L G S2 (kp.trans J) (fun j v=>by rw[Z j (fun z=>v (by simp[z])),hj j (fun z=>v (by simp[z]))]) (I.trans hl)
theorem JJ(hc:X.calm=true)(h:DGs X es is gs)(Y:(assignEach es X.env).length=es.length:=by rfl)(G:(assignEach es X.env).findIdx? (·.1)=none:=by rfl):DG X (.Tuple es k pos) is (U3 gs):=by
 obtain⟨l,w,g,pg,h⟩:=h;refine⟨fun t y R h=>?_,_,zro hc pg Y G,fun C y σ H n v t Q R S r hd U=>?_⟩
 ·cases t with
  | tuple ts=>exact w ts y R h
  | _=>exact h.elim
 ·cases t with
  | tuple ts =>
   obtain⟨p,J,rfl,N,L⟩:=r.tupI;exact⟨p,J,rfl,N,by rw[L.length];exact l ts y R hd,h C y σ H n J ts Q R S L hd U⟩
  | _=>exact hd.elim
def sAsg(d:DTE)(g:DTG):DTS:=fun D v n=>d v n fun t y=>g t v fun l=>D.nx l y
theorem QR(h:DE X e d)(l:DG X tg is g)(Z:swapsWithSole [tg] e pos.line X.env=pure false:=by rfl)(hw:swappedStores [tg] e X.env=pure none:=by rfl)
  (N:(assignEach [tg] X.env).map (·.2)=[assign tg X.env]:=by rfl):DS X (.Assign [tg] e pos) (sAsg d g):=by
 obtain⟨ta,pa,h⟩:=h;obtain⟨w,gb,Y,l⟩:=l;refine⟨_,YJ pa Y Z hw N,fun C I σ H n D D' S hd gd=>?_⟩
 refine h C I σ H n _ _ S hd fun t J v G r L U q=>?_
 exact l C I σ G J v t _ _ (S.on L U) q r fun y σ' R S' kp _ _=>gd.nx y σ' G J R S' (L.keep.trans kp)
def sPar(i j:Nat)(ds:DTA):DTS:=fun D y n=>ds y n fun ts C=>match ts with|[t,u]=>D.nx ((y.set i (some (.val t))).set j (some (.val u))) C|_=>False
theorem ztj{kt k2 pt2}(hc:X.calm=true)(L:X.N.Nodup)(hi:X.N[i]?=some x)(hj:X.N[j]?=some y)(G:i≠j)
  (hx:X.env.scope.names.lookup x=some .local) (hy:X.env.scope.names.lookup y=some .local) (h:DB X [a,b] ds)
  (hw:swappedStores [.Tuple [.Name x px,.Name y py] kt pt] (.Tuple [a,b] k2 pt2) X.env=pure (some [x,y]):=by rfl)
  (hs:swapsWithSole [.Tuple [.Name x px,.Name y py] kt pt] (.Tuple [a,b] k2 pt2) pos.line X.env=pure false:=by rfl) :
  DS X (.Assign [.Tuple [.Name x px,.Name y py] kt pt] (.Tuple [a,b] k2 pt2) pos) (sPar i j ds):=by
 obtain⟨ta,pa,h⟩:=h;refine⟨_,zoi hc L hi hj G hx hy pa.pa hw hs,fun C Z σ H n D D' S hd g=>?_⟩
 refine h C Z σ H n _ _ S hd fun ts n1 vs R r I U v _=>?_
 cases v with
 | nil=>exact r.elim
 | cons Y v =>
  cases v with
  | nil=>exact r.elim
  | cons J v =>
   cases v with
   | cons _ _=>exact r.elim
   | nil =>
    have S1:=(S.on I U).put (i:=i) Y;exact⟨_,_,rfl,g.nx _ _ R n1 r (S1.put (Keep.rep Qq S.hx J)) ((I.keep.trans Qq).trans Qq)⟩
def Yi(i:Nat)(d:DTE):DTS:=fun D l n=>match l[i]? with
 | some (some (.own ts))=>d l n fun t v=>ts.length<16777216/\D.nx (l.set i (some (.own (ts++[t])))) v
 | _=>False
theorem Qe(i:Nat){J p2 I:Pos}(h:DE X e d)(hN:X.N[i]?=some x:=by rfl)(hv:Vis X.env.scope x:=by walk_at "V")(hd:(x == ("__debug__":Str))=false:=by rfl)
  (Z:(x == ("__classdict__":Str))=false:=by rfl) (hs:swapsWith (.Call (.Attribute (.Name x J) "append" p2) [e] [] I) none pos.line X.env=pure false:=by rfl)
  (E7:attributeBase (.Name x J) "append" X.env (eval (.Name x J) X.env)=eval (.Name x J) X.env:=by rfl)
  (Ib:((backTo I (starEach [e] X.env)).all (fun x=>!x.1)&&(backToKw I (keywordEach [] X.env)).all (fun x=>x.1.isSome)
   && decide ([e].length+([]:List sG).length+(if ([]:List sG).isEmpty then 0 else 1)<30))=true:=by rfl)
  (E8:(p2.endLine == I.line)=true:=by rfl) (G:starEach [e] X.env=[(false,eval e X.env)]:=by rfl):DS X (.Expr (.Call (.Attribute (.Name x J) "append" p2) [e] [] I) pos) (Yi i d):=by
 obtain⟨ta,pa,h⟩:=h;refine⟨_,zoQ (zo0 gi PySem.F.slot_list_append PySem.F.type_list_append zd9 (QV hN hv hd Z) (QH pa Uo G) E7 Ib E8 G rfl) hs,fun C ρ σ H n D D' S hd g=>?_⟩
 unfold Yi at hd;split at hd
 ·rename_i ts et;obtain⟨p,vs,Y,h2,h3,h4⟩:=S.own i ts et;refine⟨.ref p,Y,.inl ⟨rfl,_,SqL.of h2⟩,?_⟩;refine h C ρ σ H n _ _ S hd fun t n' v H' r e1 hn q=>?_
  have S1:=S.on e1 hn;obtain⟨p',U,L,h2',R,h4'⟩:=S1.own i ts et;rw[Y]at L;cases L;refine⟨p,U,v,rfl,rfl,h2',by rw[R.length];exact r.1,?_⟩
  obtain⟨S2,k2⟩:=S1.chg et Y (R.append (.cons q .nil));exact g.nx _ _ _ n' r.2 S2 (e1.keep.trans k2)
 ·exact hd.elim
def sPut(i:Nat)(y d:DTE):DTS:=fun D l n=>d l n fun t v=>match l[i]? with
 | some (some (.own ts))=>y l v fun j C=>match j with|.int j=>(match ixN ts.length j with|some k=>D.nx (l.set i (some (.own (ts.set k t)))) C|none=>False)|_=>False
 | _=>False
theorem zti(i:Nat){dj:DTE}{l p2:Pos}(hj:DE X b dj)(h:DE X e d)(hN:X.N[i]?=some x:=by rfl)(hv:Vis X.env.scope x:=by walk_at "V")(hd:(x == ("__debug__":Str))=false:=by rfl)
  (U:(x == ("__classdict__":Str))=false:=by rfl) (hs:swapsWithSole [.Subscript (.Name x l) b p2] e pos.line X.env=pure false:=by rfl) (hw:swappedStores [.Subscript (.Name x l) b p2] e X.env=pure none:=by rfl)
  (G:(assignEach [.Subscript (.Name x l) b p2] X.env).map (·.2)=[assign (.Subscript (.Name x l) b p2) X.env]:=by rfl)
  (hsub:PG X (.Subscript (.Name x l) b p2)=PG X (.Subscript (.Name x l) b p2):=rfl) (pg:∀{to ti:TE} {t:TSet},PE X (.Name x l) to->PE X b ti->PSet X t->PG X (.Subscript (.Name x l) b p2) (L2.gSub to ti t):=by intro _ _ _ G h2 h3;exact pg_sub G h2 h3) :
  DS X (.Assign [.Subscript (.Name x l) b p2] e pos) (sPut i dj d):=by
 obtain⟨ta,pa,h⟩:=h;obtain⟨tj,pj,hj⟩:=hj;refine⟨_,YJ pa (pg (QV hN hv hd U) pj set_list) hs hw G,fun C ρ σ H n D D' S hd g=>?_⟩
 refine h C ρ σ H n _ _ S hd fun t n1 v H1 r e1 hn q=>?_
 have S1:=S.on e1 hn;split at r
 ·rename_i ts Y;obtain⟨p,vs,G,h2,h3,h4⟩:=S1.own i ts Y;refine⟨.ref p,G,hj C ρ σ H1 n1 _ _ S1 r fun j n2 w H2 y e2 L q2=>?_⟩
  have S2:=S1.on e2 L;cases j with
  | int j =>
   have y:(match ixN ts.length j with|some k=>D'.nx (ρ.set i (some (.own (ts.set k t)))) n2|none=>False):=y
   cases ek:ixN ts.length j with
   | none=>rw[ek]at y;exact y.elim
   | some m =>
    rw[ek]at y;obtain⟨p',R,J,Z,I,h4'⟩:=S2.own i ts Y;rw[G]at J;cases J;refine⟨p,R,j,m,rfl,q2.intI,Z,by rw[I.length];exact ek,?_⟩
    obtain⟨S3,k3⟩:=S2.chg Y G (I.set (e2.rep S.hx q) m);exact g.nx _ _ _ n2 y S3 ((e1.trans e2).keep.trans k3)
  | _=>exact y.elim
 ·exact r.elim
def zko(c:DTT)(I:DTS):DTS:=fun D v n=>∃W:Nat->En->Nat->Prop,(∃m,W m v n)/\∀m v n,W m v n ->
 c v n fun b G=>if b=true then I { D with nx:=fun l C=>∃y,y<m/\W y l C,ct:=fun l C=>∃y,y<m/\W y l C,bk:=D.nx } v G else D.nx v G
theorem zfM(hp:m7 (model X.prog X.w) X.A X.env X.xe)(hc:DT X c dt)(hb:DSs X sa t):DS X (.While c sa [] pos) (zko dt t):=by
 obtain⟨tc,pc,hc⟩:=hc;obtain⟨tb,pb,hb⟩:=hb;refine⟨_,zmT hp pc pb,fun C ρ σ H n D D' S hd g=>?_⟩
 obtain⟨W,⟨m0,w0⟩,turn⟩:=hd;refine⟨fun m L H1=>∃G Z,W m G Z/\Stt X.K C G L H1 Z/\Keep C ρ σ H G L H1,⟨m0,ρ,n,w0,S,Keep.refl⟩,?_⟩
 rintro m L H1 ⟨G,Z,w1,S1,k1⟩;refine hc C G L H1 Z _ _ S1 (turn m G Z w1) fun b n2 H2 r e2 hn2=>?_
 have S2:=S1.on e2 hn2;have k2:=k1.trans e2.keep;cases b with
 | true =>
  refine iteT ⟨fun σ' N=>∃J,J<m/\∃y I,W J y I/\Stt X.K C y σ' N I/\Keep C ρ σ H y σ' N,fun σ' N ⟨J,Y,z⟩=>⟨J,Y,z⟩,?_⟩
  refine hb C G L H2 n2 _ { D' with nx:=fun y I=>∃J,J<m/\W J y I,ct:=fun y I=>∃J,J<m/\W J y I,bk:=D'.nx } S2 (by simpa using r) ⟨?_,fun t I v N h hn R r=>g.rt t I v N h hn (fun a o ha U no=>?_) r,?_,?_,fun c I N h hn R=>g.xr c I N h hn fun a o ha U no=>R a o (k2 a o ha U no).1 U (k2 a o ha U no).2⟩
  ·rintro y σ' N I ⟨J,Y,w'⟩ S' R;exact⟨J,Y,y,I,w',S',k2.trans R⟩
  ·obtain⟨q1,q2⟩:=k2 a o ha U no;exact R a o q1 U q2
  ·intro y σ' N I h' S' R;exact g.nx y σ' N I h' S' (k2.trans R)
  ·rintro y σ' N I ⟨J,Y,w'⟩ S' R;exact⟨J,Y,y,I,w',S',k2.trans R⟩
 | false=>exact iteF (g.nx G L H2 n2 (by simpa using r) S2 k2)
end
def ItOk(K:qF)(hd:Option ak)(P O:ak->Prop)(H:Hp)(J:It)(ts:qD):Prop:=∀(v:ak->Prop) (l:Hp),(∀a o,H a=some o->P a->l a=some o)->(∀a o,H a=some o->¬O a->¬v a)->(∀a,v a->l a≠none) ->
 (∀i t,ts[i]?=some t->J.go i l/\∀x u,J.yld i l x u->Same l u/\Rep K hd v u x t)/\J.stop ts.length l
def DI(X:Cx)(y iter:aO)(d:DTA):Prop:=∃x,PI X y iter x/\∀(C:Ctx) (l:En) (σ:St) (H:Hp) (n:Nat) (Q:It->Hp->Prop) (R:List af->Nat->Prop),Stt X.K C l σ H n->d l n R ->
 (∀ts v J u,R ts v->ExtE C.hd H u->Hn C.hd u v->ItOk X.K C.hd (fun a=>¬Own C l σ a) (Own C l σ) u J ts->Q J u)->x σ H Q
def DIL(X:Cx)(y iter:aO)(d:DTA):Prop:=∃x,PI X y iter x/\∀(C:Ctx) (u:En) (σ:St) (H:Hp) (n:Nat) (Q:It->Hp->Prop) (R:List af->Nat->Prop),Stt X.K C u σ H n->d u n R ->
 (∀ts v J l,R ts v->ExtE C.hd H l->Hn C.hd l v->ItOk X.K C.hd (fun a=>C.hd≠some a) (Own C u σ) l J ts->Q J l)->x σ H Q
section
variable{X:Cx}{a b c e tg iter:aO}{es rest:List aO}{d da db dc:DTE}{ds di:DTA}{dt:DTT}{t u:DTS}{st:cT}{sts sa sb:List cT}{pos p:Pos}{k:Nat}{x:Str}
theorem dil(h:DI X tg iter di):DIL X tg iter di:=by
 obtain⟨v,pi,h⟩:=h;refine⟨v,pi,fun C N σ H n Q R S hd L=>h C N σ H n Q R S hd fun ts U J y r Y hn it=>L ts U J y r Y hn ?_⟩
 exact fun O2 Z G I h3=>it O2 Z (fun a o ha no=>G a o ha fun z=>no (.inl (S.hx a z))) I h3
theorem Reps.getP{K:qF}{hd:Option ak}{O:ak->Prop}{H:Hp}{vs ts}{i:Nat}{t}{x:V}(r:Reps K hd O H vs ts)(h:ts[i]?=some t)(hx:vs[i]?=some x):Rep K hd O H x t:=by
 obtain⟨v,l,y⟩:=r.get h;rw[hx]at l;cases l;exact y
theorem Vd{K:qF}{hd:Option ak}{P O:ak->Prop}{H:Hp}{q:ak}{vs ts}(S:H q=some (.lst vs))(N:P q)(U:∀a,¬O a->P a)(r:Reps K hd O H vs ts):ItOk K hd P O H (Itl K q) ts:=by
 intro Z Y J R _;have y:=J q _ S N;have I:Reps K hd Z Y vs ts:=r.mono (fun a o G z=>fO fun no=>R a o G no z) fun a o no G=>J a o G (U a no)
 refine⟨fun i t L=>?_,⟨vs,.of y,by rw[r.length];exact az _⟩⟩
 obtain⟨v,ev,rv⟩:=I.get L;refine⟨⟨vs,v,.of y,ev⟩,fun x H3 C=>?_⟩
 obtain⟨rfl,C⟩:=C;exact⟨Same.refl _,I.getP L (C vs (.of y))⟩
theorem zon{K:qF}{hd:Option ak}{P O:ak->Prop}{H:Hp}{v:V}{ts}(Y:∀a,¬O a->P a)(r:Rep K hd O H v (.tuple ts)):∃q y,v=.ref q/\SqT K H q y/\ItOk K hd P O H (Itt K q) ts:=by
 have key:∀q y,Reps K hd O H y ts->(∀(I:ak->Prop) (G:Hp),(∀a o,H a=some o->P a->G a=some o)->(∀a o,H a=some o->¬O a->¬I a)->SqT K G q y)->ItOk K hd P O H (Itt K q) ts:=by
  intro q y r Z I G J S _;have C:=Z I G J S;have R:Reps K hd I G y ts:=r.mono (fun a o N z=>fO fun no=>S a o N no z) fun a o no N=>J a o N (Y a no)
  refine⟨fun i t U=>?_,⟨y,C,by rw[r.length];exact az _⟩⟩
  obtain⟨v,ev,rv⟩:=R.get U;refine⟨⟨y,v,C,ev⟩,fun x H3 L=>?_⟩
  obtain⟨rfl,L⟩:=L;exact⟨Same.refl _,R.getP U (L y C)⟩
 cases r with
 | @tup q y ds h o r=>exact⟨q,y,rfl,.inl (.inl h),key q y r fun I G J _=>.inl (.inl (J q _ h (Y q o)))⟩
 | @tupS q y ds h r=>exact⟨q,y,rfl,h.sq,key q y r fun I G _ _=>h.sq⟩
def dItL(d:DTE):DTA:=fun v n R=>d v n fun t y=>match t with|.list ts=>R ts y|_=>False
def dItT(d:DTE):DTA:=fun v n R=>d v n fun t y=>match t with|.tuple ts=>R ts y|_=>False
theorem QG(h:DE X iter d):DI X tg iter (dItL d):=by
 obtain⟨Z,pa,h⟩:=h;refine⟨_,zkD pa,fun C L σ H n Q R S hd J=>?_⟩
 refine h C L σ H n _ _ S hd fun t N v y r U Y q=>?_
 cases t with
 | list ts =>
  obtain⟨p,G,rfl,l,no,I⟩:=q.lstI;exact⟨p,rfl,⟨G,.of l⟩,J ts N _ y r U Y (Vd l no (fun _ z=>z) I)⟩
 | _=>exact r.elim
theorem znW(h:DL X iter d):DIL X tg iter (dItL d):=by
 obtain⟨ta,pa,h⟩:=h;refine⟨_,zkD pa,fun C ρ σ H n Q R S hd N=>?_⟩
 refine h C ρ σ H n _ _ S hd fun t Y v L r Z hn q=>?_
 cases t with
 | list ts =>
  rcases q with q|⟨p,I,ds,rfl,J,y,G,U⟩|⟨p,zs,ep,ks,rfl,J,y,G,U⟩
  rotate_left 2
  ·cases J
  ·obtain⟨p,I,rfl,y,no,G⟩:=q.lstI;exact⟨p,rfl,⟨I,.of y⟩,N ts Y _ L r Z hn (Vd y (fun z=>no (.inl (S.hx p z))) (fun a no z=>no (.inl (S.hx a z))) G)⟩
  ·cases J;exact⟨p,rfl,⟨I,.of y⟩,N ts Y _ L r Z hn (Vd y U (fun a no z=>no (.inl (S.hx a z))) G)⟩
 | _=>exact r.elim
theorem QL(h:DE X iter d):DI X tg iter (dItT d):=by
 obtain⟨Y,pa,h⟩:=h;refine⟨_,zrl pa,fun C l σ H n Q R S hd J=>?_⟩
 refine h C l σ H n _ _ S hd fun t L v y r N U q=>?_
 cases t with
 | tuple ts =>
  obtain⟨p,G,rfl,I,it⟩:=zon (P:=fun a=>¬Own C l σ a) (fun _ z=>z) q
  exact⟨p,rfl,⟨G,I⟩,J ts L _ y r N U it⟩
 | _=>exact r.elim
def QI(lo:Int)(n:Nat):List af:=(eX n).map fun(i:Nat)=>bK (lo+(i:Int))
theorem znC{K:qF}{hd:Option ak}{P O:ak->Prop}{H:Hp}{lo:Int}{m:Nat}:ItOk K hd P O H (Itr lo m) (QI lo m):=by
 intro I C _ _ _;refine⟨fun i t v=>?_,by show m<=(QI lo m).length;simp[QI]⟩
 unfold QI at v;rw[aU]at v
 by_cases hi:i<m
 ·rw[lN hi]at v;cases v;refine⟨hi,fun x G y=>?_⟩
  obtain⟨rfl,rfl⟩:=y;exact⟨Same.refl _,.int _⟩
 ·rw[cH (by simp;omega)]at v
  cases v
def YA(d:DTE):DTA:=fun l n R=>d l n fun t v=>match t with|.int j=>(-(2 ^ 62)<=j/\j<2 ^ 62)/\R (QI 0 j.toNat) v|_=>False
theorem zer(J:X.mg "range" = none) (h:DE X a d) (L:Gl X "range":=by rfl) (y:starEach [a] X.env=[(false,eval a X.env)]:=by rfl):DI X tg (.Call (.Name "range" p) [a] [] pos) (YA d):=by
 obtain⟨ta,pa,h⟩:=h;refine⟨_,zkC L J (QH pa Uo y) y,fun C Y σ H n Q R S hd I=>?_⟩
 refine h C Y σ H n _ _ S hd fun t Z v G r e1 U q=>?_
 cases t with
 | int j =>
  rw[q.intI];exact⟨j,rfl,r.1.1,r.1.2,I _ Z _ G r.2 e1 U znC⟩
 | _=>exact r.elim
def forP(g:DTG)(l:DTS)(D:JO):List af->En->Nat->Prop
 | [],ρ,n=>D.nx ρ n
 | t::ts,ρ,n=>g t ρ fun v=>l { D with nx:=forP g l D ts,ct:=forP g l D ts,bk:=D.nx } v n
def sFor(di:DTA)(g:DTG)(y:DTS):DTS:=fun D l n=>di l n fun ts v=>forP g y D ts l v
theorem QM(hp:m7 (model X.prog X.w) X.A X.env X.xe)(hc:X.calm=true)(hi:DI X tg iter di)(hg:DG X tg is g)(hb:DSs X sa t)
  (hs:∀x,foldedSetIterable iter X.env x=pure x:=by intro _;rfl):DS X (.For tg iter sa [] pos) (sFor di g t):=by
 obtain⟨wi,pi,hi⟩:=hi;obtain⟨_,gg,pg,hg⟩:=hg;obtain⟨tb,pb,hb⟩:=hb;refine⟨_,zrh hp hc pi pg pb hs,fun C ρ σ H n D D' S hd gd=>?_⟩
 refine hi C ρ σ H n _ _ S hd fun ts n1 J H1 r e1 hn it=>?_
 have S1:=S.on e1 hn;refine⟨fun i m L H2=>m=ts.length - i/\i<=ts.length/\∃I n2,forP g t D' (ts.drop i) I n2/\Stt X.K C I L H2 n2/\Keep C ρ σ H1 I L H2,⟨ts.length,by simp,eF _,ρ,n1,by simpa using r,S1,Keep.refl⟩,?_⟩
 rintro i m L H2 ⟨rfl,hi',I,n2,f2,S2,k2⟩;have itq:=it (Own C I L) H2 (fun a o Y no=>(k2 a o Y (fun z=>no (.inl (S.hx a z))) fun z=>no (.inr z)).1) (fun a o Y no z=>z.elim (fun z=>no (.inl z)) fun z=>(k2 a o Y (fun y=>no (.inl (S.hx a y))) fun y=>no (.inr y)).2 z) (fun a=>S2.dom)
 by_cases hlt:i<ts.length
 ·have et:ts[i]?=some ts[i]:=aI hlt;obtain⟨go,yl⟩:=itq.1 i _ et;rw[cf hlt]at f2;refine .inr ⟨go,fun σ' R=>∃G N,forP g t D' (ts.drop (i+1)) G N/\Stt X.K C G σ' R N/\Keep C ρ σ H1 G σ' R,fun σ' R z=>⟨ts.length - (i+1),by omega,rfl,hlt,z⟩,fun x H3 hy=>?_⟩
  obtain⟨sm,rx⟩:=yl x H3 hy;have S3:=S2.on sm.ext (S2.hnd.same sm);have k3:Keep C ρ σ H1 I L H3:=k2.trans (Same.ext sm:ExtE C.hd H2 H3).keep;refine hg C I L H3 n2 x _ _ _ S3 rx f2 fun ρ4 σ4 r4 S4 k4 _ _=>?_
  have k5:=k3.trans k4;refine hb C ρ4 σ4 H3 n2 _ { D' with nx:=forP g t D' (ts.drop (i+1)),ct:=forP g t D' (ts.drop (i+1)),bk:=D'.nx } S4 r4 ⟨fun G σ' R N h' S' U=>⟨G,N,h',S',k5.trans U⟩,fun t N v R h Z U rp=>gd.rt t N v R h Z (fun a o Y nh no=>?_) rp,fun G σ' R N h' S' U=>gd.nx G σ' R N h' S' (e1.keep.trans (k5.trans U)),fun G σ' R N h' S' U=>⟨G,N,h',S',k5.trans U⟩,fun c N R h Z U=>gd.xr c N R h Z fun a o Y nh no=>U a o ((e1.keep.trans k5) a o Y nh no).1 nh ((e1.keep.trans k5) a o Y nh no).2⟩
  obtain⟨q1,q2⟩:=(e1.keep.trans k5) a o Y nh no;exact U a o q1 nh q2
 ·have e:i=ts.length:=by omega
  subst e;rw[gO]at f2;exact .inl ⟨itq.2,gd.nx I L H2 n2 f2 S2 (e1.keep.trans k2)⟩
def JY(N:List Str)(ts:qD):En:=ts.map (fun t=>some (.val t))++bE (N.length - ts.length) none
theorem zf3{K:qF}{hd:Option ak}{O:ak->Prop}{H:Hp}{n:Nat}{N:List Str}{y:List V}{ts:qD}(r:Reps K hd O H y ts)(J:Hn hd H n)(dom:∀a,O a->MutO (H a))(hx:∀a,hd=some a->O a) :
  Stt K ⟨hd,O⟩ (JY N ts) (start N y) H n/\∀a,¬OwnS (JY N ts) (start N y) a:=by
 have get:∀(i:Nat) c,(JY N ts)[i]?=some (some c)->∃t,c=.val t/\ts[i]?=some t:=fun i c h=>by
  unfold JY at h
  by_cases hi:i<ts.length
  ·rw[cc (by simpa using hi),aU]at h
   cases e:ts[i]? with
   | none=>rw[e]at h;cases h
   | some t=>rw[e]at h;cases h;exact⟨t,rfl,rfl⟩
  ·rw[cz (by simpa using hi),dB]at h
   split at h <;> cases h
 have no:∀a,¬OwnS (JY N ts) (start N y) a:=fun a ⟨i,ds,m,C,_⟩=>by
  obtain⟨t,e,_⟩:=get i _ C;subst e;cases m
 refine⟨.mk' (by unfold JY start;simp[r.length]) (fun i d h=>?_) (fun i ds m h=>?_) (fun i L h=>by obtain⟨t,e,_⟩:=get i _ h;cases e) (fun i j ds es a m _ h=>?_) J dom hx,no⟩
 ·obtain⟨t,e,I⟩:=get i _ h;cases e;obtain⟨v,ev,G⟩:=r.get I;refine⟨v,?_,G.mono (fun a o _ z=>z.elim id fun z=>absurd z (no a)) fun _ _ _ z=>z⟩
  unfold start;have hi:i<y.length:=by
   rcases br i y.length with z|z
   ·exact z
   ·rw[cH z]at ev;cases ev
  rw[cc (by simpa using hi),aU,ev];rfl
 ·obtain⟨t,e,_⟩:=get i _ h;subst e;cases m
 ·obtain⟨t,e,_⟩:=get i _ h;subst e;cases m
end
end L2
namespace Bd
open PySem L2 PyProof.Rows
theorem Def.okD{P:aG}{w:aP}{K:qF}{mg:qM}{base:aN}{x:Str}{st:cT}{ps N:List Str}{f:ak}{fd:cD}{k m:Nat}{g:GD}(D:Def K mg x st ps f fd)(S:Q8 N ps (JE st))(hm:m=ps.length)
  (hb:∀(l:ah) (A:bo) (outer:List Env) (s:au) (H:Hp) (E:XK),Room k (A.deeper (envOfC x (JE st) s.heap.objs.size f l))->∃d,DSs (cxOf CX0 P w K mg base N x (JE st) f l A outer s H E).nox (JZ st) d /\
   ∀ts n R,ts.length=m->g ts n R->d { nx:=fun _ u=>R .none u,rt:=R } (JY N ts) n):FnOk P w K mg base CX0 (k+1) f fd ps (spD K m g):=by
 refine D.F.ok S (fun vs H Q E h=>?_) (fun l A outer s H vs Q E hr h=>?_)
 ·obtain⟨hd,O,ts,n,R,r,_,_,_,L,_⟩:=h;rw[r.length,L,hm]
 ·obtain⟨hd,O,ts,n,R,r,hn,dom,hx,L,hg,Y⟩:=h;obtain⟨d,⟨t,pt,Z⟩,C⟩:=hb l A outer s H E hr;obtain⟨S0,no⟩:=zf3 (N:=N) r hn dom hx;refine⟨t,pt,Z ⟨hd,O⟩ _ _ H n _ _ S0 (C ts n R L hg) ⟨fun ρ' σ' y u h S' J=>?_,fun t u v y h I J rp=>?_,fun _ _ _ _ h=>h.elim,fun _ _ _ _ h=>h.elim,fun _ _ _ h=>h.elim⟩⟩
  ·exact Y .none u .non y h (fun a o U G=>(J a o U G (no a)).1) S'.hnd .non
  ·exact Y t u v y h (fun a o U G=>J a o U G (no a)) I rp
end Bd
namespace L2
open PySem PySem.Spec PyProof.Rows
def DTs(Y:Cx)(ifs:List aO)(d:DTT):Prop:=∃v,PTs Y ifs v/\∀(C:Ctx) (u:En) (σ:St) (H:Hp) (n:Nat) (Q:Bool->Hp->Prop) (R:Bool->Nat->Prop),Stt Y.K C u σ H n->d u n R ->
 (∀b x l,R b x->ExtE C.hd H l->Hn C.hd l x->Q b l)->v σ H Q
def dYes:DTT:=fun _ n R=>R true n
section
variable{Y:Cx}{c:aO}{d:DTT}
theorem Vb:DTs Y [] dYes:=⟨_,zoO,fun C u σ H n Q R S h l=>l true n H h ExtE.refl S.hnd⟩
theorem UL(h:DT Y c d):DTs Y [c] d:=by
 obtain⟨l,p,h⟩:=h;exact⟨_,zoN p,h⟩
end
theorem DE.uni{J:Type}{Xf:J->Cx}{K:qF}(G:∀i,(Xf i).K=K){e:aO}{d:DTE}(h:∀i,DE (Xf i) e d):∃y:TE,(∀i,PE (Xf i) e y)/\∀(C:Ctx) (u:En) (σ:St) (H:Hp) (n:Nat) (Q:VK) (R:qN),Stt K C u σ H n->d u n R ->
  (∀t x v l,R t x->ExtE C.hd H l->Hn C.hd l x->Rep K C.hd (Own C u σ) l v t->Q v l)->y σ H Q:=by
 refine⟨fun σ H Q=>∀i,(gP (h i)) σ H Q,fun i pins s σ H Q I hw=>(cw (h i)).1 pins s σ H Q I (hw i),fun C u σ H n Q R S hd L i=>?_⟩
 have:=(cw (h i)).2 C u σ H n Q R;exact this (by rw[G i];exact S) hd fun t x v l r e h q=>L t x v l r e h (by rw[<- G i];exact q)
theorem DTs.uni{y:Type}{Xf:y->Cx}{K:qF}(J:∀i,(Xf i).K=K){e:List aO}{d:DTT}(h:∀i,DTs (Xf i) e d):∃v:TT,(∀i,PTs (Xf i) e v)/\∀(C:Ctx) (l:En) (σ:St) (H:Hp) (n:Nat) (Q:Bool->Hp->Prop) (R:Bool->Nat->Prop),Stt K C l σ H n->d l n R ->
  (∀b x u,R b x->ExtE C.hd H u->Hn C.hd u x->Q b u)->v σ H Q:=by
 refine⟨fun σ H Q=>∀i,(gP (h i)) σ H Q,fun i pins s σ H Q I hw=>(cw (h i)).1 pins s σ H Q I (hw i),fun C l σ H n Q R S hd G i=>?_⟩
 have:=(cw (h i)).2 C l σ H n Q R;exact this (by rw[J i];exact S) hd G
theorem DG.uni{J:Type}[Nonempty J]{Xf:J->Cx}{K:qF}(y:∀i,(Xf i).K=K){e:aO}{is:List Nat}{d:DTG}(h:∀i,DG (Xf i) e is d):∃G:TG,(∀i,PG (Xf i) e G)/\∀(C:Ctx) (x:En) (σ:St) (H:Hp) (n:Nat) (v:V) (t:af) (Q:St->Hp->Prop) (R:En->Prop),Stt K C x σ H n->Rep K C.hd (Own C x σ) H v t->d t x R ->
  (∀l σ',R l->Stt K C l σ' H n->Keep C x σ H l σ' H->(∀j,j∉is->σ'[j]?=σ[j]?)->σ'.length=σ.length->Q σ' H)->G v σ H Q:=by
 refine⟨fun v σ H Q=>∀i,(gP (h i).2) v σ H Q,fun i pins s σ H v u Q I r hw=>(cw (h i).2).1 pins s σ H v u Q I r (hw i),fun C x σ H n v t Q R S r hd N i=>?_⟩
 have:=(cw (h i).2).2 C x σ H n v t Q R;exact this (by rw[y i];exact S) (by rw[y i];exact r) hd fun l σ' L U=>N l σ' L (by rw[<- y i];exact U)
theorem Wk.of:∀{σ σ':St},σ.length=σ'.length->(∀(i:Nat) v,σ[i]?=some (some v)->σ'[i]?=some (some v))->Wk σ σ'
 | [],[],_,_=>trivial
 | [],_::_,h,_=>by simp at h
 | _::_,[],h,_=>by simp at h
 | none::r,o::r',h,k=>Wk.of (σ:=r) (σ':=r') (by simpa using h) fun i v e=>by simpa using k (i+1) v (by simpa using e)
 | some w::r,o::r',h,k=>⟨by simpa using k 0 w rfl,Wk.of (by simpa using h) fun i v e=>by simpa using k (i+1) v (by simpa using e)⟩
def capV:Option Cell->Option Cell
 | some (.val d)=>some (.val d)
 | some (.dct ks)=>some (.rdo ks)
 | some (.rdo ks)=>some (.rdo ks)
 | _=>none
def JC(m:Nat)(capt:List Nat)(l:En):En:=bE m none++capt.map fun i=>capV (l.getD i none)
def JR(g:DTG)(tt:DTT)(v:DTE)(l:En):List af->List af->Nat->(List af->Nat->Prop)->Prop
 | [],acc,n,R=>R acc n
 | x::xs,acc,n,R=>g x l fun u=>tt u n fun b y=>if b=true then v u y fun t C=>acc.length<16777216/\JR g tt v l xs (acc++[t]) C R else JR g tt v l xs acc y R
def dComp(m:Nat)(capt:List Nat)(v:DTA)(g:DTG)(tt:DTT)(x:DTE):DTA:=fun l n R=>v l n fun ts u=>JR g tt x (JC m capt l) ts [] u R
theorem zn7{own:List Str}{capt is:List Nat}{σ u:St}(x:∀i∈is,i<own.length)(y:∀j,j∉is->u[j]?=(Jx own++capS capt σ)[j]?){j:Nat}{v:V}(l:(Jx own++capS capt σ)[j]?=some (some v)):u[j]?=some (some v):=by
 by_cases hjo:j<own.length
 ·rw[cc (by simpa using hjo),aU]at l
  cases z:own[j]? with
  | none=>rw[z]at l;cases l
  | some q=>rw[z]at l;cases l
 ·rw[y j (fun z=>hjo (x j z))];exact l
theorem ExtE.updR{hd:Option ak}{l v:Hp}{D:ak}{o:HO}(y:l D=none)(e:ExtE hd l v):ExtE hd l (upd v D o):=fun a u x C=>by
 rw[Jn (Qs x y)];exact e a u x C
theorem Hn.updR{hd:Option ak}{u:Hp}{D:ak}{o:HO}{n:Nat}(l:hd≠some D)(h:Hn hd u n):Hn hd (upd u D o) n:=fun a v=>by
 obtain⟨d,m,t,q,rest⟩:=h a v;exact⟨d,m,t,by rw[Jn (show a≠D from fun z=>l (by rw[<- z];exact v))];exact q,rest⟩
section
variable{X:Cx}{scope:eU}{own:List Str}{capt:List Nat}{elt tg iter:aO}{ifs:List aO}{pos:Pos}{di:DTA}{is:List Nat}{g:DTG}{tt:DTT}{te:DTE}
theorem zfK{x:En}{i:Nat}{c:Cell}(h:capV (x.getD i none)=some c):(∃d,c=.val d/\x[i]?=some (some (.val d)))\/∃u,c=.rdo u/\(x[i]?=some (some (.dct u))\/x[i]?=some (some (.rdo u))):=by
 rw[aY]at h;cases e:x[i]? with
 | none=>rw[e]at h;cases h
 | some o =>
  rw[e]at h;cases o with
  | none=>cases h
  | some y =>
   cases y with
   | val d'=>simp[capV]at h;exact .inl ⟨d',h.symm,rfl⟩
   | own _=>simp[capV]at h
   | dct u=>simp[capV]at h;exact .inr ⟨u,h.symm,.inl rfl⟩
   | dtt u=>simp[capV]at h
   | rdo u=>simp[capV]at h;exact .inr ⟨u,h.symm,.inr rfl⟩
theorem zlR{K:qF}{C:Ctx}{u:En}{σ:St}{H Y:Hp}{n n2:Nat}{D:ak}(S:Stt K C u σ H n)(e:ExtE C.hd H Y)(hn:Hn C.hd Y n2)(hD:H D=none)(hy:MutO (Y D)) :
  Stt K ⟨C.hd,fun a=>Own C u σ a\/a=D⟩ (JC own.length capt u) (Jx own++capS capt σ) Y n2/\∀a,¬OwnS (JC own.length capt u) (Jx own++capS capt σ) a:=by
 have get:∀(i:Nat) c,(JC own.length capt u)[i]?=some (some c)->∃j,capV (u.getD j none)=some c/\own.length<=i/\capt[i - own.length]?=some j:=fun i c h=>by
  unfold JC at h
  by_cases hi:i<own.length
  ·rw[cc (by simpa using hi),dB]at h
   split at h <;> cases h
  ·rw[cz (by simpa using hi),gM,aU]at h
   cases ej:capt[i - own.length]? with
   | none=>rw[ej]at h;cases h
   | some j =>
    rw[ej]at h;exact⟨j,by simpa using h,by omega,rfl⟩
 have slot:∀(i j:Nat) (v:V),own.length<=i->capt[i - own.length]?=some j->σ[j]?=some (some v)->(Jx own++capS capt σ)[i]?=some (some v):=fun i j v hi J x=>by
  rw[cz (by simpa using hi)]
  simp only[aL,aU,J,ei];rw[aY,x];rfl
 have nm:∀(i:Nat) (c:Cell),c.mine=true->(JC own.length capt u)[i]?=some (some c)->False:=fun i c m h=>by
  obtain⟨j,U,_⟩:=get i c h;rcases zfK U with⟨d,rfl,_⟩|⟨N,rfl,_⟩ <;> cases m
 have no:∀a,¬OwnS (JC own.length capt u) (Jx own++capS capt σ) a:=fun a ⟨i,c,m,x,_⟩=>nm i c m x
 have S2:=S.on e hn;have sub:∀a o,H a=some o->Own ⟨C.hd,fun a=>Own C u σ a\/a=D⟩ (JC own.length capt u) (Jx own++capS capt σ) a->Own C u σ a:=fun a o y z=>by
  rcases z with z|z
  ·rcases z with z|z
   ·exact z
   ·subst z;rw[hD]at y;cases y
  ·exact absurd z (no a)
 have kp:∀a o,¬Own C u σ a->H a=some o->Y a=some o:=fun a o nO y=>e a o y fun z=>nO (.inl (S.hx a z))
 refine⟨.mk' (by unfold JC;simp) (fun i d h=>?_) (fun i ds m h=>(nm i _ m h).elim) (fun i N h=>?_) (fun i j ds es a m _ h=>(nm i _ m h).elim) hn (fun a y=>?_) (fun a y=>.inl (.inl (S.hx a y))),no⟩
 ·obtain⟨j,U,hi,J⟩:=get i _ h;rcases zfK U with⟨d',z,G⟩|⟨N,z,_⟩
  ·cases z;obtain⟨v,x,L⟩:=S.val j d G;exact⟨v,slot i j v hi J x,L.mono sub kp⟩
  ·cases z
 ·obtain⟨j,U,hi,J⟩:=get i _ h;rcases zfK U with⟨d',z,G⟩|⟨ks',z,G⟩
  ·cases z
  ·cases z;rcases G with G|G
   ·obtain⟨a,I,x,L,h3,Z⟩:=S.dct j N G;have R:C.hd≠some a:=fun z=>Z (S.hx a z)
    exact⟨a,I,slot i j _ hi J x,e a _ L R,h3.mono sub kp,.inl (.inr ⟨j,.dct N,rfl,G,x⟩),R⟩
   ·obtain⟨a,I,x,L,h3,Z,R⟩:=S.rdo j N G;exact⟨a,I,slot i j _ hi J x,e a _ L R,h3.mono sub kp,.inl (.inl Z),R⟩
 ·rcases y with y|rfl
  ·exact S2.lst y
  ·exact hy
theorem zjd{K:qF}{C:Ctx}{u:En}{σ:St}{H v:Hp}{n x:Nat}{D:ak}{ys:List V}(S:Stt K C u σ H n)(e:ExtE C.hd H v)(y:Hn C.hd v x)(G:H D=none)(I:v D=some (.lst ys)) :
  Stt K ⟨C.hd,fun a=>Own C u σ a\/a=D⟩ (JC own.length capt u) (Jx own++capS capt σ) v x/\∀a,¬OwnS (JC own.length capt u) (Jx own++capS capt σ) a:=zlR S e y G (.inl ⟨_,I⟩)
def ztA(K:qF)(te:TE)(d:DTA):Prop:=∀(C:Ctx) (v:En) (σ:St) (H:Hp) (n:Nat) (Q:VK) (R:List af->Nat->Prop),Stt K C v σ H n->d v n R ->
 (∀ts y p x u,R ts y->ExtE C.hd H u->Hn C.hd u y->H p=none->u p=some (.lst x)->Reps K C.hd (fun a=>Own C v σ a\/a=p) u x ts->Q (.ref p) u)->te σ H Q
theorem zg9(hi:DIL X tg iter di)
  (hg:∀C s₀ H₀ u,DG (Jf X scope own capt C s₀ H₀ u) tg is g) (hin:∀i∈is,i<own.length) (ht:∀C s₀ H₀ u,DTs (Jf X scope own capt C s₀ H₀ u) ifs tt) (he:∀C s₀ H₀ u,DE (Jf X scope own capt C s₀ H₀ u) elt te) :
  ∃(wi:TI) (gg:TG) (gt:TT) (ge:TE),PI X tg iter wi/\(∀C s₀ H₀ u,PG (Jf X scope own capt C s₀ H₀ u) tg gg)/\(∀C s₀ H₀ u,PTs (Jf X scope own capt C s₀ H₀ u) ifs gt)/\(∀C s₀ H₀ u,PE (Jf X scope own capt C s₀ H₀ u) elt ge)/\ztA X.K (tComp own capt wi gg gt ge) (dComp own.length capt di g tt te):=by
 obtain⟨wi,pi,hi⟩:=hi
 let Xf:(ak×au×Hp×List ak)->Cx:=fun q=>Jf X scope own capt q.1 q.2.1 q.2.2.1 q.2.2.2
 have hK:∀q,(Xf q).K=X.K:=fun _=>rfl
 have hne:Nonempty (ak×au×Hp×List ak):=⟨(0,X.s₀,X.H₀,[])⟩;obtain⟨gg,pg,hgg⟩:=DG.uni (Xf:=Xf) hK fun q=>hg q.1 q.2.1 q.2.2.1 q.2.2.2
 obtain⟨gt,pt,hgt⟩:=DTs.uni (Xf:=Xf) hK fun q=>ht q.1 q.2.1 q.2.2.1 q.2.2.2
 obtain⟨ge,pe,hge⟩:=DE.uni (Xf:=Xf) hK fun q=>he q.1 q.2.1 q.2.2.1 q.2.2.2
 refine⟨wi,gg,gt,ge,pi,(fun C s₀ H₀ u=>pg (C,s₀,H₀,u)),(fun C s₀ H₀ u=>pt (C,s₀,H₀,u)),(fun C s₀ H₀ u=>pe (C,s₀,H₀,u)),fun C L σ H n Q R St hd hq=>?_⟩
 refine hi C L σ H n _ _ St hd fun ts n1 J H1 r e1 hn it=>fun D I=>?_
 have St1:=St.on e1 hn;have hD:H D=none:=Vc e1 hn I;have U:C.hd≠some D:=fun z=>St.dom (.inl (St.hx D z)) hD
 refine zlU (n:=ts.length) (fun i ys S=>∃y Z,JR g tt te (JC own.length capt L) (ts.drop i) y Z R/\Reps X.K C.hd (fun a=>Own C L σ a\/a=D) S ys y/\ExtE C.hd H1 S/\Hn C.hd S Z)
  ⟨[],n1,by simpa using r,.nil,ExtE.new I,hn.same (JS I)⟩ ?_ ?_
 ·rintro i ys S hlt hy ⟨y,Z,c2,r2,e2,N⟩;have et:ts[i]?=some ts[i]:=aI hlt;rw[cf hlt]at c2;have itq:=it (fun a=>Own C L σ a\/a=D) S (fun a o G nh=>e2 a o G nh) (fun a o G no z=>z.elim no fun z=>by subst z;rw[I]at G;cases G) (fun a z=>z.elim (fun z=>(St1.on e2 N).dom z) fun z=>by subst z;rw[hy];exact fun z=>by cases z)
  obtain⟨go,yl⟩:=itq.1 i _ et;refine⟨go,fun x H3 hyd=>?_⟩
  obtain⟨sm,rx⟩:=yl x H3 hyd;have hn3:=N.same sm;have e3:ExtE C.hd H1 H3:=e2.trans sm.ext;obtain⟨I3,no3⟩:=zjd (own:=own) (capt:=capt) (D:=D) (ys:=ys) St (e1.trans e3) hn3 hD (sm _ _ hy);have rx':Rep X.K C.hd (Own ⟨C.hd,fun a=>Own C L σ a\/a=D⟩ (JC own.length capt L) (Jx own++capS capt σ)) H3 x ts[i]:=rx.mono (fun a o _ z=>z.elim id fun z=>absurd z (no3 a)) fun _ _ _ z=>z
  refine hgg ⟨C.hd,fun a=>Own C L σ a\/a=D⟩ (JC own.length capt L) (Jx own++capS capt σ) H3 Z x ts[i] _ _ I3 rx' c2 fun ρ4 σ4 r4 S4 k4 hj hl=>⟨Wk.of hl.symm fun j v ej=>zn7 hin hj ej,?_⟩
  ·refine hgt _ ρ4 σ4 H3 Z _ _ S4 r4 fun b n5 H5 r5 Y hn5=>?_
   have S5:=S4.on Y hn5;have hy5:H5 D=some (.lst ys):=Y D _ (sm _ _ hy) U;have r25:∀{H6},ExtE C.hd S H6->Reps X.K C.hd (fun a=>Own C L σ a\/a=D) H6 ys y:=fun e=>r2.mono (fun _ _ _ z=>z) fun a o no G=>e a o G fun z=>no (.inl (.inl (St.hx a z)))
   cases b with
   | false =>
    refine iteF ⟨ys,hy5,y,n5,by simpa using r5,r25 ((Same.ext sm).trans Y),e3.trans Y,hn5⟩
   | true =>
    refine iteT (hge _ ρ4 σ4 H5 n5 _ _ S5 (by simpa using r5) fun t n6 v H6 r6 e6 hn6 q6=>?_)
    have hy6:H6 D=some (.lst ys):=e6 D _ hy5 U;have rl:=(r25 ((Same.ext sm).trans (Y.trans e6))).length;refine⟨ys,hy6,by rw[rl];exact r6.1,y++[t],n6,r6.2,?_,?_,?_⟩
    ·have q6':Rep X.K C.hd (fun a=>Own C L σ a\/a=D) H6 v t:=q6.mono (fun _ _ _ z=>.inl z) fun _ _ _ z=>z
     have all:=(r25 ((Same.ext sm).trans (Y.trans e6))).append (Reps.cons q6' .nil);exact all.mono (fun _ _ _ z=>z) fun a o no G=>by rw[Jn (show a≠D from fun z=>no (.inr z))];exact G
    ·exact ExtE.updR I (e3.trans (Y.trans e6))
    ·exact Hn.updR U hn6
 ·rintro ys S hy ⟨y,Z,c2,r2,e2,N⟩;rw[gO]at c2;have itq:=it (fun a=>Own C L σ a\/a=D) S (fun a o G nh=>e2 a o G nh) (fun a o G no z=>z.elim no fun z=>by subst z;rw[I]at G;cases G) (fun a z=>z.elim (fun z=>(St1.on e2 N).dom z) fun z=>by subst z;rw[hy];exact fun z=>by cases z)
  exact⟨itq.2,hq y Z D ys S c2 (e1.trans e2) N hD hy r2⟩
theorem zlE(hc:X.calm=true)(S:JG scope own capt X)(hi:DIL X tg iter di)
  (G:∀C s₀ H₀ l,DG (Jf X scope own capt C s₀ H₀ l) tg is g) (u:∀i∈is,i<own.length) (v:∀C s₀ H₀ l,DTs (Jf X scope own capt C s₀ H₀ l) ifs tt) (J:∀C s₀ H₀ l,DE (Jf X scope own capt C s₀ H₀ l) elt te)
  (I:∀x,foldedSetIterable iter X.env x=pure x:=by intro _;rfl):DN X (.ListComp elt [⟨tg,iter,ifs,0⟩] scope pos) (dComp own.length capt di g tt te):=by
 obtain⟨R,N,gt,ge,a,b,c,d,y⟩:=zg9 hi G u v J;exact⟨_,zmZ hc S a b c d I,y⟩
def DNA(X:Cx)(x:Str)(l:Pos)(e:aO)(pos:Pos)(i:Nat)(d:DTA):Prop:=∃te,PS X (.Assign [.Name x l] e pos) (tAsg te (Yv i))/\ztA X.K te d
theorem Vk{x:Str}{u J:Pos}{i:Nat}(Y:X.N.Nodup)(I:X.N[i]?=some x)(hx:Loc X.env.scope x)(hc:X.calm=true)(S:JG scope own capt X)(hi:DIL X tg iter di)
  (Z:∀C s₀ H₀ v,DG (Jf X scope own capt C s₀ H₀ v) tg is g) (G:∀i∈is,i<own.length) (R:∀C s₀ H₀ v,DTs (Jf X scope own capt C s₀ H₀ v) ifs tt) (he:∀C s₀ H₀ v,DE (Jf X scope own capt C s₀ H₀ v) elt te)
  (hs:∀x,foldedSetIterable iter X.env x=pure x:=by intro _;rfl) (y:swapsWith (.ListComp elt [⟨tg,iter,ifs,0⟩] scope pos) (some (.Name x u)) J.line X.env=pure true:=by rfl)
  (hf:X.fn x=true\/X.env.scope.names.lookup x=some .local:=by walk_at "F") :
  DNA X x u (.ListComp elt [⟨tg,iter,ifs,0⟩] scope pos) J i (dComp own.length capt di g tt te):=by
 obtain⟨wi,gg,gt,ge,a,b,c,d,U⟩:=zg9 hi Z G R he;exact⟨_,zky hc S a b c d Y I hx hs y hf,U⟩
theorem Va{x:Str}{v y:Pos}{e:aO}{i:Nat}{d:DTA}(h:DNA X x v e y i d):DS X (.Assign [.Name x v] e y) (sSet i (dNew d)):=by
 obtain⟨ta,pa,h⟩:=h;refine⟨_,pa,fun C R σ H n D D' S hd g=>?_⟩
 refine h C R σ H n _ _ S hd fun ts U p vs I r G J L Z Y=>?_
 exact g.nx _ _ I U r ((S.on G J).put (.lst Z (S.free L|> fun z=>z) (Y.mono (fun _ _ _ z=>.inl z) fun _ _ _ z=>z))) (G.keep.trans Qq)
end
def ZA(K:qF):Sp:=fun u H Q _=>∃(a:ak) (ns:List Int) (k:Int),u=[.ref a,.int k]/\SqL K H a (ns.map V.int)/\ns.length<=63/\0<=k/\k<=100 /\
 ∀hd l,H hd=none->Zu l hd 0->Same H l->Q (.ref hd) l
def ztz(hd:ak)(H l:Hp):Prop:=∀b o,H b=some o->b≠hd->l b=some o
def zob:Sp:=fun l H Q _=>∃(hd:ak) (many n:Int),l=[.ref hd,.int many]/\Zu H hd n/\n<=1000000000000/\0<many/\many<2 ^ 128 /\
 ∀(r:Int) H',0<=r->r<many->Zu H' hd (n+1)->ztz hd H H'->Q (.int r) H'
def UG:GD:=fun ts n R=>match ts with
 | [h,.int many]=>h=HAND/\0<many/\many<2 ^ 128/\n<=1000000000000/\∀r:Int,0<=r->r<many->R (.int r) (n+1)
 | _=>False
theorem zmB{K:qF}(u:List V)(H:Hp)(Q:VK)(E:XK)(h:spD K 2 UG u H Q E):zob u H Q E:=by
 obtain⟨hd,O,ts,n,R,r,Z,dom,hx,hl,g,I⟩:=h;unfold UG at g;split at g
 ·rename_i x many;obtain⟨rfl,m0,Y,L,g⟩:=g;cases r with
  | cons N r =>
   cases r with
   | cons y r =>
    cases r;obtain⟨a,rfl,l⟩:=N.handI;rw[y.intI];refine⟨a,many,n,rfl,Z a l,by omega,m0,Y,fun q C G U x J=>?_⟩
    refine I _ (n+1) _ C (g q G U) (fun b o S nb=>J b o S fun z=>nb (by rw[l,z])) (fun b v=>?_) (.int _)
    rw[l]at v;cases v;exact x
 ·exact g.elim
def zqQ:Option (Option Cell)->(List af->Prop)->Prop
 | some (some (.val (.dict [(.none,.list ts)]))),R=>R ts
 | _,_=>False
def JI(u:En):En:=match (u[(0:Nat)]?:Option (Option Cell)) with
 | some (some (.val (.dict [(.none,.list ts)])))=>some (.val (.dict [(.none,.list ts)]))::bE (u.length - 1) none
 | _=>bE u.length none
def intOf:Option (Option Cell)->(Int->Prop)->Prop
 | some (some (.val (.int k))),R=>R k
 | _,_=>False
def U1(i j:Nat)(u:DTS):DTS:=fun D y n=>zqQ y[0]? fun ts=>intOf y[j]? fun k=>(∃ns:List Int,ts=ns.map bK/\ns.length<=63)/\0<=k/\k<=100 /\
 u { nx:=fun x _=>D.nx (JI x) n,rt:=fun t _=>∃b,t=.bool b/\D.rt t n,bk:=fun x _=>D.bk (JI x) n,ct:=fun x _=>D.ct (JI x) n } (((JI y).set j (some (.val (.int k)))).set i (some (.val HAND))) 0
theorem UT(h:(JI ρ)[i]?=some (some c)):i=0/\ρ[0]?=some (some c)/\∃ts,c=.val (.dict [(.none,.list ts)]):=by
 unfold JI at h;split at h
 ·rename_i ts e;cases i with
  | zero=>simp at h;subst h;exact⟨rfl,e,ts,rfl⟩
  | succ i =>
   rw[eR,dB]at h;split at h <;> cases h
 ·rw[dB]at h;split at h <;> cases h
theorem znU:(JI ρ).length=ρ.length:=by
 unfold JI;split
 ·rename_i ts e;cases ρ with
  | nil=>simp at e
  | cons a r=>simp
 ·simp
theorem zfO:¬OwnS (JI ρ) σ a:=fun⟨i,ds,m,h,_⟩=>by
 obtain⟨_,_,ts,e⟩:=UT h;subst e;cases m
theorem Rep.scrHd{K:qF}{hd G:Option ak}{O I:ak->Prop}{H J:Hp}{v:V}{ts:qD}(h:Rep K hd O H v (.dict [(.none,.list ts)]))(C:∀a o,H a=some o->¬O a->J a=some o/\¬I a):Rep K G I J v (.dict [(.none,.list ts)])/\∃ns:List Int,ts=ns.map bK:=by
 generalize e:(uu [(lh,uv ts)])=t at h;cases h with
 | @scr a ns x o =>
  have y:ts=ns.map bK:=by simpa[SCR] using e
  subst y;refine⟨?_,ns,rfl⟩;rcases x with x|⟨u,x⟩
  ·exact .scr (.inl (C a _ x o).1) (C a _ x o).2
  ·exact .scr (.inr ⟨u,(C a _ x o).1⟩) (C a _ x o).2
 | @scrS a ns x =>
  have y:ts=ns.map bK:=by simpa[SCR] using e
  subst y;exact⟨.scrS x,ns,rfl⟩
 | hand _=>simp[HAND]at e
 | dct _ _=>cases e
 | dcK _ _ _ y=>cases e;exact(dict_noK y).elim
 | dcT _ _ _ y=>cases e;exact(dict_noT y).elim
 | _=>cases e
theorem Stt.drop{K:qF}{C y:Ctx}{u:En}{σ:St}{H l:Hp}{n G:Nat}(S:Stt K y u σ H n)(Y:Hn C.hd l G)(U:∀a,C.ext a->MutO (l a))(hx:∀a,C.hd=some a->C.ext a)
  (x:∀a o,H a=some o->¬Own y u σ a->l a=some o/\¬C.ext a):Stt K C (JI u) σ l G where
 len:=by rw[znU];exact S.len
 val:=fun i d h=>by
  obtain⟨rfl,J,ts,R⟩:=UT h;cases R;obtain⟨v,L,N⟩:=S.val 0 _ J;exact⟨v,L,(N.scrHd fun a o I no=>⟨(x a o I no).1,fun z=>z.elim (x a o I no).2 zfO⟩).1⟩
 own:=fun i ds h=>by
  obtain⟨_,_,ts,e⟩:=UT h;cases e
 dct:=fun i ds h=>by
  obtain⟨_,_,ts,e⟩:=UT h;cases e
 rdo:=fun i ds h=>by
  obtain⟨_,_,ts,e⟩:=UT h;cases e
 dtt:=fun i ds h=>by
  obtain⟨_,_,ts,e⟩:=UT h;cases e
 dif:=fun i j ds Z a m _ h=>by
  obtain⟨_,_,ts,e⟩:=UT h;subst e;cases m
 hnd:=Y
 ext:=U
 hx:=hx
section
variable{X:Cx}{st:cT}{sts:List cT}{ps:List Str}{f:ak}{fd:cD}{u:DTS}{x s kx hx:Str}{pos pos' p p1 p2 p3:Pos}{k:Nat}
theorem znS{i j:Nat}(D:Bd.Def X.K X.mg hx st ps f fd)(G:FnOk X.prog X.w X.K X.mg X.base CX0 k f fd ps (ZA X.K))(hr:Room k X.A)(hN:X.N.Nodup)(hi:X.N[i]?=some x)(hlx:Loc X.env.scope x)(hu:DSs X sts u)(hij:i≠0:=by decide)(hj0:j≠0:=by decide)(hji:j≠i:=by decide)
  (h0:X.N[0]?=some s:=by rfl) (hj:X.N[j]?=some kx:=by rfl) (hv0:Vis X.env.scope s:=by walk_at "V") (hvj:Vis X.env.scope kx:=by walk_at "V")
  (hd0:(s == ("__debug__":Str))=false:=by rfl) (Ig:(s == ("__classdict__":Str))=false:=by rfl) (hdj:(kx == ("__debug__":Str))=false:=by rfl) (Ih:(kx == ("__classdict__":Str))=false:=by rfl) (hg:Gl X hx:=by rfl) (hdb:(hx == ("__debug__":Str))=false:=by rfl)
  (hs:swapsWith (.Call (.Name hx p) [.Name s p1,.Name kx p2] [] p3) (some (.Name x pos')) pos.line X.env=pure false:=by rfl) (hf:X.fn x=true\/X.env.scope.names.lookup x=some .local:=by walk_at "F") :
  DSs X (.Assign [.Name x pos'] (.Call (.Name hx p) [.Name s p1,.Name kx p2] [] p3) pos::sts) (U1 i j u):=by
 obtain⟨tu,pu,hu⟩:=hu;refine⟨_,Qr (QA hN hi hlx (Bd.zoX D G hr (J1 (QV h0 hv0 hd0 Ig) (J1 (QV hj hvj hdj Ih) Qz rfl) rfl) hg hdb) hs hf) pu,fun C ρ σ H n Dn D' S hd g=>?_⟩
 unfold U1 zqQ at hd;split at hd
 ·rename_i ts e0;unfold intOf at hd;split at hd
  ·rename_i R ej;obtain⟨⟨ns,rfl,hl⟩,k0,k1,hd⟩:=hd;obtain⟨v0,s0,r0⟩:=S.val 0 _ e0;obtain⟨vj,sj,rj⟩:=S.val j _ ej;obtain⟨a0,rfl,sq0⟩:=r0.scrI;rw[rj.intI]at sj;refine⟨_,s0,_,sj,?_⟩;refine⟨a0,ns,R,rfl,sq0,hl,k0,k1,fun h H1 Z hok Y=>?_⟩
   have S1:=S.on (Same.ext Y:ExtE C.hd H H1) (S.hnd.same Y);have nx:¬Own C ρ σ h:=fun z=>S.dom z Z
   have Sd:Stt X.K ⟨some h,fun a=>C.ext a\/a=h⟩ (JI ρ) σ H1 0:=S.drop (fun a ea=>by cases ea;exact hok) (fun a z=>z.elim (fun z=>S1.ext a z) fun z=>by subst z;obtain⟨_,_,_,q,_⟩:=hok;exact .inl ⟨_,q⟩) (fun a ea=>.inr (by cases ea;rfl))
    (fun a o J no=>⟨Y a o J,fun z=>z.elim (fun z=>no (.inl z)) fun z=>by subst z;rw[Z]at J;cases J⟩)
   have Sd2:=(Sd.put (i:=j) (t:=.int R) (v:=.int R) (.int R)).put (i:=i) (t:=HAND) (v:=.ref h) (.hand rfl);have Ii:∀a,¬OwnS (((JI ρ).set j (some (.val (.int R)))).set i (some (.val HAND))) ((σ.set j (some (.int R))).set i (some (.ref h))) a:=fun a z=>zfO (Vr (Vr z))
   have es:(σ.set j (some (V.int R)))=σ:=by
    apply mS
    intro q
    by_cases z:j=q
    ·subst z;have:j<σ.length:=by
      rcases br j σ.length with w|w
      ·exact w
      ·rw[cH w]at sj;cases sj
     rw[zki this,sj]
    ·rw[aM z]
   rw[es]at Sd2 Ii;refine hu _ _ _ H1 0 _ _ Sd2 hd ?_;have back:∀{y σ' I n'},Stt X.K ⟨some h,fun a=>C.ext a\/a=h⟩ y σ' I n'->(∀a o,H1 a=some o->some h≠some a->I a=some o)->Stt X.K C (JI y) σ' I n:=fun {y σ' I n'} S' kp =>
    S'.drop (fun a ea=>by
      obtain⟨d,m,t,q,rest⟩:=S.hnd a ea;exact⟨d,m,t,kp a _ (Y _ _ q) (fun z=>by cases z;rw[Z]at q;cases q),rest⟩)
     (fun a z=>by
      rcases S.ext a z with⟨xs,q⟩|⟨xs,q⟩|⟨b,xs,ep,q⟩
      ·exact .inl ⟨xs,kp a _ (Y _ _ q) (fun z=>by cases z;rw[Z]at q;cases q)⟩
      ·exact .inr (.inl ⟨xs,kp a _ (Y _ _ q) (fun z=>by cases z;rw[Z]at q;cases q)⟩)
      ·exact .inr (.inr ⟨b,xs,ep,kp a _ (Y _ _ q) (fun z=>by cases z;rw[Z]at q;cases q)⟩)) S.hx (fun a o J no=>⟨J,fun z=>no (.inl (.inl z))⟩)
   have U:∀{y σ' I},Keep ⟨some h,fun a=>C.ext a\/a=h⟩ (((JI ρ).set j (some (.val (.int R)))).set i (some (.val HAND))) (σ.set i (some (.ref h))) H1 y σ' I->∀a o,H1 a=some o->some h≠some a->I a=some o:=fun k a o J na=>(k a o J na (Ii a)).1
   have kp2:∀{y σ' I},Keep ⟨some h,fun a=>C.ext a\/a=h⟩ (((JI ρ).set j (some (.val (.int R)))).set i (some (.val HAND))) (σ.set i (some (.ref h))) H1 y σ' I->Keep C ρ σ H (JI y) σ' I:=fun k a o J _ _=>⟨U k a o (Y a o J) (fun z=>by cases z;rw[Z]at J;cases J),zfO⟩
   refine⟨fun y σ' I n' h' S' L=>g.nx _ _ I n h' (back S' (U L)) (kp2 L),fun t n' v I h' hn' L rp=>?_,fun y σ' I n' h' S' L=>g.bk _ _ I n h' (back S' (U L)) (kp2 L),fun y σ' I n' h' S' L=>g.ct _ _ I n h' (back S' (U L)) (kp2 L),fun _ _ _ h=>h.elim⟩
   obtain⟨b,rfl,h'⟩:=h';rw[rp.blI];have kq:∀a o,H a=some o->I a=some o:=fun a o J=>L a o (Y a o J) (fun z=>by cases z;rw[Z]at J;cases J) (Ii a)
   refine g.rt _ n _ I h' (fun a ea=>?_) (fun a o J _ _=>kq a o J) (.bl b)
   obtain⟨d,m,t,q,rest⟩:=S.hnd a ea;exact⟨d,m,t,kq a _ q,rest⟩
  ·exact hd.elim
 ·exact hd.elim
end
def zoD(K:qF):Sp:=fun u H Q _=>∃(a:ak) (ns:List Int),u=[.ref a]/\SqL K H a (ns.map V.int)/\ns.length<=63/\∀v,Q (.bl true) v
def zs8:GD:=fun ts n R=>∃ns:List Int,ts=[SCR ns]/\ns.length<=63/\∀u,R (.bool true) u
theorem zpv{K:qF}(u:List V)(H:Hp)(Q:VK)(E:XK)(h:zoD K u H Q E):spD K 1 zs8 u H Q E:=by
 obtain⟨a,ns,rfl,sq,C,q⟩:=h;refine⟨none,fun _=>False,[SCR ns],0,fun t _=>t=.bool true,.cons ?_ .nil,(fun a e=>by cases e),(fun a z=>z.elim),(fun a e=>by cases e),rfl,⟨ns,rfl,C,fun _=>rfl⟩,fun t I v y x _ _ G=>?_⟩
 ·rcases sq with sq|sq
  ·exact .scr sq (fun z=>z)
  ·exact .scrS fun _=>.inr sq
 ·subst x;rw[G.blI];exact q y
section
variable{env:Env}{es:List aO}{a b:aO}{l1 l2:List aO}{p:Pos}{x:Str}
theorem Jr:starEach (.Name x p::es) env=(false,eval (.Name x p) env)::starEach es env:=rfl
theorem zkc{j}:starEach (.Constant (.int i) j p::es) env=(false,eval (.Constant (.int i) j p) env)::starEach es env:=rfl
theorem Q9{c d}:starEach (.Call a l1 c d::es) env=(false,eval (.Call a l1 c d) env)::starEach es env:=rfl
theorem UJ{o}:starEach (.BinOp a o b p::es) env=(false,eval (.BinOp a o b p) env)::starEach es env:=rfl
theorem ZC:starEach (.Subscript a b p::es) env=(false,eval (.Subscript a b p) env)::starEach es env:=rfl
theorem ZB{o}:starEach (.Compare a o l1 p::es) env=(false,eval (.Compare a o l1 p) env)::starEach es env:=rfl
theorem UP{g s}:starEach (.ListComp a g s p::es) env=(false,eval (.ListComp a g s p) env)::starEach es env:=rfl
end
section
variable{X:Cx}{a b c e:aO}{da db dc:DTE}{pos p:Pos}{r r':R2}{g g':G2}
theorem znR(ho:OpR X (compareOp op) r)(hg:Gp2 X r g)(N:OpR X (compareOp op') r')(hg':Gp2 X r' g')(ha:DL X a da)(Z:DL X b db)(hc:DL X c dc)
  (hm:lastMarks [op,op'] [b,c]=false:=by with_unfolding_all rfl):DT X (.Compare a [op,op'] [b,c] pos) (QY (U6 g g' da db dc)):=by
 obtain⟨ta,pa,ha⟩:=ha;obtain⟨tb,pb,Z⟩:=Z;obtain⟨tc,pc,hc⟩:=hc;refine⟨_,zmS ho N pa pb pc hm,fun C Y σ H n Q R S h hq=>?_⟩
 refine two ha Z S h fun x y n2 v w H2 r2 e S2 q1 q2=>?_
 refine hg C.hd (Own C Y σ) H2 v w x y _ _ (fun p=>S2.dom) q1 q2 r2 fun z u G l I rp=>?_
 have L:=S2.on I.ext (S2.hnd.same I);cases z with
 | bool k =>
  cases rp;refine⟨k,rfl,?_⟩;cases k with
  | false=>exact iteF ⟨false,rfl,hq _ n2 G l (e.trans I.ext) L.hnd⟩
  | true =>
   refine iteT (hc C Y σ G n2 _ _ L l fun z2 n3 w2 H4 r4 U h4 q4=>?_)
   have S4:=L.on U h4;have q2':=U.repT S.hx ((Same.ext I:ExtE C.hd H2 G).repT S.hx q2);refine hg' C.hd (Own C Y σ) H4 w w2 y z2 _ _ (fun p=>S4.dom) q2' q4 r4 fun z u G l J rp=>?_
   cases z with
   | bool k=>cases rp;exact⟨k,rfl,hq _ n3 G l (((e.trans I.ext).trans U).trans J.ext) (S4.hnd.same J)⟩
   | _=>exact l.elim
 | _=>exact l.elim
def zoK(K:qF):V->List V->Hp->VK->Prop:=fun x xs H Q=>∃(l:ak) (bs:List Bool) (k:Bool),x=.ref l/\xs=[.bl k]/\SqL K H l (bs.map V.bl)/\Q (.int (countIn (.bool k) (bs.map cq))) H
theorem zdR:∀{h:aN}{bs:List Bool}{u:List ah},Vals (bs.map V.bl) u->oH h u (bs.map cq) []
 | _,[],_,r=>by cases r;exact .nil
 | _,b::bs,_,r=>by
  cases r with
  | cons v x =>
   cases(show _=dS b from v)
   exact .cons (.bool b) (zdR x)
theorem zk0:MtR X "list.count" (zoK X.K):=by
 intro pins s σ H x xs v N Q I y rs h;obtain⟨l,bs,k,rfl,rfl,L,q⟩:=h;cases y;cases rs with
 | cons J C =>
  cases C;cases(show _=dS k from J)
  obtain⟨u,G,p,_⟩:=I.list L;exact count_list_bools p.isList (zdR (h:=s.heap) G) (by induction bs with|nil=>rfl|cons b bs R=>simp[Shape.has]) ⟨.int _,H,I.tok _,⟨_,rfl⟩,q⟩
def YS(k:Bool)(d:DTE):DTE:=fun v n R=>d v n fun t u=>match t with|.list ts=>∃bs:List Bool,ts=bs.map cq/\R (.int (countIn (.bool k) (bs.map cq))) u|_=>False
theorem znZ{k:Bool}{j}{U p2 y:Pos}(h:DL X a da)(G:attributeBase a "count" X.env (eval a X.env)=eval a X.env:=by rfl) (E8:(p2.endLine == y.line)=true:=by rfl):DE X (.Call (.Attribute a "count" p2) [.Constant (.bool k) j U] [] y) (YS k da):=by
 obtain⟨ta,pa,h⟩:=h;refine⟨_,zo0 gi PySem.F.slot_list_count PySem.F.type_list_count zk0 pa (QH zo2 Uo rfl) G rfl E8 rfl rfl,fun C N σ H n Q R S hd L=>?_⟩
 refine h C N σ H n _ _ S hd fun t Z v I r e1 J Y=>?_
 cases t with
 | list ts =>
  obtain⟨bs,rfl,r⟩:=r;obtain⟨p,vs,rfl,x,h3⟩:=Y.lstI;rw[Vx h3]at x;exact⟨.inl ⟨rfl,_,SqL.of x⟩,p,bs,k,rfl,rfl,.of x,L _ Z _ I r e1 J (.int _)⟩
 | _=>exact r.elim
end
section
variable{C:Int->Int->Prop}{f:Int->Int->Int}{fb:Int->Int->Bool}{i j k:Int}{R:af->Prop}{Rb:Bool->Prop}{xs ys:qD}{s t:Str}{a b:Bool}{u v:af}
theorem l_gI:gI C f (.int i) (.int j) R=(C i j/\R (.int (f i j))):=propext aQ
theorem zpw:gI0 f (.int i) (.int j) R=R (.int (f i j)):=propext aQ
theorem ZM:oAdd (.int i) (.int j) R=R (.int (i+j)):=propext aQ
theorem ZN:oAdd (.str s) (.str t) R=(s.length+t.length<=16777216/\R (.str (s++t))):=propext aQ
theorem ZO:oAdd (.tuple xs) (.tuple ys) R=(xs.length+ys.length<=16777216/\R (.tuple (xs++ys))):=propext aQ
theorem Za:oEq (.int i) (.int j) R=R (.bool (decide (i=j))):=propext aQ
theorem Zc:oEq (.str s) (.str t) R=R (.bool (decide (s=t))):=propext aQ
theorem Zb:oEq (.list xs) (.list ys) R=(Okd (.list xs)/\Okd (.list ys)/\R (.bool (dW (.list xs) (.list ys)))):=propext aQ
theorem Zk:oNe (.int i) (.int j) R=R (.bool (!decide (i=j))):=propext aQ
theorem Zm:oNe (.str s) (.str t) R=R (.bool (!decide (s=t))):=propext aQ
theorem Zl:oNe (.list xs) (.list ys) R=(Okd (.list xs)/\Okd (.list ys)/\R (.bool (!PyData.eqv (.list xs) (.list ys)))):=propext aQ
theorem Zd:oIs u .none R=R (.bool (isNone u)):=by cases u <;> exact propext aQ
theorem Vm:YH u (.tuple xs) R=(Okd u/\(∀t∈xs,Okd t)/\R (.bool (!xs.any fun t=>t.eqv u))):=by cases u <;> exact propext aQ
theorem Zh:oLtA (.int i) (.int j) R=R (.bool (decide (i<j))):=propext aQ
theorem Zf:oLeA (.int i) (.int j) R=R (.bool (decide (i<=j))):=propext aQ
theorem Zg:oLeA (.str s) (.str t) R=R (.bool (!decide (t.cps.toList<s.cps.toList))):=propext aQ
theorem Yz(h:atI xs i=some x):oIx (.list xs) (.int i) R=R x:=by show(match atI xs i with|some t=>R t|none=>False)=_;rw[h]
theorem Ze(h:atI xs i=some x):oIx (.tuple xs) (.int i) R=R x:=by show(match atI xs i with|some t=>R t|none=>False)=_;rw[h]
theorem ZS:oIx (.tuple (u::xs)) (.int 0) R=R u:=Ze (by unfold atI ixN;simp)
theorem ZU:oIx (.tuple (u::v::xs)) (.int 1) R=R v:=Ze (by unfold atI ixN;simp;rw[if_pos (by omega)];rfl)
theorem ZV:oIx (.tuple (u::v::w::xs)) (.int 2) R=R w:=Ze (by unfold atI ixN;simp;rw[if_pos (by omega)];rfl)
theorem ZQ:oIx (.list (u::xs)) (.int 0) R=R u:=Yz (by unfold atI ixN;simp)
theorem ZR:oIx (.list (u::v::xs)) (.int 1) R=R v:=Yz (by unfold atI ixN;simp;rw[if_pos (by omega)];rfl)
theorem ZX:truD (.bool a) Rb=Rb a:=propext aQ
theorem ZY:truD (.list xs) Rb=Rb (!xs.isEmpty):=propext aQ
theorem Y9:bolD (.bool a) Rb=Rb a:=propext aQ
theorem Zj:bMin [.int i,.int j] R=R (.int (if j<i then j else i)):=propext aQ
theorem Zi:bMax [.int i,.int j] R=R (.int (if j > i then j else i)):=propext aQ
theorem ZP:bInt [.bool a] R=R (.int (if a then 1 else 0)):=propext aQ
theorem Vn:YF [.list xs] R=R (.tuple xs):=propext aQ
theorem ZW:Yt [u] R=(Shd u/\R (.str u.shown)):=propext aQ
theorem Ve:JW (.list xs) Rl=Rl xs:=propext aQ
theorem Vl:JW (.tuple xs) Rl=Rl xs:=propext aQ
theorem zsb(y:String)(h:y∈["NoneType","bool","int","str","list","tuple","dict"]):kitB y "int" = some (decide (y = "int")||decide (y = "bool")):=by
 simp only[aw,aK,or_false]at h;rcases h with rfl|rfl|rfl|rfl|rfl|rfl|rfl <;> decide +kernel
theorem zpy(y:String)(h:y∈["NoneType","bool","int","str","list","tuple","dict"]):kitB y "bool" = some (decide (y = "bool")):=by
 simp only[aw,aK,or_false]at h;rcases h with rfl|rfl|rfl|rfl|rfl|rfl|rfl <;> decide +kernel
theorem znv(y:String)(h:y∈["NoneType","bool","int","str","list","tuple","dict"]):kitB y "tuple" = some (decide (y = "tuple")):=by
 simp only[aw,aK,or_false]at h;rcases h with rfl|rfl|rfl|rfl|rfl|rfl|rfl <;> decide +kernel
theorem zsa(y:String)(h:y∈["NoneType","bool","int","str","list","tuple","dict"]):kitB y "str" = some (decide (y = "str")):=by
 simp only[aw,aK,or_false]at h;rcases h with rfl|rfl|rfl|rfl|rfl|rfl|rfl <;> decide +kernel
def Pln(t:af):Prop:=tyN t≠none
def isInt:af->Bool|.int _=>true|.bool _=>true|_=>false
def isBool:af->Bool|.bool _=>true|_=>false
def isTup:af->Bool|.tuple _=>true|_=>false
def isStr:af->Bool|.str _=>true|_=>false
variable{d:DTE}{ρ:En}{n:Nat}{Rn:qN}
theorem Z7(h:tyN u=some y):y∈["NoneType","bool","int","str","list","tuple","dict"]:=by
 unfold tyN at h;split at h <;> cases h <;> simp
def isiD(f:af->Bool)(d:DTE):DTE:=fun ρ n R=>d ρ n fun t x=>Pln t/\R (.bool (f t)) x
end
section
variable{X:Cx}{e:aO}{d:DTE}{p p2 pos:Pos}
theorem Yj(U:∀t y,tyN t=some y->kitB y T=some (f t))(Z:X.mg "isinstance" = none) (u:X.mg y=none) (Y:bootBuiltins y=some (.type T)) (h:DL X e d) (hs:starEach (e::[.Name y p2]) X.env=(false,eval e X.env)::starEach [.Name y p2] X.env) (hg:Gl X "isinstance":=by rfl) (x:Gl X y:=by rfl) (hn:y ≠ "__name__":=by decide) (hd:(y == ("__debug__":Str))=false:=by rfl) :
  DE X (.Call (.Name "isinstance" p) [e,.Name y p2] [] pos) (isiD f d):=by
 obtain⟨ta,pa,h⟩:=h;refine⟨_,Uf zl1 Z Vi (J1 pa (zhD (Bd.zrp u Y x hn hd) Qz) hs) hg,fun C I σ H n Q R S hd hq=>?_⟩
 refine h C I σ H n _ _ S hd fun t n1 v J G e1 L q1=>?_
 cases et:tyN t with
 | none=>exact absurd et G.1
 | some z=>exact⟨v,C.hd,Own C I σ,t,T,z,f t,rfl,q1,et,U t z et,hq _ n1 _ J G.2 e1 L (.bl _)⟩
theorem zs4:∀t y,tyN t=some y->kitB y "int" = some (isInt t):=fun t y e=>by
 rw[zsb y (Z7 e)];unfold tyN at e;split at e <;> cases e <;> rfl
theorem zpP:∀t y,tyN t=some y->kitB y "bool" = some (isBool t):=fun t y e=>by
 rw[zpy y (Z7 e)];unfold tyN at e;split at e <;> cases e <;> rfl
theorem ziY:∀t y,tyN t=some y->kitB y "tuple" = some (isTup t):=fun t y e=>by
 rw[znv y (Z7 e)];unfold tyN at e;split at e <;> cases e <;> rfl
theorem zor:∀t y,tyN t=some y->kitB y "str" = some (isStr t):=fun t y e=>by
 rw[zsa y (Z7 e)];unfold tyN at e;split at e <;> cases e <;> rfl
theorem Ut:Pln (.int i):=by simp[Pln,tyN]
theorem Us:Pln (.bool i):=by simp[Pln,tyN]
theorem UN:Pln (.str i):=by simp[Pln,tyN]
theorem UR:Pln (.tuple i):=by simp[Pln,tyN]
theorem UV:Pln (.list i):=by simp[Pln,tyN]
theorem UW:Pln .none:=by simp[Pln,tyN]
theorem UU:Pln (.dict []):=by simp[Pln,tyN]
end
abbrev blk(i h:Int):af:=.tuple [.int i,.int h]
theorem Y2:Okd (.tuple [.int i,.int h]):=⟨by simp[bp,aZ],by simp[cC,bN]⟩
def IsBk(bits i h:Int):Prop:=0<=h/\h<=bits/\∃k:Int,0<=k/\i=k*2 ^ h.toNat/\k<2 ^ (bits - h).toNat
theorem Vf(k:Nat):(0:Int)<2 ^ k:=Bd.QB k
theorem ziq:(2:Int) ^ (a+b)=2 ^ a*2 ^ b:=g8 2 a b
theorem IsBk.bounds(u:0<=bits)(H:IsBk bits i h):0<=i/\i+2 ^ h.toNat<=2 ^ bits.toNat:=by
 obtain⟨h0,l,k,k0,rfl,k1⟩:=H;have p:=Vf h.toNat;refine⟨Int.mul_nonneg k0 (iq p),?_⟩;have e:bits.toNat=(bits - h).toNat+h.toNat:=by lia
 rw[e,ziq];have:(k+1)*2 ^ h.toNat<=2 ^ (bits - h).toNat*2 ^ h.toNat:=cY (by lia) (iq p)
 rw[eV,dw]at this;exact this
theorem zkz(h:k<=64):(2:Int) ^ k<=18446744073709551616:=by
 have:=Bd.zfo h;simpa using this
theorem IsBk.lt(l:0<=bits)(u:bits<=64)(H:IsBk bits i h):0<=i/\i<18446744073709551616:=by
 obtain⟨a,b⟩:=H.bounds l;have:=zkz (show bits.toNat<=64 by lia)
 have:=Vf h.toNat;lia
theorem cpow(h0:0<=j)(l:j<=1000000):CPow 1 j:=⟨h0,l,by decide⟩
section
variable{t u tb:DTS}{D:JO}{ρ ρ0:En}{n i j m:Nat}{d da db dc d1 d2:DTE}{ds di:DTA}{c c' tt:DTT}{g:G2}{g':G2}{gc:GC}{gd:GD}{tg:DTG}{tgs:DTGs}{R:qN}{Rb:Bool->Nat->Prop}{Rl:List af->Nat->Prop}{Re:En->Prop}{x y:af}{xs ys acc:qD}{f:Int->Int->Int}{fb:af->Bool}{k:Bool}{capt:List Nat}{h:Option Cell}
theorem zj3:(sSeq t u D ρ n)=(t { D with nx:=u D } ρ n):=propext aQ
theorem zj4:(sRet d D ρ n)=(d ρ n fun t l=>D.rt t l):=propext aQ
theorem zj2:(sSet i d D ρ n)=(d ρ n fun t C=>D.nx (ρ.set i (some (.val t))) C):=propext aQ
theorem u_dC:(dC x ρ n R)=(R x n):=propext aQ
theorem zoz:(dOp g da db ρ n R)=(da ρ n fun x l=>db ρ l fun y v=>g x y fun z=>R z v):=propext aQ
theorem zj8:(dNew ds ρ n R)=(ds ρ n fun ts v=>R (.list ts) v):=propext aQ
theorem zj6:(dTup ds ρ n R)=(ds ρ n fun ts v=>R (.tuple ts) v):=propext aQ
theorem zj7:(dNil ρ n Rl)=(Rl [] n):=propext aQ
theorem zhw:(Qa d ds ρ n Rl)=(d ρ n fun t l=>ds ρ l fun ts v=>Rl (t::ts) v):=propext aQ
theorem zoA:(dFn gd ds ρ n R)=(ds ρ n fun ts l=>gd ts l R):=propext aQ
theorem zff:(YR gc ds ρ n R)=(ds ρ n fun ts l=>gc ts fun z=>R z l):=propext aQ
def cVal:Option Cell->(af->Prop)->Prop
 | some (.val d),R=>R d
 | _,_=>False
def cOwn:Option Cell->(List af->Prop)->Prop
 | some (.own d),R=>R d
 | _,_=>False
theorem zld:cVal (some (.val x)) Q=Q x:=propext aQ
theorem zj5:dVar i ρ n R=cVal (ρ.getD i none) fun d=>R d n:=by
 unfold dVar;rw[aY];cases e:ρ[i]? with
 | none=>exact propext aQ
 | some o=>cases o with
  | none=>exact propext aQ
  | some c=>cases c <;> exact propext aQ
theorem Z9:QY d ρ n Rb=(d ρ n fun t l=>bolD t fun b=>Rb b l):=by
 unfold QY;congr 1
 funext t l
 cases t <;> exact propext aQ
def lCat:af->af->(List af->Prop)->Prop
 | .list xs,.list ys,R=>xs.length+ys.length<=16777216/\R (xs++ys)
 | _,_,_=>False
theorem ZD:dCat da db ρ n Rl=(da ρ n fun x l=>db ρ l fun y v=>lCat x y fun zs=>Rl zs v):=by
 unfold dCat;congr 1
 funext x l
 congr 1
 funext y v
 cases x <;> cases y <;> exact propext aQ
def lLst:af->(List af->Prop)->Prop
 | .list xs,R=>R xs
 | _,_=>False
def lTup:af->(List af->Prop)->Prop
 | .tuple xs,R=>R xs
 | _,_=>False
theorem ZE:dItL d ρ n Rl=(d ρ n fun t l=>lLst t fun ts=>Rl ts l):=by
 unfold dItL;congr 1
 funext t l
 cases t <;> exact propext aQ
theorem ZF:dItT d ρ n Rl=(d ρ n fun t l=>lTup t fun ts=>Rl ts l):=by
 unfold dItT;congr 1
 funext t l
 cases t <;> exact propext aQ
def lInt:af->(Int->Prop)->Prop
 | .int i,R=>R i
 | _,_=>False
theorem Z8:YA d ρ n Rl=(d ρ n fun t l=>lInt t fun j=>(-(2 ^ 62)<=j/\j<2 ^ 62)/\Rl (QI 0 j.toNat) l):=by
 unfold YA;congr 1
 funext t l
 cases t <;> exact propext aQ
theorem ZG:dNeg d ρ n R=(d ρ n fun t l=>lInt t fun i=>R (.int (-i)) l):=by
 unfold dNeg;congr 1
 funext t l
 cases t <;> exact propext aQ
theorem Vh:YS k d ρ n R=(d ρ n fun t v=>lLst t fun ts=>∃bs:List Bool,ts=bs.map cq/\R (.int (countIn (.bool k) (bs.map cq))) v):=by
 unfold YS;congr 1
 funext t v
 cases t <;> exact propext aQ
def Yx:List af->(af->af->Prop)->Prop
 | [x,y],R=>R x y
 | _,_=>False
theorem ZH:sPar i j ds D ρ n=(ds ρ n fun ts C=>Yx ts fun t u=>D.nx ((ρ.set i (some (.val t))).set j (some (.val u))) C):=by
 unfold sPar;congr 1
 funext ts C
 rcases ts with _|⟨a,_|⟨b,_|⟨c,r⟩⟩⟩ <;> exact propext aQ
theorem Vg:U6 g g' da db dc ρ n R=(da ρ n fun x C=>db ρ C fun y v=>g x y fun z=>bolD z fun b=>if b=true then dc ρ v fun w G=>g' y w fun z=>R z G else R (.bool false) v):=by
 unfold U6;congr 1
 funext x C
 congr 1
 funext y v
 congr 1
 funext z
 cases z with
 | bool b=>cases b <;> simp[bolD]
 | _=>exact propext aQ
def UD(ρ:En)(i:Nat)(D:JO)(v:DTE)(t:af)(l:Nat)(ts:qD):Prop:=v ρ l fun j C=>lInt j fun j=>(match ixN ts.length j with|some k=>D.nx (ρ.set i (some (.own (ts.set k t)))) C|none=>False)
theorem Zq:sPut i dj d D ρ n=(d ρ n fun t l=>cOwn (ρ.getD i none) fun xs=>UD ρ i D dj t l xs):=by
 unfold sPut;congr 1
 funext t l
 rw[aY];cases e:ρ[i]? with
 | none=>exact propext aQ
 | some o=>cases o with
  | none=>exact propext aQ
  | some c=>cases c with
   | val _=>exact propext aQ
   | dct _=>exact propext aQ
   | dtt _=>exact propext aQ
   | rdo _=>exact propext aQ
   | own xs =>
    show(dj ρ l fun j v=>_)=UD ρ i D dj t l xs
    unfold UD;congr 1
    funext j v
    cases j <;> exact propext aQ
end
section
variable{t u tb:DTS}{D:JO}{ρ ρ0:En}{n i j m:Nat}{d da db dc d1 d2:DTE}{ds di:DTA}{c c' tt:DTT}{g:G2}{g':G2}{gc:GC}{gd:GD}{tg:DTG}{tgs:DTGs}{R:qN}{Rb:Bool->Nat->Prop}{Rl:List af->Nat->Prop}{Re:En->Prop}{x y:af}{xs ys acc:qD}{f:Int->Int->Int}{fb:af->Bool}{k:Bool}{capt:List Nat}
theorem zsE(h:t { D with nx:=u D } ρ n):sSeq t u D ρ n:=h
theorem zpF(h:D.nx ρ n):Zr D ρ n:=h
theorem zsF(h:d ρ n fun t l=>D.rt t l):sRet d D ρ n:=h
theorem zvA(h:c ρ n fun b l=>if b=true then t D ρ l else u D ρ l):sIf c t u D ρ n:=h
theorem zsI(h:d ρ n fun t v=>tg t ρ fun l=>D.nx l v):sAsg d tg D ρ n:=h
theorem zsH(h:di ρ n fun ts l=>forP tg tb D ts ρ l):sFor di tg tb D ρ n:=h
theorem i_dC(h:R x n):dC x ρ n R:=h
theorem zvE(h:da ρ n fun x l=>db ρ l fun y v=>g x y fun z=>R z v):dOp g da db ρ n R:=h
theorem zsV(h:ds ρ n fun ts v=>R (.list ts) v):dNew ds ρ n R:=h
theorem zsP(h:ds ρ n fun ts v=>R (.tuple ts) v):dTup ds ρ n R:=h
theorem zsU(h:Rl [] n):dNil ρ n Rl:=h
theorem zpM(h:d ρ n fun t l=>ds ρ l fun ts v=>Rl (t::ts) v):Qa d ds ρ n Rl:=h
theorem zvF(h:ds ρ n fun ts l=>gd ts l R):dFn gd ds ρ n R:=h
theorem zs0(h:ds ρ n fun ts l=>gd ts l fun t v=>JP t=true/\R t v):dFnL gd ds ρ n R:=h
theorem znI(h:ds ρ n fun ts l=>gc ts fun z=>R z l):YR gc ds ρ n R:=h
theorem zs2(h:c ρ n fun b l=>if b=true then c' ρ l Rb else Rb false l):dAnd c c' ρ n Rb:=h
theorem zvD(h:c ρ n fun b l=>if b=true then Rb true l else c' ρ l Rb):dOr c c' ρ n Rb:=h
theorem zsT(h:c ρ n fun b l=>Rb (!b) l):dNot c ρ n Rb:=h
theorem zpO(h:da ρ n fun t v=>bolD t fun b=>if b=true then db ρ v R else R (.bool false) v):zqd da db ρ n R:=h
theorem zsS(h:da ρ n fun t v=>bolD t fun b=>if b=true then R (.bool true) v else db ρ v R):dOrV da db ρ n R:=h
theorem zpL(h:da ρ n fun t v=>bolD t fun b=>R (.bool (!b)) v):zqb da ρ n R:=h
theorem zsZ(h:c ρ n fun b l=>if b=true then da ρ l R else db ρ l R):dIfE c da db ρ n R:=h
theorem zsQ(h:d ρ n fun t l=>truD t fun b=>Rb b l):dTru d ρ n Rb:=h
theorem zpN(h:di ρ n fun ts l=>JR tg tt d (JC m capt ρ) ts [] l Rl):dComp m capt di tg tt d ρ n Rl:=h
theorem zsO(h:Rb true n):dYes ρ n Rb:=h
theorem zpD(h:tgs xs ρ Re):U3 tgs (.tuple xs) ρ Re:=h
theorem zpE(h:Re ρ):U2 [] ρ Re:=h
theorem znE(h:tg x ρ fun l=>tgs xs l Re):Q5 tg tgs (x::xs) ρ Re:=h
theorem zpH(h:d ρ n fun t l=>bolD t fun b=>Rb b l):QY d ρ n Rb:=Z9.symm▸h
theorem zs1(h:da ρ n fun x l=>db ρ l fun y v=>lCat x y fun zs=>Rl zs v):dCat da db ρ n Rl:=ZD.symm▸h
theorem zsY(h:d ρ n fun t l=>lLst t fun ts=>Rl ts l):dItL d ρ n Rl:=ZE.symm▸h
theorem zsX(h:d ρ n fun t l=>lTup t fun ts=>Rl ts l):dItT d ρ n Rl:=ZF.symm▸h
theorem zpJ(h:d ρ n fun t l=>lInt t fun j=>(-(2 ^ 62)<=j/\j<2 ^ 62)/\Rl (QI 0 j.toNat) l):YA d ρ n Rl:=Z8.symm▸h
theorem zsW(h:d ρ n fun t l=>lInt t fun i=>R (.int (-i)) l):dNeg d ρ n R:=ZG.symm▸h
theorem znG(h:d ρ n fun t v=>lLst t fun ts=>∃bs:List Bool,ts=bs.map cq/\R (.int (countIn (.bool k) (bs.map cq))) v):YS k d ρ n R:=Vh.symm▸h
theorem znH(h:da ρ n fun x C=>db ρ C fun y v=>g x y fun z=>bolD z fun b=>if b=true then dc ρ v fun w G=>g' y w fun z=>R z G else R (.bool false) v):U6 g g' da db dc ρ n R:=Vg.symm▸h
theorem zsG(h:ds ρ n fun ts C=>Yx ts fun t u=>D.nx ((ρ.set i (some (.val t))).set j (some (.val u))) C):sPar i j ds D ρ n:=ZH.symm▸h
def lIsi(fb:af->Bool)(t:af)(R:af->Prop):Prop:=Pln t/\R (.bool (fb t))
theorem zsM(h:d ρ n fun t l=>lIsi fb t fun z=>R z l):isiD fb d ρ n R:=h
theorem zop(e:ρ[i]?=some (some (.val x)))(h:R x n):dVar i ρ n R:=by unfold dVar;rw[e];exact h
theorem zoq(e:ρ[i]?=some (some (.own xs)))(h:R (.list xs) n):dOwn i ρ n R:=by unfold dOwn;rw[e];exact h
theorem ziW(e:ρ[i]?=some (some (.own xs)))(h:d ρ n fun t l=>xs.length<16777216/\D.nx (ρ.set i (some (.own (xs++[t])))) l):Yi i d D ρ n:=by unfold Yi;rw[e];exact h
theorem ziV(e:ρ[i]?=some (some (.own xs)))(h:t D (ρ.set i (some (.val (.list xs)))) n):YY i t D ρ n:=by unfold YY;rw[e];exact h
theorem zvB(e:ρ[i]?=some (some (.own xs)))(h:d ρ n fun t l=>UD ρ i D dj t l xs):sPut i dj d D ρ n:=by
 rw[Zq,aY,e];exact h
theorem zsJ(h:dj ρ n fun j l=>lInt j fun j=>(match ixN xs.length j with|some k=>D.nx (ρ.set i (some (.own (xs.set k x)))) l|none=>False)):UD ρ i D dj x n xs:=h
theorem zvC{A B:Prop}(l:b=true->A)(v:b=false->B):if b=true then A else B:=by cases b with|true=>exact iteT (l rfl)|false=>exact iteF (v rfl)
theorem zsL{p:Prop}[Decidable p]{A B:Prop}(l:p->A)(v:¬p->B):if decide p=true then A else B:=by
 by_cases h:p
 ·rw[decide_eq_true h];exact iteT (l h)
 ·rw[decide_eq_false h];exact iteF (v h)
theorem zsK{A B:Prop}(h:if b=true then B else A):if (!b)=true then A else B:=by
 cases b with|true=>exact iteF h|false=>exact iteT h
end
section
variable{C:Int->Int->Prop}{f:Int->Int->Int}{fb:Int->Int->Bool}{i j k:Int}{R:af->Prop}{Rb:Bool->Prop}{xs ys:qD}{s t:Str}{a b:Bool}{u v x y:af}{Rn:qN}{n:Nat}
theorem zsx(h:R (.int (i+j))):oAdd (.int i) (.int j) R:=ZM.symm▸h
theorem zsw(h:(s.length+t.length<=16777216/\R (.str (s++t)))):oAdd (.str s) (.str t) R:=ZN.symm▸h
theorem zsv(h:(xs.length+ys.length<=16777216/\R (.tuple (xs++ys)))):oAdd (.tuple xs) (.tuple ys) R:=ZO.symm▸h
theorem zvw(h:R (.bool (decide (i=j)))):oEq (.int i) (.int j) R:=Za.symm▸h
theorem zvu(h:R (.bool (decide (s=t)))):oEq (.str s) (.str t) R:=Zc.symm▸h
theorem zvv(h:(Okd (.list xs)/\Okd (.list ys)/\R (.bool (dW (.list xs) (.list ys))))):oEq (.list xs) (.list ys) R:=Zb.symm▸h
theorem zvj(h:R (.bool (!decide (i=j)))):oNe (.int i) (.int j) R:=Zk.symm▸h
theorem zvh(h:R (.bool (!decide (s=t)))):oNe (.str s) (.str t) R:=Zm.symm▸h
theorem zvi(h:(Okd (.list xs)/\Okd (.list ys)/\R (.bool (!PyData.eqv (.list xs) (.list ys))))):oNe (.list xs) (.list ys) R:=Zl.symm▸h
theorem zvs(h:R (.bool (isNone u))):oIs u .none R:=Zd.symm▸h
theorem znx(h:(Okd u/\(∀t∈xs,Okd t)/\R (.bool (!xs.any fun t=>t.eqv u)))):YH u (.tuple xs) R:=Vm.symm▸h
theorem zvo(h:R (.bool (decide (i<j)))):oLtA (.int i) (.int j) R:=Zh.symm▸h
theorem zvr(h:R (.bool (decide (i<=j)))):oLeA (.int i) (.int j) R:=Zf.symm▸h
theorem zvq(h:R (.bool (!decide (t.cps.toList<s.cps.toList)))):oLeA (.str s) (.str t) R:=Zg.symm▸h
theorem zsq(h:R u):oIx (.tuple (u::xs)) (.int 0) R:=ZS.symm▸h
theorem zsp(h:R v):oIx (.tuple (u::v::xs)) (.int 1) R:=ZU.symm▸h
theorem zso(h:R w):oIx (.tuple (u::v::w::xs)) (.int 2) R:=ZV.symm▸h
theorem ZL(h:R u):oIx (.list (u::xs)) (.int 0) R:=ZQ.symm▸h
theorem zom(h:R v):oIx (.list (u::v::xs)) (.int 1) R:=ZR.symm▸h
theorem zse(h:Rb a):truD (.bool a) Rb:=ZX.symm▸h
theorem zsd(h:Rb (!xs.isEmpty)):truD (.list xs) Rb:=ZY.symm▸h
theorem zvy(h:Rb a):bolD (.bool a) Rb:=Y9.symm▸h
theorem zsn(h:R (.int xs.length)):bLen [.list xs] R:=.inl ⟨xs,rfl,h⟩
theorem zsl(h:R (.int xs.length)):bLen [.tuple xs] R:=.inr (.inl ⟨xs,rfl,h⟩)
theorem zsm(h:(s.length<=16777216/\R (.int s.length))):bLen [.str s] R:=.inr (.inr (.inl ⟨s,rfl,h⟩))
theorem zny(h:R (.int ns.length)):bLen [SCR ns] R:=.inr (.inr (.inr ⟨_,rfl,by rw[aL];exact h⟩))
theorem zvm(h:R (.int (if j<i then j else i))):bMin [.int i,.int j] R:=Zj.symm▸h
theorem zvn(h:R (.int (if j > i then j else i))):bMax [.int i,.int j] R:=Zi.symm▸h
theorem zst(h:R (.int (if a then 1 else 0))):bInt [.bool a] R:=ZP.symm▸h
theorem znw(h:R (.tuple xs)):YF [.list xs] R:=Vn.symm▸h
theorem zsg(h:(Shd u/\R (.str u.shown))):Yt [u] R:=ZW.symm▸h
theorem zpA(h:Rl xs):JW (.list xs) Rl:=Ve.symm▸h
theorem znB(h:Rl xs):JW (.tuple xs) Rl:=Vl.symm▸h
theorem zvx(h:(xs.length+ys.length<=16777216/\Q (xs++ys))):lCat (.list xs) (.list ys) Q:=h
theorem zvp(h:Q xs):lLst (.list xs) Q:=h
theorem zvd(h:Q xs):lTup (.tuple xs) Q:=h
theorem zvt(h:Q i):lInt (.int i) Q:=h
theorem zsh(h:Q x y):Yx [x,y] Q:=h
theorem zvk(c:CMul i j)(h:R (.int (i*j))):oMul (.int i) (.int j) R:=⟨c,h⟩
theorem zvl(c:0<j)(h:R (.int (i % j))):oMod (.int i) (.int j) R:=⟨c,h⟩
theorem zsu(c:Yq i j)(h:R (.int (i / j))):U5 (.int i) (.int j) R:=⟨c,h⟩
theorem zvg(c:CPow i j)(h:R (.int (i*2 ^ j.toNat))):oShl (.int i) (.int j) R:=⟨c,h⟩
theorem zve(h:R (.int (i - j))):oSub (.int i) (.int j) R:=h
theorem zvc(h:R (.int (eQ i j))):oXor (.int i) (.int j) R:=h
theorem zvz(h:R (.int (fB i j))):oAnd (.int i) (.int j) R:=h
theorem j_gB(h:R (.bool (fb i j))):gB fb (.int i) (.int j) R:=h
theorem zhV(h:R (.bool true)):lIsi isInt (.int i) R:=⟨Ut,h⟩
theorem zgS(h:R (.bool true)):lIsi isInt (.bool a) R:=⟨Us,h⟩
theorem zhU(h:R (.bool false)):lIsi isInt (.str s) R:=⟨UN,h⟩
theorem zfF(h:R (.bool false)):lIsi isInt (.tuple xs) R:=⟨UR,h⟩
theorem zgQ(h:R (.bool false)):lIsi isInt (.list xs) R:=⟨UV,h⟩
theorem zgP(h:R (.bool false)):lIsi isInt (.none) R:=⟨UW,h⟩
theorem zgR(h:R (.bool false)):lIsi isInt (.dict []) R:=⟨UU,h⟩
theorem zgT(h:R (.bool false)):lIsi isBool (.int i) R:=⟨Ut,h⟩
theorem zfG(h:R (.bool true)):lIsi isBool (.bool a) R:=⟨Us,h⟩
theorem zhR(h:R (.bool false)):lIsi isTup (.int i) R:=⟨Ut,h⟩
theorem zgK(h:R (.bool false)):lIsi isTup (.bool a) R:=⟨Us,h⟩
theorem zhQ(h:R (.bool false)):lIsi isTup (.str s) R:=⟨UN,h⟩
theorem zfD(h:R (.bool true)):lIsi isTup (.tuple xs) R:=⟨UR,h⟩
theorem zgI(h:R (.bool false)):lIsi isTup (.list xs) R:=⟨UV,h⟩
theorem zgH(h:R (.bool false)):lIsi isTup (.none) R:=⟨UW,h⟩
theorem zgJ(h:R (.bool false)):lIsi isTup (.dict []) R:=⟨UU,h⟩
theorem zhT(h:R (.bool false)):lIsi isStr (.int i) R:=⟨Ut,h⟩
theorem zgO(h:R (.bool false)):lIsi isStr (.bool a) R:=⟨Us,h⟩
theorem zhS(h:R (.bool true)):lIsi isStr (.str s) R:=⟨UN,h⟩
theorem zfE(h:R (.bool false)):lIsi isStr (.tuple xs) R:=⟨UR,h⟩
theorem zgM(h:R (.bool false)):lIsi isStr (.list xs) R:=⟨UV,h⟩
theorem zgL(h:R (.bool false)):lIsi isStr (.none) R:=⟨UW,h⟩
theorem zgN(h:R (.bool false)):lIsi isStr (.dict []) R:=⟨UU,h⟩
end
theorem zoR{h:Int}(h0:0<h):(2:Int) ^ h.toNat=2*2 ^ (h - 1).toNat:=by
 have e:h.toNat=(h - 1).toNat+1:=by lia
 rw[e,bV,dg]
theorem zri{h:Int}(h0:0<=h):(2:Int) ^ (h+1).toNat=2*2 ^ h.toNat:=by
 have:=zoR (h:=h+1) (by lia)
 rw[this];simp
theorem IsBk.low{bits i h:Int}(B:IsBk bits i h)(l:0<h):IsBk bits i (h - 1):=by
 obtain⟨h0,u,k,k0,rfl,k1⟩:=B;refine⟨by lia,by lia,2*k,by lia,?_,?_⟩
 ·rw[zoR l,<- eM,dg k 2]
 ·have e:(bits - (h - 1)).toNat=(bits - h).toNat+1:=by lia
  rw[e,bV];lia
theorem IsBk.up{bits i h:Int}(B:IsBk bits i h)(l:0<h):IsBk bits (i+2 ^ h.toNat / 2) (h - 1):=by
 obtain⟨h0,u,k,k0,rfl,k1⟩:=B;refine⟨by lia,by lia,2*k+1,by lia,?_,?_⟩
 ·rw[zoR l];have:2*(2:Int) ^ (h - 1).toNat / 2=2 ^ (h - 1).toNat:=by lia
  rw[this,eV,dw,<- eM,dg k 2]
 ·have e:(bits - (h - 1)).toNat=(bits - h).toNat+1:=by lia
  rw[e,bV];lia
theorem zm8(P:Int)(l:0<P):k*P % (2*P)=(k % 2)*P:=by
 rw[dg 2 P,dg k P,Int.mul_emod_mul_of_pos _ _ l,dg]
theorem IsBk.abt{bits i h:Int}(B:IsBk bits i h)(u:h<bits):IsBk bits (i - i % (2*2 ^ h.toNat)) (h+1):=by
 obtain⟨h0,l,k,k0,rfl,k1⟩:=B;refine⟨by lia,by lia,k / 2,by lia,?_,?_⟩
 ·rw[zm8 _ (Vf _),zri h0,<- uw];have:k - k % 2=k / 2*2:=by lia
  rw[this,eM]
 ·have e:(bits - h).toNat=(bits - (h+1)).toNat+1:=by lia
  rw[e,bV]at k1;lia
theorem IsBk.oth(B:IsBk bits i h)(u:h<bits):IsBk bits (eQ i (2 ^ h.toNat)) h:=by
 obtain⟨h0,l,k,k0,rfl,k1⟩:=B;rw[zmw _ k0];have e:(bits - h).toNat=(bits - (h+1)).toNat+1:=by lia
 split
 ·refine⟨h0,l,k+1,by lia,by rw[eV,dw],?_⟩
  rw[e,bV]at k1 ⊢;lia
 ·refine⟨h0,l,k - 1,by lia,by rw[uw,dw],by lia⟩
theorem IsBk.nxt(B:IsBk bits i h)(l:i+2*2 ^ h.toNat<=2 ^ bits.toNat):IsBk bits (i+2 ^ h.toNat) h:=by
 obtain⟨h0,u,k,k0,rfl,k1⟩:=B;refine⟨h0,u,k+1,by lia,by rw[eV,dw],?_⟩
 have e:bits.toNat=(bits - h).toNat+h.toNat:=by lia
 rw[e,ziq]at l;have p:=Vf h.toNat;have:(k+2)*2 ^ h.toNat<=2 ^ (bits - h).toNat*2 ^ h.toNat:=by rw[eV];exact l
 have:=Int.le_of_mul_le_mul_right this p;lia
theorem zvN:CMul 2 j:=.inl ⟨by decide,by decide⟩
theorem zvO:Yq j 2:=⟨by decide,by decide⟩
theorem JX(h:Nat):(1:Int)*2 ^ h=2 ^ h:=dw _
def BlkN(bits i:Int)(h:Nat):Prop:=(h:Int)<=bits/\∃k:Int,0<=k/\i=k*2 ^ h/\k<2 ^ (bits.toNat - h)
theorem IsBk.n(B:IsBk bits i h):BlkN bits i h.toNat:=by
 obtain⟨h0,l,k,k0,e,k1⟩:=B;refine⟨by lia,k,k0,e,?_⟩
 have:(bits - h).toNat=bits.toNat - h.toNat:=by lia
 rw[<- this];exact k1
theorem zl_(b:BlkN bits j g)(l:g<=h):j / 2 ^ h*2 ^ h<=j/\j+2 ^ g<=(j / 2 ^ h+1)*2 ^ h:=by
 obtain⟨_,m,m0,rfl,_⟩:=b;have C:=Bd.QB h;have y:=Bd.QB g;have v:=Bd.QB (h - g);have u:(2:Int) ^ h=2 ^ (h - g)*2 ^ g:=by rw[<- g8];congr 1;lia
 refine⟨Int.ediv_mul_le _ (by lia),?_⟩
 have eq:(m*2 ^ g) / 2 ^ h=m / 2 ^ (h - g):=by rw[u];exact Int.mul_ediv_mul_of_pos_left m _ y
 rw[eq,u,<- eM];have x:m*2 ^ g+2 ^ g=(m+1)*2 ^ g:=by rw[eV,dw]
 rw[x];refine cY ?_ (by lia)
 have:=Int.lt_ediv_add_one_mul_self m v;lia
theorem ziB{a b A:Int}(p:0<A)(l:a<b):(a+1)*A<=b*A:=cY (by lia) (by lia)
theorem zlq(v:BlkN bits i h)(y:BlkN bits j g):(g<=h/\j / 2 ^ h*2 ^ h=i)↔(i<=j/\j+2 ^ g<=i+2 ^ h):=by
 have u:=Bd.QB h;have C:=Bd.QB g;constructor
 ·rintro⟨l,e⟩;have t:=zl_ y l;rw[e,eV,dw,e]at t;exact t
 ·rintro⟨x,l2⟩;have l:g<=h:=by
   by_cases z:g<=h
   ·exact z
   ·exfalso;have:(2:Int) ^ h<2 ^ g:=by
     have e:(2:Int) ^ g=2 ^ (g - h)*2 ^ h:=by rw[<- g8];congr 1;lia
     have p2:(2:Int)<=2 ^ (g - h):=by
      obtain⟨d,hd⟩:∃d,g - h=d+1:=⟨g - h - 1,by lia⟩
      rw[hd,bV];have:=Bd.QB d;lia
     rw[e];have:=cY p2 (show(0:Int)<=2 ^ h by lia)
     lia
    lia
  refine⟨l,?_⟩;obtain⟨_,k,k0,rfl,_⟩:=v;have e:j / 2 ^ h=k:=by
   have a1:k<=j / 2 ^ h:=(Int.le_ediv_iff_mul_le u).mpr x;have a2:j / 2 ^ h<k+1:=(Int.ediv_lt_iff_lt_mul u).mpr (by rw[eV,dw];lia)
   lia
  rw[e]
theorem zhm{bits i j:Int}{h g:Nat}(v:BlkN bits i h)(x:BlkN bits j g)(l:g<=h):(g<=h/\j / 2 ^ h*2 ^ h=i)\/j+2 ^ g<=i\/i+2 ^ h<=j:=by
 have u:=Bd.QB h;have t:=zl_ x l;obtain⟨_,k,k0,rfl,_⟩:=v;rcases fw (j / 2 ^ h) k with z|z|z
 ·have:=ziB u z;exact .inr (.inl (by lia))
 ·exact .inl ⟨l,by rw[z]⟩
 ·have:=ziB u z;rw[eV,dw]at this;exact .inr (.inr (by lia))
theorem zlA(Inv:Nat->En->Nat->Prop):∀(ts:qD) (i:Nat) {v:En}{n:Nat},Inv i v n ->
  (∀(k:Nat) (t:af) (v:En) (n:Nat) (K:En->Nat->Prop),ts[k]?=some t->Inv (i+k) v n->(∀x y,Inv (i+k+1) x y->K x y)->g t v fun x=>tb { D with nx:=K,ct:=K,bk:=D.nx } x n) ->
  (∀v n,Inv (i+ts.length) v n->D.nx v n)->forP g tb D ts v n
 | [],i,v,n,h0,_,fin=>fin v n (by simpa using h0)
 | t::ts,i,v,n,h0,turn,fin=>by
  refine turn 0 t v n _ rfl (by simpa using h0) fun x y h'=>?_
  refine zlA Inv ts (i+1) (by simpa using h') (fun k u v n K e C G=>?_) (fun v n h=>fin v n ?_)
  ·refine turn (k+1) u v n K (by simpa using e) ?_ fun x y h'=>G x y ?_
   ·have:i+(k+1)=i+1+k:=by lia
    rw[this];exact C
   ·have:i+1+k+1=i+(k+1)+1:=by lia
    rw[this];exact h'
  ·have:i+(t::ts).length=i+1+ts.length:=by simp;lia
   rw[this]at *;exact h
theorem Ye(Inv:Nat->En->Nat->Prop)(h0:Inv 0 u n)
  (turn:∀(k:Nat) (t:af) (u:En) (n:Nat) (K:En->Nat->Prop),ts[k]?=some t->Inv k u n->(∀l v,Inv (k+1) l v->K l v)->g t u fun l=>tb { D with nx:=K,ct:=K,bk:=D.nx } l n)
  (fin:∀u n,Inv ts.length u n->D.nx u n):forP g tb D ts u n:=by
 refine zlA Inv ts 0 h0 (fun k t u n K e x y=>turn k t u n K e (by simpa using x) fun l v h'=>y l v (by simpa using h')) fun u n h=>fin u n (by simpa using h)
theorem zeT{lo:Int}{m i:Nat}{t:af}(h:(QI lo m)[i]?=some t):i<m/\t=.int (lo+(i:Int)):=by
 unfold QI at h;rw[aU]at h
 by_cases hi:i<m
 ·rw[lN hi]at h;cases h;exact⟨hi,rfl⟩
 ·rw[cH (by simp;lia)]at h
  cases h
theorem zj1(Inv:Nat->En->Nat->Prop)(h0:Inv m u n)
  (turn:∀m u n,Inv m u n->c u n fun b y=>if b=true then tb { D with nx:=fun l x=>∃v,v<m/\Inv v l x,ct:=fun l x=>∃v,v<m/\Inv v l x,bk:=D.nx } u y else D.nx u y):zko c tb D u n :=
 ⟨Inv,⟨m,h0⟩,turn⟩
structure Sm(w k:Nat)(d:af):Prop where
 ls:d.leavesShort 41=true
 sh:d.showable=true
 cl:d.canLay0=true
 dp:d.depth<=k
 wt:d.weight<=w
theorem Sm.shd(h:Sm w k d)(hw:w<=380000)(l:k<=60):Shd d:=by
 refine⟨h.sh,bS _ h.cl,bG h.dp l,?_⟩;have:=PyData.shown_le 41 (by decide) d h.ls
 have:=h.wt;lia
theorem Sm.mono(h:Sm w k d)(hw:w<=w')(l:k<=k'):Sm w' k' d:=⟨h.ls,h.sh,h.cl,bG h.dp l,bG h.wt hw⟩
theorem zkf(h:i.natAbs<10 ^ 40):Sm 140 0 (.int i):=by
 have v:i.natAbs<2 ^ 139:=aB h (by decide)
 have u:i.natAbs≠0->i.natAbs.log2<139:=fun z=>(um z).mpr v
 refine⟨?_,?_,by simp[bp],by simp[cC],?_⟩
 ·have e:=int_text_length_le10 (k:=40) (by decide) h
  have x:(gy (.int i)).length<=41:=by
   show(ae (toString i)).length<=41
   rw[PySem.ofString_length];exact e
  simp only[fY];exact decide_eq_true x
 ·simp only[hW,decide_eq_true_eq]
  by_cases z:i.natAbs=0
  ·rw[z];decide
  ·have:=u z;lia
 ·simp only[lT];split
  ·lia
  ·rename_i z;have:i.natAbs≠0:=fun y=>z (by simp;lia)
   have:=u this;lia
theorem zoc:∀{xs:qD},(∀x∈xs,Sm w k x)->fo 41 xs=true/\fZ xs=true/\aZ xs=true/\bN xs<=k/\gQ xs<=(w+1)*xs.length
 | [],_=>⟨by simp[fo],by simp[fZ],by simp[aZ],by simp[bN],by simp[gQ]⟩
 | x::xs,h=>by
  obtain⟨a,b,c,d,e⟩:=zoc (xs:=xs) fun y l=>h y (by simp[l])
  have hx:=h x (by simp)
  refine⟨by simp[fo,hx.ls,a],by simp[fZ,hx.sh,b],by simp[aZ,hx.cl,c],?_,?_⟩
  ·simp only[bN];have:=hx.dp;lia
  ·simp only[gQ,aR,Nat.mul_add];have:=hx.wt;lia
theorem zfj(h:∀x∈xs,Sm w k x):Sm ((w+1)*xs.length) (k+1) (.tuple xs):=by
 obtain⟨a,b,c,d,e⟩:=zoc h;exact⟨by simpa[fY] using a,by simpa[hW] using b,by simpa[bp] using c,by simp only[cC];lia,by simpa[lT] using e⟩
theorem zke(a:i.natAbs<10 ^ 40)(b:h.natAbs<10 ^ 40):Sm 282 1 (.tuple [.int i,.int h]):=by
 have:=zfj (w:=140) (k:=0) (xs:=[.int i,.int h]) (by intro x hx;simp at hx;rcases hx with rfl|rfl;exact zkf a;exact zkf b)
 exact this.mono (by simp) (by decide)
theorem zqL(a:Sm w k p)(b:Sm w k q):Sm ((w+1)*2) (k+1) (.tuple [p,q]) :=
 zfj (xs:=[p,q]) (by intro x hx;simp at hx;rcases hx with rfl|rfl;exact a;exact b)
theorem zim(y:-36893488147419103232<i)(a1:i<36893488147419103232)(v:-1000<=h)(x:h<=1000):Shd (.tuple [.int i,.int h]):=by
 have e:(36893488147419103232:Nat)<10 ^ 40:=by decide
 exact(zke (i:=i) (h:=h) (by lia) (by lia)).shd (by decide) (by decide)
theorem zpG(y:ρ[0]?=some (some (.val (SCR ns))))(G:ρ[j]?=some (some (.val (.int k))))(C:ns.length<=63)(k0:0<=k)(k1:k<=100)(I:JI ρ=ρd)
  (h:u { nx:=fun x _=>D.nx (JI x) n,rt:=fun t _=>∃b,t=.bool b/\D.rt t n,bk:=fun x _=>D.bk (JI x) n,ct:=fun x _=>D.ct (JI x) n } ((ρd.set j (some (.val (.int k)))).set i (some (.val HAND))) 0):U1 i j u D ρ n:=by
 subst I;unfold U1;rw[y,G];exact⟨⟨ns,rfl,C⟩,k0,k1,h⟩
def rkAt(rk:ah->Int)(xs:Array lU)(i:Nat):Int:=((xs[i]?).map fun p=>rk p.1).getD 0
theorem YX(h:xs[i]?=ys[j]?):rkAt rk xs i=rkAt rk ys j:=by unfold rkAt;rw[h]
theorem zof(x:u<xs.size)(hd:d<=u)(k:Nat) :
  (k=u - d->rkAt rk (bubble xs u d) k=rkAt rk xs u)/\(u - d<k->k<=u->rkAt rk (bubble xs u d) k=rkAt rk xs (k - 1))/\(k<u - d\/u<k->rkAt rk (bubble xs u d) k=rkAt rk xs k):=by
 have e:=getElem?_bubble x d hd k;refine⟨fun h=>?_,fun l v=>?_,fun h=>?_⟩
 ·rw[if_pos h]at e;exact YX e
 ·rw[if_neg (by lia),if_pos ⟨l,v⟩]at e;exact YX e
 ·rw[if_neg (by lia),if_neg (by lia)]at e;exact YX e
theorem zkq(v:j<=xs.size)(k:Nat) :
  (i<=k->k<j->rkAt rk (mirror xs i j ((j - i) / 2)) k=rkAt rk xs (i+j - 1 - k))/\(k<i\/j<=k->rkAt rk (mirror xs i j ((j - i) / 2)) k=rkAt rk xs k):=by
 have e:=getElem?_mirror_all (i:=i) v k;refine⟨fun l u=>?_,fun h=>?_⟩
 ·rw[if_pos ⟨l,u⟩]at e;exact YX e
 ·rw[if_neg (by lia)]at e;exact YX e
structure Sb(kd:iK)(a0:Array lU)(z:lz):Prop where
 pm:(arrOf z).Perm a0
 kn:kindOf z=kd
 fl:failedOf z=none
 pe:pendingOf z=#[]
def Up(rk:ah->Int)(xs:Array lU)(m:Nat):Prop:=∀i j,i<j->j<m->rkAt rk xs i<=rkAt rk xs j
def Dn(rk:ah->Int)(xs:Array lU)(m:Nat):Prop:=∀i j,i<j->j<m->rkAt rk xs j<=rkAt rk xs i
section
variable{prog:aG}{w:aP}{A:bo}{E:qV}{s:au}{kd:iK}{rk:ah->Int}{a0:Array lU}
def Cmp(prog:aG)(w:aP)(A:bo)(s:au)(kd:iK)(rk:ah->Int)(a0:Array lU):Prop :=
 ∀(p q:lU) (E:qV) (Q:Bool->au->Prop),p∈a0.toList->q∈a0.toList->Q (decide (rk p.1<rk q.1)) s->wpAny (model prog w) A (keyLt' kd p.1 q.1) Q E s
theorem Sb.sz(b:Sb kd a0 z):(arrOf z).size=a0.size:=b.pm.size_eq
theorem Sb.arr(b:Sb kd a0 z)(h:xs.Perm (arrOf z)):Sb kd a0 (setArr z xs):=⟨h.trans b.pm,b.kn,b.fl,b.pe⟩
theorem ask(c:Cmp prog w A s kd rk a0)(b:Sb kd a0 z)(hi:i<a0.size)(J:j<a0.size)
  (h:Q (some (decide (rkAt rk (arrOf z) i<rkAt rk (arrOf z) j))) z):wpS (model prog w) A E s (ltAt' i j) Q z:=by
 have mem:∀k,k<a0.size->∃p,(arrOf z)[k]?=some p/\p∈a0.toList:=fun k C=>by
  have l:k<(arrOf z).size:=by rw[b.sz];exact C
  exact⟨(arrOf z)[k],fP l,(fD.mp b.pm).mem_iff.mp (by simp)⟩
 obtain⟨p,u,mp⟩:=mem i hi;obtain⟨q,eq,G⟩:=mem j J;have I:rkAt rk (arrOf z) i=rk p.1:=by unfold rkAt;rw[u];rfl
 have v:rkAt rk (arrOf z) j=rk q.1:=by unfold rkAt;rw[eq];rfl
 rw[I,v]at h;rw[ltAt'_eq];refine bQ (mT ?_);show wpS (model prog w) A E s (elem' (arrOf z) i >>= fun x=>elem' (arrOf z) j >>= fun y=>lt' x y) Q z
 simp only[elem'_eq,u,eq,pure_bind];rw[lt'_eq];refine bQ (mT (bQ (uA (gW ?_))));rw[b.kn];exact c p q _ _ mp G ⟨rfl,cR h⟩
theorem ztx(c:Cmp prog w A s kd rk a0)(hn:n<=a0.size)(hok:ok<=n)(b:Sb kd a0 z)(up:Up rk (arrOf z) ok)
  (h:∀y,Sb kd a0 y->Up rk (arrOf y) n->Q true y):wpS (model prog w) A E s (binarySort' 0 n ok) Q z:=by
 rw[binarySort'_eq];simp only[gA];refine bQ (oK (gC (Q:=fun c y=>c=(none,())/\Sb kd a0 y/\Up rk (arrOf y) n) (I:=fun k c y=>c=(none,())/\Sb kd a0 y/\Up rk (arrOf y) (min k n)) ?turn ?last ⟨rfl,b,fun i j S h2=>up i j S (by lia)⟩) ?post)
 case post =>
  rintro _ y ⟨rfl,C,u⟩
  exact cR (h y C u)
 case last =>
  rintro _ y ⟨rfl,C,u⟩
  exact⟨rfl,C,by rwa [show min (max (max ok 1) n) n=n by lia]at u⟩
 case turn =>
  rintro k _ y k1 k2 ⟨rfl,C,u⟩
  rw[show min k n=k by lia]at u
  refine bQ (oK (gC (Q:=fun c U=>U=y/\∃l r,c=(none,l,r)/\l<=k/\(∀i,i<l->rkAt rk (arrOf y) i<=rkAt rk (arrOf y) k)/\∀i,l<=i->i<k->rkAt rk (arrOf y) k<rkAt rk (arrOf y) i)
   (I:=fun x c U=>U=y/\∃l r,c=(none,l,r)/\l<=r/\r<=k/\r - l+x<=k/\(∀i,i<l->rkAt rk (arrOf y) i<=rkAt rk (arrOf y) k)/\∀i,r<=i->i<k->rkAt rk (arrOf y) k<rkAt rk (arrOf y) i) ?t2 ?l2 ⟨rfl,0,k,rfl,by lia,by lia,by lia,fun i hi=>by lia,fun i N L=>by lia⟩) ?p2)
  case l2 =>
   rintro _ v ⟨e,l,r,rfl,q1,q2,q3,J,G⟩;subst e;exact⟨rfl,l,r,rfl,by lia,J,fun i N L=>G i (by lia) L⟩
  case t2 =>
   rintro x _ v _ _ ⟨e,l,r,rfl,q1,q2,q3,J,G⟩;subst e
   by_cases ge:r<=l
   ·simp only[ge_iff_le,ge,if_true];exact cR ⟨rfl,l,r,rfl,by lia,J,fun i N L=>G i (by lia) L⟩
   ·simp only[ge_iff_le,ge,if_false];refine bQ (ask c C (by lia) (by lia) ?_)
    by_cases le:rkAt rk (arrOf v) k<rkAt rk (arrOf v) ((l+r) / 2)
    ·simp only[le,decide_true,if_true];refine cR ⟨rfl,l,(l+r) / 2,rfl,by lia,by lia,by lia,J,fun i N L=>?_⟩
     rcases br ((l+r) / 2) i with g|g
     ·have:=u _ _ g L;lia
     ·have:i=(l+r) / 2:=by lia
      rw[this];exact le
    ·simp only[le,decide_false,aH,if_false];refine cR ⟨rfl,(l+r) / 2+1,r,rfl,by lia,by lia,by lia,fun i N=>?_,G⟩
     rcases br i ((l+r) / 2) with g|g
     ·have:=u _ _ g (by lia);lia
     ·have:i=(l+r) / 2:=by lia
      rw[this];lia
  case p2 =>
   rintro _ v ⟨e,l,r,rfl,q2,J,G⟩;subst e;show wpS (model prog w) A E s (moveDown' k l >>= fun _=>pure (bX (none,()))) _ v
   rw[moveDown'_eq];have hk:k<(arrOf v).size:=by rw[C.sz];lia
   refine bQ (oM (cR ⟨rfl,C.arr (bubble_perm _ _ _),fun i j S h2=>?_⟩))
   show rkAt rk (bubble (arrOf v) k (k - l)) i<=rkAt rk (bubble (arrOf v) k (k - l)) j
   have hj:j<=k:=by lia
   obtain⟨a1,a2,R⟩:=zof (rk:=rk) hk (show k - l<=k by lia) i
   obtain⟨Z,b2,Y⟩:=zof (rk:=rk) hk (show k - l<=k by lia) j
   have el:k - (k - l)=l:=by lia
   rw[el]at a1 a2 R Z b2 Y;rcases eG j l with jl|jl|jl
   ·rw[R (by lia),Y (by lia)];exact u i j S (by lia)
   ·rw[R (by lia),Z jl];exact J i (by lia)
   ·rw[b2 jl hj];rcases eG i l with il|il|il
    ·rw[R (by lia)]
     rcases br i (j - 1) with g|g
     ·exact u i (j - 1) g (by lia)
     ·exact absurd g (by lia)
    ·rw[a1 il];exact iq (G (j - 1) (by lia) (by lia))
    ·rw[a2 il (by lia)]
     rcases br (i - 1) (j - 1) with g|g
     ·exact u _ _ g (by lia)
     ·exact absurd g (by lia)
end
section
variable{prog:aG}{w:aP}{A:bo}{E:qV}{s:au}{kd:iK}{rk:ah->Int}{a0:Array lU}
theorem zow(c:Cmp prog w A s kd rk a0)(N:m<=a0.size)(a1:1<=a)(l:a<=m)(b:Sb kd a0 z)(up:Up rk (arrOf z) a)
  (h:∀n,a<=n->n<=m->Up rk (arrOf z) n->(n<m->rkAt rk (arrOf z) n<rkAt rk (arrOf z) (n - 1))->Q (none,n) z):wpS (model prog w) A E s (ascLoop a m) Q z:=by
 unfold ascLoop;refine gC (I:=fun x c y=>y=z/\c=(none,x)/\Up rk (arrOf z) x) (fun x _ y G J I=>?_) (fun _ y I=>?_) ⟨rfl,rfl,up⟩
 ·obtain⟨e,rfl,u⟩:=I;subst e;refine bQ (ask c b (by omega) (by omega) ?_)
  by_cases g:rkAt rk (arrOf y) x<rkAt rk (arrOf y) (x - 1)
  ·simp only[g,decide_true,if_true];exact cR (h x G (by omega) u fun _=>g)
  ·simp only[g,decide_false,aH,if_false];refine cR ⟨rfl,rfl,fun i j v L=>?_⟩
   rcases br j x with jx|jx
   ·exact u i j v jx
   ·have C:j=x:=by omega
    subst C;rcases br i (j - 1) with ij|ij
    ·have:=u i (j - 1) ij (by omega);omega
    ·have:i=j - 1:=by omega
     rw[this];omega
 ·obtain⟨e,rfl,u⟩:=I;subst e;rw[show max a m=m by omega]at u ⊢
  exact h m l (az _) u fun g=>absurd g (by omega)
theorem zka(c:Cmp prog w A s kd rk a0)(C:m<=a0.size)(I:1<=n)(nm:n<=m)(b:Sb kd a0 z)(G:Dn rk (arrOf z) n)
  (h:∀k y,Sb kd a0 y->1<=k->k<=m->Up rk (arrOf y) k->Q (some k) y):wpS (model prog w) A E s (tail3 n m) Q z:=by
 unfold tail3;have v:n<=(arrOf z).size:=by rw[b.sz];omega
 refine bQ (lA (bQ ?_));have l:=b.arr (lB (arrOf z) 0 n ((n - 0) / 2));refine zow c C I nm l (fun i j J x=>?_) fun k k1 k2 u _=>cR (h k _ l (by omega) k2 u)
 show rkAt rk (mirror (arrOf z) 0 n ((n - 0) / 2)) i<=rkAt rk (mirror (arrOf z) 0 n ((n - 0) / 2)) j
 rw[(zkq (rk:=rk) v i).1 (by omega) (by omega),(zkq (rk:=rk) v j).1 (by omega) x]
 exact G _ _ (by omega) (by omega)
theorem Y1(l:j<=xs.size)(al:∀k,i<=k->k<j->rkAt rk xs k=rkAt rk xs (j - 1))(k:Nat):rkAt rk (mirror xs i j ((j - i) / 2)) k=rkAt rk xs k:=by
 obtain⟨p,q⟩:=zkq (rk:=rk) (i:=i) l k
 by_cases g:i<=k/\k<j
 ·rw[p g.1 g.2,al _ (by omega) (by omega),al k g.1 g.2]
 ·exact q (by omega)
theorem zp4(c:Cmp prog w A s kd rk a0)(Y:m<=a0.size)(Z:1<=n)(nm:n<=m)(b:Sb kd a0 z)(S:Dn rk (arrOf z) n)
  (h:∀k e y,Sb kd a0 y->n<=k->k<=m->Dn rk (arrOf y) k->e<k->(∀i,k - (e+1)<=i->i<k->rkAt rk (arrOf y) i=rkAt rk (arrOf y) (k - 1))->Q (none,k,e) y) :
  wpS (model prog w) A E s (descLoop n m) Q z:=by
 unfold descLoop;refine gC (I:=fun x c y=>∃e,c=(none,x,e)/\Sb kd a0 y/\Dn rk (arrOf y) x/\e<x/\∀i,x - (e+1)<=i->i<x->rkAt rk (arrOf y) i=rkAt rk (arrOf y) (x - 1)) (fun x _ y R U I=>?_) (fun _ y I=>?_)
  ⟨0,rfl,b,S,by omega,fun i J L=>by rw[show i=n - 1 by omega]⟩
 ·obtain⟨e,rfl,l,d,ex,al⟩:=I
  have xz:x<=(arrOf y).size:=by rw[l.sz];omega
  refine bQ (ask c l (show x<a0.size by omega) (show x - 1<a0.size by omega) ?_)
  by_cases g:rkAt rk (arrOf y) x<rkAt rk (arrOf y) (x - 1)
  ·simp only[g,decide_true,if_true];have G:∀xs:Array lU,(∀k,rkAt rk xs k=rkAt rk (arrOf y) k)->Dn rk xs (x+1):=fun xs hx i j u N=>by
    rw[hx,hx];rcases br j x with jx|jx
    ·exact d i j u jx
    ·have v:j=x:=by omega
     subst v;rcases br i (j - 1) with ij|ij
     ·have:=d i (j - 1) ij (by omega);omega
     ·have:i=j - 1:=by omega
      rw[this];omega
   have one:∀xs:Array lU,∀i,x+1 - (0+1)<=i->i<x+1->rkAt rk xs i=rkAt rk xs (x+1 - 1):=fun xs i J L=>by rw[show i=x+1 - 1 by omega]
   by_cases e0:e > 0
   ·simp only[e0,if_true];exact bQ (lA (cR ⟨0,rfl,l.arr (lB _ _ _ _),G _ (Y1 xz al),by omega,one _⟩))
   ·simp only[e0,if_false];exact cR ⟨0,rfl,l,G _ (fun _=>rfl),by omega,one _⟩
  ·simp only[g,decide_false,aH,if_false];refine bQ (ask c l (show x - 1<a0.size by omega) (show x<a0.size by omega) ?_)
   by_cases g2:rkAt rk (arrOf y) (x - 1)<rkAt rk (arrOf y) x
   ·simp only[g2,decide_true,if_true];exact cR (h x e y l R (by omega) d ex al)
   ·simp only[g2,decide_false,aH,if_false];have C:rkAt rk (arrOf y) x=rkAt rk (arrOf y) (x - 1):=by omega
    refine cR ⟨e+1,rfl,l,fun i j u N=>?_,by omega,fun i J L=>?_⟩
    ·rcases br j x with jx|jx
     ·exact d i j u jx
     ·have v:j=x:=by omega
      subst v;rcases br i (j - 1) with ij|ij
      ·have:=d i (j - 1) ij (by omega);omega
      ·have:i=j - 1:=by omega
       rw[this];omega
    ·rw[show x+1 - 1=x by omega]
     rcases br i x with ix|ix
     ·rw[al i (by omega) ix,C]
     ·rw[show i=x by omega]
 ·obtain⟨e,rfl,l,d,ex,al⟩:=I
  rw[show max n m=m by omega]at *
  exact h m e y l nm (az _) d ex al
theorem zkK(c:Cmp prog w A s kd rk a0)(u:m<=a0.size)(nm:n+1<=m)(b:Sb kd a0 z)(G:Dn rk (arrOf z) (n+1))
  (h:∀k y,Sb kd a0 y->1<=k->k<=m->Up rk (arrOf y) k->Q (some k) y):wpS (model prog w) A E s (descPart n m) Q z:=by
 unfold descPart;refine bQ (uA (eI ⟨rfl,bQ ?_⟩));refine zp4 c u (by omega) nm b G fun k e y l k1 k2 d I al=>?_
 have v:k<=(arrOf y).size:=by rw[l.sz];omega
 by_cases e0:e > 0
 ·simp only[e0,if_true];refine bQ (lA (zka c u (by omega) k2 (l.arr (lB _ _ _ _)) (fun i j x C=>?_) h))
  show rkAt rk (mirror (arrOf y) (k - (e+1)) k ((k - (k - (e+1))) / 2)) j<=rkAt rk (mirror (arrOf y) (k - (e+1)) k ((k - (k - (e+1))) / 2)) i
  rw[Y1 v al,Y1 v al];exact d i j x C
 ·simp only[e0,if_false];exact zka c u (by omega) k2 l d h
theorem zq6(c:Cmp prog w A s kd rk a0)(x:m<=a0.size)(I:1<=m)(b:Sb kd a0 z)
  (h:∀k y,Sb kd a0 y->1<=k->k<=m->Up rk (arrOf y) k->Q (some k) y):wpS (model prog w) A E s (countRun' 0 m) Q z:=by
 rw[countRun0_eq];refine bQ (zow c x (az 1) I b (fun i j v G=>absurd v (by omega)) fun n L J u lt=>?_)
 by_cases en:n=m
 ·simp only[en,beq_self_eq_true,if_true];exact cR (h m z b I (az _) (en▸u))
 ·have C:(n == m)=false:=by simpa using en
  simp only[C,aH,if_false];have l:=lt (by omega)
  by_cases g:n > 1
  ·simp only[g,if_true];refine bQ (ask c b (by omega) (by omega) ?_)
   by_cases rose:rkAt rk (arrOf z) 0<rkAt rk (arrOf z) (n - 1)
   ·simp only[rose,decide_true,if_true];exact cR (h n z b L J u)
   ·simp only[rose,decide_false,aH,if_false];have zn:n<=(arrOf z).size:=by rw[b.sz];omega
    have al:∀k,0<=k->k<n->rkAt rk (arrOf z) k=rkAt rk (arrOf z) (n - 1):=fun k _ kn=>by
     have p:rkAt rk (arrOf z) 0<=rkAt rk (arrOf z) k:=by
      rcases l9 k with k0|k0
      ·rw[k0];exact aX _
      ·exact u 0 k k0 kn
     have q:rkAt rk (arrOf z) k<=rkAt rk (arrOf z) (n - 1):=by
      rcases br k (n - 1) with kk|kk
      ·exact u k (n - 1) kk (by omega)
      ·rw[show k=n - 1 by omega];exact aX _
     omega
    refine bQ (lA (zkK c x (by omega) (b.arr (lB _ _ _ _)) (fun i j v G=>?_) h))
    show rkAt rk (mirror (arrOf z) 0 n ((n - 0) / 2)) j<=rkAt rk (mirror (arrOf z) 0 n ((n - 0) / 2)) i
    rw[Y1 zn al,Y1 zn al];have R:=al i (by omega) (by omega)
    rcases br j n with jn|jn
    ·have:=al j (by omega) jn;omega
    ·rw[show j=n by omega];omega
  ·simp only[g,if_false];have N:n=1:=by omega
   subst N;refine zkK c x (by omega) b (fun i j v G=>?_) h
   rw[show i=0 by omega,show j=1 by omega]
   exact iq l
theorem zoI(c:Cmp prog w A s kd rk a0)(b:Sb kd a0 z)(s2:2<=a0.size)(s64:a0.size<64)
  (h:∀y,(arrOf y).Perm a0->failedOf y=none->Up rk (arrOf y) a0.size->Q () y):wpS (model prog w) A E s sortRuns' Q z:=by
 rw[sortRuns'_eq];refine bQ (mT ?_);have Z:minRun' a0.size a0.size 0=a0.size:=by
  obtain⟨q,hq⟩:∃q,a0.size=q+1:=⟨a0.size - 1,by omega⟩
  conv=>lhs;rw[hq]
  rw[minRun'_succ,if_pos (by omega)];omega
 simp only[b.sz,Z];refine bQ (oK (gC (Q:=fun c y=>c=(none,a0.size)/\(arrOf y).Perm a0/\failedOf y=none/\pendingOf y=#[(0,a0.size,0)]/\Up rk (arrOf y) a0.size)
  (I:=fun x c y=>(x=0/\c=(none,0)/\Sb kd a0 y)\/(0<x/\c=(none,a0.size)/\(arrOf y).Perm a0/\failedOf y=none/\pendingOf y=#[(0,a0.size,0)]/\Up rk (arrOf y) a0.size)) ?turn ?last (.inl ⟨rfl,rfl,b⟩)) ?post)
 case last =>
  rintro _ y (⟨x0,_⟩|⟨_,q⟩)
  ·omega
  ·exact q
 case turn =>
  rintro x _ y _ _ (⟨rfl,rfl,L⟩|⟨x1,rfl,q⟩)
  ·simp only[ge_iff_le,show ¬a0.size<=0 by omega,if_false,mU,sN,gA]
   have fin:∀C,Sb kd a0 C->Up rk (arrOf C) a0.size->(arrOf (setPending C ((pendingOf C).push (0,a0.size,0)))).Perm a0/\failedOf (setPending C ((pendingOf C).push (0,a0.size,0)))=none/\pendingOf (setPending C ((pendingOf C).push (0,a0.size,0)))=#[(0,a0.size,0)]/\Up rk (arrOf (setPending C ((pendingOf C).push (0,a0.size,0)))) a0.size :=
    fun C G R=>⟨G.pm,G.fl,by show(pendingOf C).push (0,a0.size,0)=_;rw[G.pe];rfl,R⟩
   refine bQ (zq6 c (az _) (by omega) L fun k U J k1 k2 S=>?_)
   by_cases g:k<a0.size
   ·simp only[g,if_true];refine bQ (uA (eI ⟨rfl,bQ ?_⟩));refine ztx c (az _) k2 J S fun C G R=>?_
    simp only[fj,aH,if_false];refine bQ (mT ?_);have N:(pendingOf C).back?=none:=by rw[G.pe];rfl
    simp only[N];exact bQ (oM (cR (.inr ⟨by omega,rfl,fin C G R⟩)))
   ·simp only[g,if_false];have ek:k=a0.size:=by omega
    subst ek;refine bQ (mT ?_);have N:(pendingOf U).back?=none:=by rw[J.pe];rfl
    simp only[N];exact bQ (oM (cR (.inr ⟨by omega,rfl,fin U J S⟩)))
  ·simp only[ge_iff_le,az,if_true];exact cR ⟨rfl,q⟩
 case post =>
  rintro _ y ⟨rfl,q1,q2,Y,q4⟩;refine bQ (oK (gC (Q:=fun c v=>v=y/\c=(none,())) (I:=fun _ c v=>v=y/\c=(none,())) (fun x _ v _ _ I=>?_) (fun _ _ I=>I) ⟨rfl,rfl⟩) fun _ v I=>?_)
  ·obtain⟨e,rfl⟩:=I;subst e;refine bQ (mT ?_);simp only[Y,ax,aR,cK,az,if_true];exact cR ⟨rfl,rfl⟩
  ·obtain⟨e,rfl⟩:=I;subst e;exact cR (h v q1 q2 q4)
end
theorem zmL{prog:aG}{w:aP}{A:bo}{E:qV}{s:au}{v:iK}{rk:ah->Int}{l:Array lU}{z:lz}{Q:Unit->lz->Prop}(c:Cmp prog w A s v rk l)(b:Sb v l z)(s2:2<=l.size)(u:l.size<64)
  (h:∀y,(arrOf y).Perm l->failedOf y=none->Up rk (arrOf y) l.size->Q () y):wpS (model prog w) A E s sortRuns' Q z:=zoI c b s2 u h
def midH(h:aN)(a:ak)(l:List ah):aN:=((h.update a (eK fun _=>#[])).push (seqObj "tuple" l.toArray 0)).push (seqObj "list" #[] 0)
section
variable{prog:aG}{w:aP}{A:bo}{E:qV}{s:au}{rk:ah->Int}
def Kinds(prog:aG)(w:aP)(A:bo)(s:au)(rk:ah->Int)(l:List ah):Prop:=2<=l.length->∃u,(∀(E:qV) (Q:iK->au->Prop),Q u s->wpAny (model prog w) A (keyKind' l.toArray) Q E s)/\Cmp prog w A s u rk (pairsOf l)
theorem ziC{a:ak}{l:List ah}{n:Nat}{P:Fin->au->Prop}(u:s.heap.get? a=some (seqObj "list" l.toArray n)) (G:l.length<64) (R:Kinds prog w A { s with heap:=midH s.heap a l } rk l)
  (h:∀y:lz,(arrOf y).Perm (pairsOf l)->Up rk (arrOf y) l.length->P (.done (.ret .none)) { s with heap:=sortedHeap s.heap a l ((arrOf y).map (·.2)) }) :
  wpAny (model prog w) A (fH.«list.sort» ⟨[.ref a],[]⟩) P E s:=by
 rw[list_sort_plain];have I:a<s.heap.objs.size:=av u;refine aa (fJ u rfl (aa (lV u rfl ?_)));obtain⟨v,L⟩:∃v,(s.heap.update a (eK fun _=>#[])).get? a=some (seqObj "list" #[] v):=⟨_,nX u (fun _=>#[])⟩
 refine aa (seqEpoch_at L rfl (aa (oN (aa (gX (bz ?_))))));have J:(midH s.heap a l).get? a=some (seqObj "list" #[] v):=by
  unfold midH;rw[b5 _ _ _ (by rw[dH,cn];exact aD (aB I (iX _))),b5 _ _ _ (by rw[cn];exact aD I)]
  exact L
 show wpAny (model prog w) A _ P E { s with heap:=midH s.heap a l }
 have z:l.toArray.size=l.length:=by simp
 have tail:∀(y:lz),(arrOf y).Perm (pairsOf l)->failedOf y=none->Up rk (arrOf y) l.length->wpAny (model prog w) A (do
   let touched:=(<- seqEpoch a) != v
   rW (.ref a) fun _=>(arrOf y).map (·.2)
   if let some e:=failedOf y then rule "list.sort.comparison-raised";throw e
   if touched then rule "list.sort.modified";raiseError "ValueError" "list modified during sort"
   ret .none) P E { s with heap:=midH s.heap a l }:=fun y pm fl up=>by
  refine aa (seqEpoch_at J rfl (aa (lV J rfl ?_ (hsz2:=?_))))
  ·rw[fl];simp only[bne_self_eq_false,aH,if_false];exact aj (h y pm up)
  ·rw[Array.size_map,pm.size_eq,kJ];show l.length<=sizeLine+1
   have:64<=sizeLine:=by decide
   omega
 by_cases two:l.length<2
 ·simp only[z,two,if_true];refine aa (aj ?_);rw[StateT.run_pure];refine aa (aj ?_);exact tail (vV general' (l.toArray.zip l.toArray) #[] 7 none) (nY _) rfl fun i j U N=>absurd N (by omega)
 ·simp only[z,two,if_false];obtain⟨S,k1,k2⟩:=R (by omega)
  refine aa (k1 _ _ ?_);refine aa (cE (zmL (Q:=fun _ y=>(arrOf y).Perm (pairsOf l)/\failedOf y=none/\Up rk (arrOf y) l.length) (z:=vV S (l.toArray.zip l.toArray) #[] 7 none) k2 ⟨nY _,rfl,rfl,rfl⟩ (by rw[kJ];omega) (by rw[kJ];exact G)
   fun y C p2 x=>⟨C,p2,by rwa [kJ]at x⟩) ?_ fun _ _ e=>e)
  rintro⟨⟨⟩,y⟩ s' ⟨rfl,C,p2,x⟩;exact tail y C p2 x
theorem zey{l:ak}{v:List ah}{o:Obj}{T:String}{n:Nat}{Q:List ah->au->Prop}(G:s.heap.get? l=some o)(hc:o.cls=.type T)(I:T = "list" \/ T = "tuple") (hd:o.data=.seq v.toArray n) (R:v.length<=sizeLine)
  (h:Q v { s with heap:=(s.heap.push (seqObj "list" #[] 0)).update s.heap.objs.size (eK (·++v.toArray)) }):wpAny (model prog w) A (collect (.ref l)) Q E s:=by
 unfold collect;refine aa (wpAny_runValue (fe entry_proto_collect' ?_));show wpAny (model prog w) _ (newList [] >>= fun x=>again (.builtin "list.__iadd__" ⟨[x,.ref l],[]⟩)) _ _ s
 refine aa (gX (aj ⟨ma _ (by decide +kernel),fe entry_list_iadd' ?_⟩))
 show wpAny (model prog w) _ (ir (.ref s.heap.objs.size) (.ref l) (.ref s.heap.objs.size)) _ _ { s with heap:=s.heap.push (seqObj "list" #[] 0) }
 unfold ir;have C:(s.heap.push (seqObj "list" #[] 0)).get? l=some o:=aq _ G;refine aa (fI (T:=T) ⟨o,C,hc⟩ ?_);have cond:∀b:Bool,(b||bh T == bh "list" ||bh T == bh "tuple")=true:=by
  intro b;have N:(bh "list" == bh "list")=true:=rfl;have J:(bh "tuple" == bh "tuple")=true:=rfl;rcases I with rfl|rfl
  ·rw[N];simp
  ·rw[J];simp
 rw[if_pos (cond _)];refine aa (fJ C hd (aa (fJ (xs:=#[]) (n:=0) (ay _ rfl) rfl ?_)));rw[if_neg (by simp)]
 refine aa (lV (xs:=#[]) (n:=0) (ay _ rfl) rfl (aj ?_) (eF _) (by simp only[Array.size_append,ax,cK];omega))
 refine aa (m:=load s.heap.objs.size) (wpAny_load (nX (ay _ rfl) _) ?_);show wpAny (model prog w) A (pure ((#[]:Array ah)++v.toArray).toList) Q E _
 have e:((#[]:Array ah)++v.toArray).toList=v:=by simp
 rw[e];exact aj h
def preH(h:aN)(l:List ah):aN:=((h.push (seqObj "list" #[] 0)).update h.objs.size (eK (·++l.toArray))).push (seqObj "list" l.toArray 0)
theorem zjs{l:ak}{v:List ah}{o:Obj}{T:String}{n:Nat}{Q:qV}(G:s.heap.get? l=some o)(hc:o.cls=.type T)(J:T = "list" \/ T = "tuple") (hd:o.data=.seq v.toArray n) (x:v.length<64)
  (I:∀N,Kinds prog w N { s with heap:=midH (preH s.heap v) (s.heap.objs.size+1) v } rk v)
  (h:∀y:lz,(arrOf y).Perm (pairsOf v)->Up rk (arrOf y) v.length->Q (.ref (s.heap.objs.size+1)) { s with heap:=sortedAll s.heap v ((arrOf y).map (·.2)) }) :
  wpAny (model prog w) A (call (.builtin "sorted") [.ref l]) Q E s:=by
 refine iR kind_sorted plain_sorted entry_sorted (args_sorted1 _) ?_;unfold fH.«sorted»;refine aa (m:=checkCount "sorted" 1 1 _) (aj ?_);refine aa (zey G hc J hd (by have:64<=sizeLine:=(by decide);omega) (aa (gX ?_)))
 have z:((s.heap.push (seqObj "list" #[] 0)).update s.heap.objs.size (eK (·++v.toArray))).objs.size=s.heap.objs.size+1:=by rw[cn,dH]
 have C:(preH s.heap v).get? (s.heap.objs.size+1)=some (seqObj "list" v.toArray 0):=by
  unfold preH;rw[<- z];exact ay _ rfl
 show wpAny (model prog w) _ _ _ _ { s with heap:=preH s.heap v }
 rw[z];refine aa (bz (dO oO ⟨_,C,rfl⟩ nZ (ziC C x (I _) fun y L p2=>⟨_,rfl,?_⟩) (oP _)))
 exact aj ⟨_,rfl,h y L p2⟩
end
section
variable{prog:aG}{w:aP}{A:bo}{E:qV}{s:au}
theorem zlh(b:Bool)(x y:ah):keyLt' (tuples' b) x y=(do
  let xs <- gD x
  let ys <- gD y
  for ((p,q),i) in (xs.toList.zip ys.toList).zipIdx do
   if !(<- eqBool p q) then return <- oneLt' (b&&i == 0) p q
  return decide (xs.size<ys.size)):=rfl
def LtAt(prog:aG)(w:aP)(A:bo)(s:au)(one:Bool)(p q:ah)(l:Bool):Prop:=∀(E:qV) (Q:Bool->au->Prop),Q l s->wpAny (model prog w) A (oneLt' one p q) Q E s
theorem zgF{b:Bool}{x y:ak}{R U:Obj}{l v u C:ah}{n m:Nat}{G J N S:Bool}{Q:Bool->au->Prop}(hx:s.heap.get? x=some R)(dx:R.data=.seq #[l,v] n)(hy:s.heap.get? y=some U)(dy:U.data=.seq #[u,C] m)
  (Z:l5 A s l u G) (e1:l5 A s v C J) (t0:G=false->LtAt prog w A s b l u N) (t1:J=false->LtAt prog w A s false v C S) (h:Q (if G=true then(if J=true then false else S) else N) s) :
  wpAny (model prog w) A (keyLt' (tuples' b) (.ref x) (.ref y)) Q E s:=by
 rw[zlh];refine aa (fJ hx dx (aa (fJ hy dy ?_)));have Y:((#[l,v]:Array ah).toList.zip (#[u,C]:Array ah).toList).zipIdx=[((l,u),0),((v,C),1)]:=rfl;simp only[Y,hV,lC];refine aa (aa ?_);refine aa (Z prog w E _ ?_);cases G with
 | false =>
  simp only[gE,if_true];have z0:(b&&(0:Nat) == 0)=b:=by simp
  rw[z0];refine aa (t0 rfl E _ ?_);exact aj (aj (aj (by simpa using h)))
 | true =>
  simp only[fj,aH,if_false];refine aj (aa (aa (e1 prog w E _ ?_)));cases J with
  | false =>
   simp only[gE,if_true];have z1:(b&&(1:Nat) == 0)=false:=by simp
   rw[z1];refine aa (t1 rfl E _ ?_);exact aj (aj (aj (by simpa using h)))
  | true =>
   simp only[fj,aH,if_false];exact aj (aj (aj (by simpa using h)))
theorem zk7(a b:Int)(t u:Tok):LtAt prog w A s true (.int a t) (.int b u) (decide (a<b)):=fun _ _ q=>oneLt_int q
theorem zna(a b:Int)(t u:Tok):LtAt prog w A s false (.int a t) (.int b u) (decide (a<b)):=fun E Q q=>by
 rw[rX];simp only[aH,if_false];refine aa (show wpAny (model prog w) A (compareOp .Lt (.int a t) (.int b u)) _ E s from lt_int ?_)
 exact bq q
def PrIn(h:aN)(u:ah)(b k:Int):Prop:=∃(a:ak) (o:Obj) (t t':Tok) (n:Nat),u=.ref a/\h.get? a=some o/\o.cls=.type "tuple" /\ o.data=.seq #[.int b t,.int k t'] n
def two?:List ah->Int
 | [.int b _,.int k _]=>b*1000+k
 | _=>0
def rkC(h:aN)(u:ah):Int:=match u with
 | .ref a=>match h.get? a with
  | some o=>match o.data with
   | .seq xs _=>two? xs.toList
   | _=>0
  | none=>0
 | _=>0
theorem PrIn.rk{h:aN}{u:ah}{b k:Int}(p:PrIn h u b k):rkC h u=b*1000+k:=by
 obtain⟨a,o,t,t',n,rfl,l,_,v⟩:=p;simp only[rkC,l,v,two?]
theorem PrIn.kept{h h':aN}{u:ah}{b k:Int}(p:PrIn h u b k)(kp:∀b o,h.get? b=some o->h'.get? b=some o):PrIn h' u b k:=by
 obtain⟨a,o,t,t',n,v,l,x,y⟩:=p;exact⟨a,o,t,t',n,v,kp _ _ l,x,y⟩
theorem Y0{α u:Type}{f:α->Sem u}{P:α->u->Prop}{M:rM}:∀(l:List α) {Q:List u->au->Prop},(∀v∈l,∀(C:u->au->Prop),(∀r,P v r->C r s)->wpAny M A (f v) C E s)->(∀rs,dh P l rs->Q rs s)->wpAny M A (l.mapM f) Q E s
 | [],_,_,h=>by rw[List.mapM_nil];exact aj (h _ .nil)
 | x::l,Q,hf,h=>by
  rw[List.mapM_cons];exact aa (hf x (.head _) _ fun r G=>aa (Y0 l (fun v I=>hf v (.tail _ I)) fun rs y=>aj (h _ (.cons G y))))
theorem zi6(v:ah):firstOfTuple' v=(do
  if (<- typeOf v) != .type "tuple" then return none
  return (<- gD v)[0]?):=rfl
theorem zjK{L:List ah}{Q:iK->au->Prop}(S:1<=L.length)(N:∀v∈L,∃b k,PrIn s.heap v b k)(h:Q (tuples' true) s):wpAny (model prog w) A (keyKind' L.toArray) Q E s:=by
 rw[keyKind'_eq,gF,map_eq_pure_bind];refine aa (aa (Y0 (P:=fun _ r=>∃(b:Int) (t:Tok),r=some (.int b t)) L (fun v hv Q' hq=>?_) fun rs I=>aj ?_))
 ·obtain⟨b,k,a,o,t,t',n,rfl,Z,e2,e3⟩:=N v hv;rw[zi6];refine aa (fI (T:="tuple") ⟨o,Z,e2⟩ ?_);rw[if_neg (by decide)]
  exact aa (fJ Z e3 (aj (hq _ ⟨b,t,rfl⟩)))
 ·have al:∀r∈rs,∃(b:Int) (t:Tok),r=some (.int b t):=by
   clear h N S;induction I with
   | nil=>intro r u;cases u
   | cons x y G =>
    intro r u;rcases aw.mp u with rfl|u
    ·exact x
    ·exact G r u
  have ln:rs.length=L.length:=by
   clear h N S al;induction I with
   | nil=>rfl
   | cons x y G=>simp[G]
  have HV:(rs.toArray.all fun x=>x.isSome)=true:=by
   simp only[gR,bc];intro x hx;obtain⟨b,t,rfl⟩:=al x hx
   rfl
  rw[if_pos HV];refine aa (eI ?_);rw[n8];have R:rs.toArray.filterMap id=(rs.filterMap id).toArray:=by simp
  rw[R,gF,map_eq_pure_bind];refine aa (aa (aa (Y0 (P:=fun _ r=>r=bh "int") _ (fun v hv Q' hq=>?_) fun ts C=>aj ?_)))
  ·obtain⟨x,hx,e⟩:=eY.mp hv;obtain⟨b,t,rfl⟩:=al x hx;cases e;exact aj (hq _ rfl)
  ·have J:∀r∈ts,r=bh "int":=by
    clear h N S;generalize rs.filterMap id=l at C;induction C with
    | nil=>intro r u;cases u
    | cons x y G =>
     intro r u;rcases aw.mp u with rfl|u
     ·exact x
     ·exact G r u
   have ln2:ts.length=rs.length:=by
    have:ts.length=(rs.filterMap id).length:=by
     clear h N S J;generalize rs.filterMap id=l at C;induction C with
     | nil=>rfl
     | cons x y G=>simp[G]
    rw[this];clear this C R HV;clear ln I;induction rs with
    | nil=>rfl
    | cons x l G =>
     obtain⟨b,t,rfl⟩:=al x (.head _);simp only[cS,id,aR];rw[G fun r u=>al r (.tail _ u)]
   obtain⟨Y,U,rfl⟩:∃Y U,ts=Y::U:=by
    cases ts with
    | nil=>simp at ln2;omega
    | cons a b=>exact⟨a,b,rfl⟩
   have Z:Y=bh "int":=J Y (.head _);subst Z;have HY:(((bh "int")::U).toArray.all fun x=>x == bh "int")=true:=by
    simp only[gR,bc];intro x hx;rw[J x hx];rfl
   have h0:((bh "int")::U).toArray[0]?=some (bh "int"):=by simp
   rw[h0];simp only[HY,if_true];refine aj (aj ?_);exact h
theorem zhO{l:List ah}{h0:aN}(C:∀v∈l,∃b k,PrIn s.heap v b k/\rkC h0 v=b*1000+k/\0<=k/\k<1000):Kinds prog w A s (rkC h0) l:=fun h2=>by
 refine⟨tuples' true,fun E Q q=>zjK (by omega) (fun v S=>?_) q,fun p q E Q mp U h=>?_⟩
 ·obtain⟨b,k,h,_⟩:=C v S;exact⟨b,k,h⟩
 ·have mem:∀z∈(pairsOf l).toList,z.1∈l:=fun z hz=>by
   have:z∈l.zip l:=by simpa[pairsOf] using hz
   exact(cV this).1
  obtain⟨b,k,⟨a,o,t,t',n,R,e1,e2,J⟩,Y,k0,k1⟩:=C _ (mem p mp);obtain⟨x,y,⟨a',o',u,G,n',f0,f1,f2,I⟩,N,k0',Z⟩:=C _ (mem q U);rw[Y,N]at h;rw[R,f0];refine zgF e1 J f1 I (iG b t x u) (iG k t' y G) (fun _=>zk7 b x t u) (fun _=>zna k y t' G) ?_
  have:(if (b == x)=true then(if (k == y)=true then false else decide (k<y)) else decide (b<x))=decide (b*1000+k<x*1000+y):=by
   simp only[beq_iff_eq];split
   ·split
    ·symm;rw[decide_eq_false_iff_not];omega
    ·rw[decide_eq_decide];omega
   ·rw[decide_eq_decide];omega
  rw[this];exact h
end
theorem Vs{α v:Type}{l:List (α×v)}{m:List v}(h:m.Perm (l.map (·.2))):∃u:List (α×v),u.Perm l/\u.map (·.2)=m:=by
 induction m generalizing l with
 | nil =>
  have:l.map (·.2)=[]:=h.symm.eq_nil;cases l with
  | nil=>exact⟨[],.refl _,rfl⟩
  | cons a b=>simp at this
 | cons x m G =>
  have hx:x∈l.map (·.2):=h.mem_iff.mp (.head _);obtain⟨z,I,rfl⟩:=ba.mp hx;obtain⟨C,l2,rfl⟩:=List.append_of_mem I;have y:(z.2::m).Perm (z.2::(C++l2).map (·.2)):=by
   refine h.trans ?_;simp only[eu,cm];exact nt
  obtain⟨u,p,e⟩:=G (List.perm_cons _|>.mp y)
  exact⟨z::u,(p.cons z).trans nt.symm,by simp[e]⟩
theorem zjH{h:aN}{u:List ah}{b:ak}{o:Obj}(v:h.get? b=some o):(midH (preH h u) (h.objs.size+1) u).get? b=some o:=by
 have l:b<h.objs.size:=av v;unfold midH preH;rw[b5 _ _ _ (by rw[dH,cn,dH,cn,dH];exact aD (aB l (by lia))),b5 _ _ _ (by rw[cn,dH,cn,dH];exact aD (aB l (by lia))),
  fR _ _ _ _ (by exact aD (aB l (by lia))),b5 _ _ _ (by rw[cn,dH];exact aD (aB l (by lia))),fR _ _ _ _ (by exact aD (aB l (by lia))),b5 _ _ _ (by exact aD (aB l (by lia)))]
 exact v
def rkD:af->Int
 | .tuple [.int b,.int k]=>b*1000+k
 | _=>0
def PrV(K:qF)(H:Hp)(z:V×af):Prop:=∃q b k,z.1=.ref q/\z.2=.tuple [.int b,.int k]/\SqT K H q [.int b,.int k]/\0<=k/\k<1000
section
variable{X:Cx}
theorem zhb:JN X (.builtin "sorted") (fun xs H Q=>∃(p:ak) (zs:List (V×af)),xs=[.ref p]/\(SqL X.K H p (zs.map (·.1))\/SqT X.K H p (zs.map (·.1)))/\zs.length<64/\(∀z∈zs,PrV X.K H z) /\
  ∀J:List (V×af),J.Perm zs->J.Pairwise (fun a b=>rkD a.2<=rkD b.2)->∀l,H l=none->Q (.ref l) (upd H l (.lst (J.map (·.1))))):=by
 intro pins s σ H xs us Q I r h;obtain⟨p,zs,rfl,Z,h64,hp,q⟩:=h;obtain⟨u,rfl,rx⟩:=vals1 r;cases rx;have key:∀(C:List ah) (o:Obj) (T:String) (n:Nat),Vals (zs.map (·.1)) C->s.heap.get? p=some o->o.cls=.type T->(T = "list" \/ T = "tuple")->o.data=.seq C.toArray n -> 
   wpAny (model X.prog X.w) X.A (call (.builtin "sorted") [.ref p]) (EP X pins σ Q) X.xe s:=fun C o T n rv U hc hT hd=>by
  have hlen:zs.length=C.length:=by simpa using rv.length
  have each:∀x∈zs.zip C,RelV x.1.1 x.2/\∃b k,PrIn s.heap x.2 b k/\x.1.2=.tuple [.int b,.int k]/\0<=k/\k<1000:=by
   have rel:∀(zs:List (V×af)) (C:List ah),Vals (zs.map (·.1)) C->∀x∈zs.zip C,RelV x.1.1 x.2:=by
    intro zs;induction zs with
    | nil=>intro C _ x hx;simp at hx
    | cons z zs ih =>
     intro C r x hx;cases r with
     | cons S r2 =>
      rcases aw.mp (by simpa using hx) with rfl|hx
      ·exact S
      ·exact ih _ r2 x hx
   intro x hx;have S:=rel zs C rv x hx;obtain⟨q',b,k,e1,e2,e3,k0,k1⟩:=hp x.1 (cV hx).1;refine⟨S,b,k,?_,e2,k0,k1⟩;rw[e1]at S;obtain⟨is,rs,⟨o',f1,f2,n',f3⟩,_⟩:=I.tuple e3;cases rs with
   | cons a1 a2 =>
    cases a2 with
    | cons a3 a4 =>
     cases a4;obtain⟨t,rfl⟩:=a1;obtain⟨t',rfl⟩:=a3;exact⟨q',o',t,t',n',S,f1,f2,f3⟩
  refine zjs (rk:=rkC s.heap) U hc hT hd (by lia) (fun A'=>zhO fun v hv=>?_) fun y pm up=>?_
  ·obtain⟨i,hi,rfl⟩:=bW hv;have hz:i<zs.length:=by lia
   have mem:(zs[i],C[i])∈zs.zip C:=by
    have:(zs.zip C)[i]'(by simp;lia)=(zs[i],C[i]):=by simp
    rw[<- this];exact cZ _
   obtain⟨_,b,k,h1,_,k0,k1⟩:=each _ mem;exact⟨b,k,h1.kept fun _ _ e=>zjH e,h1.rk,k0,k1⟩
  ·have N:(arrOf y).toList.Perm (C.zip C):=by
    have:=fD.mp pm;simpa[pairsOf] using this
   have pm1:((arrOf y).toList.map (·.2)).Perm ((zs.zip C).map (·.2)):=by
    refine(N.map _).trans ?_;rw[dP (by lia),dP (by lia)]
   obtain⟨G,p1,p2⟩:=Vs pm1;have HH:∀x∈G,RelV x.1.1 x.2/\∃b k,PrIn s.heap x.2 b k/\x.1.2=.tuple [.int b,.int k]/\0<=k/\k<1000:=fun x hx=>each x (p1.mem_iff.mp hx)
   have pz:(G.map (·.1)).Perm zs:=by
    have:=p1.map (·.1)
    rwa [fK (by lia)]at this
   have rw':Vals ((G.map (·.1)).map (·.1)) (G.map (·.2)):=by
    have:∀G:List ((V×af)×ah),(∀x∈G,RelV x.1.1 x.2)->Vals ((G.map (·.1)).map (·.1)) (G.map (·.2)):=by
     intro G;induction G with
     | nil=>intro _;exact .nil
     | cons a l ih=>intro h;exact .cons (h a (.head _)) (ih fun x hx=>h x (.tail _ hx))
    exact this G fun x hx=>(HH x hx).1
   have Y:∀x∈G,rkC s.heap x.2=rkD x.1.2:=fun x hx=>by
    obtain⟨_,b,k,h1,h2,_⟩:=HH x hx;rw[h1.rk,h2];rfl
   have HI:∀z∈(arrOf y).toList,z.1=z.2:=fun z hz=>by
    have:z∈C.zip C:=N.mem_iff.mp hz;obtain⟨i,hi,rfl⟩:=bW this;simp
   have szy:(arrOf y).size=C.length:=by
    have:=N.length_eq;simpa using this
   have pw:(G.map (·.1)).Pairwise (fun a b=>rkD a.2<=rkD b.2):=by
    rw[dF,bL];intro i j hi hj hij;have lw:G.length=C.length:=by
     have:=congrArg cM p2;simpa[szy] using this
    have gw:∀k (hk:k<G.length),rkAt (rkC s.heap) (arrOf y) k=rkD G[k].1.2:=fun k hk=>by
     have R:k<(arrOf y).size:=by lia
     have e1:(arrOf y).toList[k]'(by simpa using R)=(arrOf y)[k]:=by simp
     have e2:G[k].2=(arrOf y)[k].2:=by
      have:(G.map (·.2))[k]'(by simpa using hk)=((arrOf y).toList.map (·.2))[k]'(by simpa using R):=by simp only[p2]
      simpa using this
     have e3:(arrOf y)[k].1=(arrOf y)[k].2:=HI _ (by rw[<- e1];exact cZ _)
     unfold rkAt;rw[fP R];simp only[ei,cX];rw[e3,<- e2];exact Y _ (cZ _)
    have:=up i j hij (by lia)
    rwa [gw i hi,gw j hj]at this
   have ev:(arrOf y).map (·.2)=(G.map (·.2)).toArray:=by
    apply nu.mp;rw[nv,p2]
   rw[ev];obtain⟨e,he⟩:=sortedAll_at s.heap C (G.map (·.2)).toArray;refine⟨.ref (s.heap.objs.size+1),_,I.laid (a:=s.heap.objs.size+1) (o:=.lst ((G.map (·.1)).map (·.1))) (t':=s.toks) (fun _ _=>sortedAll_old) (iX _) ?_,rfl,q _ pz pw _ (I.hok.fresh (iX _))⟩
   refine⟨?_,G.map (·.2),e,rw',he⟩;have:64<=sizeLine:=by decide
   have:=pz.length_eq;simp at this ⊢;lia
 rcases Z with Z|Z
 ·obtain⟨C,r',pl,hz⟩:=I.list Z;obtain⟨o,U,hc,n,hd⟩:=pl.isList;exact key C o "list" n r' U hc (.inl rfl) hd
 ·obtain⟨C,r',pl,hz⟩:=I.tuple Z;obtain⟨o,U,hc,n,hd⟩:=pl;exact key C o "tuple" n r' U hc (.inr rfl) hd
end
def IsPr(t:af):Prop:=∃b k:Int,t=.tuple [.int b,.int k]/\0<=k/\k<1000
def Yy(t:af)(R:List af->Prop):Prop:=JW t fun ts=>ts.length<64/\(∀x∈ts,IsPr x)/\∀l:List af,l.Perm ts->l.Pairwise (fun a b=>rkD a<=rkD b)->R l
def zp_(d:DTE):DTA:=fun u n R=>d u n fun t l=>Yy t fun ts=>R ts l
section
variable{X:Cx}{e:aO}{d:DTE}{pos p:Pos}{k:Nat}
theorem zeq(hr:Room k X.A)(hm:X.mg "sorted" = none) (h:DL X e d) (hs:starEach [e] X.env=[(false,eval e X.env)]) (hg:Gl X "sorted":=by rfl):DN X (.Call (.Name "sorted" p) [e] [] pos) (zp_ d):=by
 obtain⟨ta,pa,h⟩:=h;refine⟨_,Uf zhb hm boot_sorted (J1 pa Qz hs) hg,fun C Y σ H n Q R S hd hq=>?_⟩
 refine h C Y σ H n _ _ S hd fun t n1 v G r1 e1 Z q1=>?_
 have S1:=S.on e1 Z;have fin:∀p u ts,Reps X.K C.hd (Own C Y σ) G u ts->R ts n1->G p=none->Q (.ref p) (upd G p (.lst u)):=fun p u ts rp rr U=>by
  have hp0:H p=none:=by
   cases z:H p with
   | none=>rfl
   | some o =>
    by_cases y:C.hd=some p
    ·obtain⟨d,m,t,q,_⟩:=Z p y;rw[U]at q;cases q
    ·rw[e1 p o z y]at U;cases U
  refine hq ts n1 p u _ rr (e1.trans (ExtE.new U)) (Z.same (JS U)) hp0 JM ?_;refine rp.mono (fun b o hb z=>z.elim id fun z=>?_) fun b o _ hb=>JS U b o hb
  subst z;rw[U]at hb;cases hb
 have go:∀(p:ak) u ts,(SqL X.K G p u\/SqT X.K G p u)->Reps X.K C.hd (Own C Y σ) G u ts->(ts.length<64/\(∀x∈ts,IsPr x)/\∀L:List af,L.Perm ts->L.Pairwise (fun a b=>rkD a<=rkD b)->R L n1) ->
   ∃(p':ak) (zs:List (V×af)),[V.ref p]=[V.ref p']/\(SqL X.K G p' (zs.map (·.1))\/SqT X.K G p' (zs.map (·.1)))/\zs.length<64/\(∀z∈zs,PrV X.K G z) /\
  ∀I:List (V×af),I.Perm zs->I.Pairwise (fun a b=>rkD a.2<=rkD b.2)->∀l,G l=none->Q (.ref l) (upd G l (.lst (I.map (·.1)))):=fun p u ts hs rp h=>by
  have ln:=rp.length;have rel:∀z∈u.zip ts,Rep X.K C.hd (Own C Y σ) G z.1 z.2:=fun z hz=>by
   obtain⟨i,hi,rfl⟩:=bW hz;have hi2:i<ts.length:=by simp at hi;lia
   obtain⟨v,Z,h2⟩:=rp.get (aI hi2);have hi1:i<u.length:=by lia
   rw[aI hi1]at Z;cases Z;simpa using h2
  refine⟨p,u.zip ts,rfl,?_,by simp;lia,fun z hz=>?_,fun I pm pw l hl=>?_⟩
  ·rw[fK (by lia)];exact hs
  ·obtain⟨b,k,e,k0,k1⟩:=h.2.1 z.2 (cV hz).2;have r:=rel z hz;rw[e]at r;obtain⟨a,ws,e1,e2,e3⟩:=r.tupI;cases e3 with
   | cons x1 x2 =>
    cases x2 with
    | cons x3 x4 =>
     cases x4;rw[x1.intI,x3.intI]at e2;exact⟨a,b,k,e1,e,e2,k0,k1⟩
  ·refine fin l _ (I.map (·.2)) ?_ (h.2.2 _ ?_ ?_) hl
   ·have:∀zs:List (V×af),(∀z∈zs,Rep X.K C.hd (Own C Y σ) G z.1 z.2)->Reps X.K C.hd (Own C Y σ) G (zs.map (·.1)) (zs.map (·.2)):=by
     intro zs;induction zs with
     | nil=>intro _;exact .nil
     | cons a l ih=>intro h;exact .cons (h a (.head _)) (ih fun x hx=>h x (.tail _ hx))
    exact this I fun z hz=>rel z (pm.mem_iff.mp hz)
   ·have:=pm.map (·.2)
    rwa [dP (by lia)]at this
   ·rw[dF];exact pw
 cases t with
 | list ts =>
  obtain⟨p,u,rfl,J,h2⟩:=q1.lstI;exact go p u ts (.inl (.of J)) h2 r1
 | tuple ts =>
  obtain⟨p,u,rfl,J,h2⟩:=q1.tupI;exact go p u ts (.inr J) h2 r1
 | _=>exact r1.elim
end
abbrev prD(b:Int×Int):af:=.tuple [.int b.1,.int b.2]
def pD(bs:qB):List af:=bs.map prD
theorem Ju{bs:qB}:(pD bs).length=bs.length:=by simp[pD]
theorem Zz{bs cs:qB}:pD bs++pD cs=pD (bs++cs):=by simp[pD]
theorem Q4{i h:Int}{bs:qB}:pD bs++[.tuple [.int i,.int h]]=pD (bs++[(i,h)]):=by simp[pD]
theorem Um{bs:qB}{k:Nat}{t:af}(h:(pD bs)[k]?=some t):∃i g:Int,bs[k]?=some (i,g)/\t=.tuple [.int i,.int g]:=by
 unfold pD at h;rw[aU]at h;cases e:bs[k]? with
 | none=>rw[e]at h;cases h
 | some b=>rw[e]at h;cases h;exact⟨b.1,b.2,rfl,rfl⟩
def eB(b:Int×Int):Int:=b.1+2 ^ b.2.toNat
def Bks(bits:Int)(bs:qB):Prop:=∀b∈bs,IsBk bits b.1 b.2
def Ptc(bits:Int)(bs:qB):Prop:=Bks bits bs/\bs.Pairwise fun a b=>eB a<=b.1
theorem UF(b:Int×Int):b.1<eB b:=by have:=Bd.QB b.2.toNat;unfold eB;lia
theorem zrN{bs:qB}:Okd (.list (pD bs)):=by
 have:∀bs:List (Int×Int),aZ (pD bs)=true/\bN (pD bs)<=1:=by
  intro bs;induction bs with
  | nil=>exact⟨by simp[pD,aZ],by simp[pD,bN]⟩
  | cons b l u =>
   refine⟨?_,?_⟩
   ·have:=u.1;simp only[pD,cm,aZ,bp,gY,df]at this ⊢;exact this
   ·have:=u.2;simp only[pD,cm,bN,cC]at this ⊢;lia
 exact⟨by simp only[bp];exact(this bs).1,by simp only[cC];have:=(this bs).2;lia⟩
theorem zhE:Okd (.list []):=⟨by simp[bp,aZ],by simp[cC,bN]⟩
theorem zpI{d:DTE}{l:En}{n:Nat}{u:List af->Nat->Prop}(h:d l n fun t v=>Yy t fun ts=>u ts v):zp_ d l n u:=h
theorem zsf{bits:Int}{bs:qB}{R:List af->Prop}(v:bits<=64)(B:Bks bits bs)(G:bs.Pairwise fun a b=>eB a<=b.1\/eB b<=a.1)(I:bs.length<64)
  (h:∀cs,Ptc bits cs->cs.Perm bs->R (pD cs)):Yy (.list (pD bs)) R:=by
 refine⟨by rw[Ju];exact I,fun x hx=>?_,fun u pm pw=>?_⟩
 ·obtain⟨b,J,rfl⟩:=ba.mp hx;have:=B b J;exact⟨b.1,b.2,rfl,this.1,by have:=this.2.1;lia⟩
 ·have L:u.Perm ((bs.map fun b=>(b,prD b)).map (·.2)):=by
   have:(bs.map fun b=>(b,prD b)).map (·.2)=pD bs:=by simp[pD]
   rw[this];exact pm
  obtain⟨zs,U,p2⟩:=Vs L;have Z:∀z∈zs,z.2=prD z.1:=fun z N=>by
   obtain⟨b,_,rfl⟩:=ba.mp (U.mem_iff.mp N)
   rfl
  have e:u=pD (zs.map (·.1)):=by
   rw[<- p2];unfold pD;rw[cB];exact ib fun z N=>Z z N
  have pc:(zs.map (·.1)).Perm bs:=by
   have:=U.map (·.1);rw[cB]at this;have e2:bs.map ((fun x:(Int×Int)×af=>x.1)∘fun b=>(b,prD b))=bs:=by
    show bs.map id=bs
    exact uG _
   rwa [e2]at this
  rw[e];have C:(zs.map (·.1)).Pairwise fun a b=>eB a<=b.1\/eB b<=a.1:=(pc.pairwise_iff (fun {a b} h=>h.symm)).mpr G
  have y:Bks bits (zs.map (·.1)):=fun b v=>B b (pc.mem_iff.mp v)
  rw[e]at pw;unfold pD at pw;rw[dF]at pw;refine h _ ⟨y,?_⟩ pc;have both:=wO C pw;refine fW ?_ both;rintro a b Y v ⟨h1,S⟩;have S:a.1*1000+a.2<=b.1*1000+b.2:=S;have a0:=(y a Y).1;have a1:=(y a Y).2.1;have b0:=(y b v).1;have b1:=(y b v).2.1;have:=UF a;have:=UF b;lia
theorem ztv{L:DTG}{tt:DTT}{d:DTE}{C:En}{J:List af->Nat->Prop}(Inv:Nat->List af->Nat->Prop):∀(xs:qD) (i:Nat) {v:qD}{n:Nat},Inv i v n ->
  (∀(k:Nat) (x:af) (v:qD) (n:Nat) (K:List af->Nat->Prop),xs[k]?=some x->Inv (i+k) v n->(∀y I,Inv (i+k+1) y I->K y I) ->
   L x C fun G=>tt G n fun b N=>if b=true then d G N fun t S=>v.length<16777216/\K (v++[t]) S else K v N) ->
  (∀v n,Inv (i+xs.length) v n->J v n)->JR L tt d C xs v n J
 | [],i,v,n,h0,_,fin=>fin v n (by simpa using h0)
 | x::xs,i,v,n,h0,turn,fin=>by
  refine turn 0 x v n (fun v n=>JR L tt d C xs v n J) rfl (by simpa using h0) fun y I h'=>?_
  refine ztv Inv xs (i+1) (by simpa using h') (fun k u v n K e R U=>?_) (fun v n h=>fin v n ?_)
  ·refine turn (k+1) u v n K (by simpa using e) ?_ fun y I h'=>U y I ?_
   ·have:i+(k+1)=i+1+k:=by lia
    rw[this];exact R
   ·have:i+1+k+1=i+(k+1)+1:=by lia
    rw[this];exact h'
  ·have:i+(x::xs).length=i+1+xs.length:=by simp;lia
   rw[this]at *;exact h
theorem zlW{I:DTG}{tt:DTT}{d:DTE}{v:En}{G:List af->Nat->Prop}{xs:qD}{n:Nat}(Inv:Nat->List af->Nat->Prop)(h0:Inv 0 [] n)
  (turn:∀(k:Nat) (x:af) (l:qD) (n:Nat) (K:List af->Nat->Prop),xs[k]?=some x->Inv k l n->(∀u J,Inv (k+1) u J->K u J) ->
   I x v fun y=>tt y n fun b C=>if b=true then d y C fun t N=>l.length<16777216/\K (l++[t]) N else K l C)
  (fin:∀l n,Inv xs.length l n->G l n):JR I tt d v xs [] n G :=
 ztv Inv xs 0 h0 (fun k x l n K e L R=>turn k x l n K e (by simpa using L) fun a m h=>R a m (by simpa using h)) fun l n h=>fin l n (by simpa using h)
theorem Ub{α:Type}{cs:List α}{D:α->af}{I:DTG}{tt:DTT}{d:DTE}{u:En}{n:Nat}{G:List af->Nat->Prop}(F:α->af)(J:cs.length<=16777216)
  (step:∀b∈cs,∀(K:qN) (X:Nat->Prop),K (F b) n->I (D b) u fun v=>tt v n fun c C=>if c=true then d v C K else X C) (fin:G (cs.map F) n):JR I tt d u (cs.map D) [] n G:=by
 refine zlW (fun j l m=>m=n/\l=(cs.take j).map F) ⟨rfl,rfl⟩ ?_ ?_
 ·rintro j x l m K y ⟨rfl,rfl⟩ hK;rw[aU]at y;cases eb:cs[j]? with
  | none=>rw[eb]at y;cases y
  | some b =>
   rw[eb]at y;cases y;obtain⟨L,N⟩:=aA.mp eb;refine step b (aV eb) _ _ ⟨?_,hK _ _ ⟨rfl,?_⟩⟩
   ·simp;lia
   ·rw[dz,eb];simp
 ·rintro l m ⟨rfl,rfl⟩;rw[aL,cN];exact fin
theorem zvG{bs:List Bool}{R:af->Prop}(h:R (.bool (bs.all id))):bAll [.list (bs.map cq)] R:=⟨bs,rfl,h⟩
theorem ZJ{α:Type}{cs:List α}{f:α->Bool}{R:af->Prop}(h:R (.bool (cs.all f))):bAll [.list (cs.map fun b=>cq (f b))] R:=by
 have e:(cs.map fun b=>cq (f b))=(cs.map f).map cq:=by simp
 rw[e];refine zvG ?_;have u:(cs.map f).all id=cs.all f:=by simp[List.all_map,iY]
 rw[u];exact h
theorem zpX{bs:qB}:dW (.list (pD bs)) (.list [])=bs.isEmpty:=by
 cases bs with
 | nil=>simp[pD,dW,gZ]
 | cons b l=>simp[pD,dW,gZ]
theorem Q0{many:Int}{n:Nat}{R:qN}(h0:0<many)(l:many<2 ^ 128)(u:n<=1000000000000)(h:∀r:Int,0<=r->r<many->R (.int r) (n+1)):UG [HAND,.int many] n R:=⟨rfl,h0,l,u,h⟩
theorem zjG{i h:Int}:JP (.tuple [.int i,.int h])=true:=by simp[JP,YG]
theorem Bks.app{bits i h:Int}{bs:qB}(B:Bks bits bs)(C:IsBk bits i h):Bks bits (bs++[(i,h)]):=fun b l=>by
 rcases aE.mp l with z|z
 ·exact B b z
 ·cases aC.mp z;exact C
section
variable{prog:aG}{w:aP}{A:bo}{E:qV}{s:au}
open HT in
theorem zcv{t C:ak}{items:Array ah}{G I:ah}{lo hi:Option Int}{Q:qV}(l:mn s.heap t items)(J:s.heap.IsSliceOf C G I .none)(pl:i9 G lo)(L:i9 I hi)
  (hw:HT.sIx items.size 0 lo=0/\HT.sIx items.size items.size hi=items.size) (h:Q (.ref t) s):wpAny (model prog w) A (getItem (.ref t) (.ref C)) Q E s:=by
 obtain⟨os,x,v,N⟩:=id J;have y:s.TypeIs (.ref C) "slice":=⟨os,x,v⟩;unfold getItem
 try with_reducible refine bz ?_
 first|refine aa (aj ?_)|skip
 refine aa (mI l.typeIs (by decide) ?_)
 refine aa (dE (name:=ae "__getitem__") l.typeIs bU
  (dO bU l.typeIs lM ?_ (l7 _ _)))
 show wpAny _ _ (iJ (.ref t) >>= _) _ _ s
 refine aa (tupleItemsOf_ l ?_);refine aa (fI y ?_);rw[if_pos (by decide)]
 refine aa (HT.zbQ J pl L ?_);have u:(((HT.sIx items.size 0 lo:Nat):Int) == 0&&(1:Int) == 1&&(HT.sIx items.size items.size hi - HT.sIx items.size 0 lo) == items.size)=true:=by
  rw[hw.1,hw.2];simp
 show wpAny _ _ (if (((HT.sIx items.size 0 lo:Nat):Int) == 0&&(1:Int) == 1&&(HT.sIx items.size items.size hi - HT.sIx items.size 0 lo) == items.size)=true then _ else _) _ _ s
 rw[if_pos u];unfold oQ;refine aa (aa (fI l.typeIs (aj ?_)));rw[if_pos (by decide)]
 exact aa (eI (aj ⟨_,rfl,aj h⟩))
end
section
variable{X:Cx}
def rSlW(K:qF):V->Option Int->Option Int->Hp->VK->Prop:=fun x lo hi H Q=>∃a xs,x=.ref a/\SqT K H a xs/\(HT.sIx xs.length 0 lo=0/\HT.sIx xs.length xs.length hi=xs.length)/\Q (.ref a) H
theorem zoE:SlR X (rSlW X.K):=by
 intro pins s σ H x v L R lo hi N Q I C J pl G h;obtain⟨a,xs,rfl,hx,hw,q⟩:=h;cases C;obtain⟨u,r,y,S⟩:=I.tuple hx;have l:u.toArray.size=xs.length:=by rw[ax];exact r.length.symm
 refine⟨"tuple",_,bU.lookup,y.typeIs,?_⟩;exact zcv y J pl G (by rw[l];exact hw) ⟨.ref a,H,I,rfl,q⟩
end
abbrev DTO:=En->Nat->(Option Int->Nat->Prop)->Prop
def DP(X:Cx)(e:Option aO)(d:DTO):Prop:=∃t,PO X e t/\∀(C:Ctx) (u:En) (σ:St) (H:Hp) (n:Nat) (Q:Option Int->Hp->Prop) (R:Option Int->Nat->Prop),Stt X.K C u σ H n->d u n R ->
 (∀o v l,R o v->ExtE C.hd H l->Hn C.hd l v->Q o l)->t σ H Q
def zh0:DTO:=fun l n R=>R none n
def zqa(d:DTE):DTO:=fun l n R=>d l n fun t u=>lInt t fun i=>R (some i) u
def cutD(ts:qD)(lo hi:Option Int):List af:=(ts.drop (HT.sIx ts.length 0 lo)).take (HT.sIx ts.length ts.length hi - HT.sIx ts.length 0 lo)
def lSl(t:af)(lo hi:Option Int)(R:List af->Prop):Prop:=match t with
 | .list ts=>R (cutD ts lo hi)
 | _=>False
def dSlL(d:DTE)(dl x:DTO):DTA:=fun l n R=>d l n fun t u=>dl l u fun lo y=>x l y fun hi v=>lSl t lo hi fun z=>R z v
section
variable{X:Cx}{e:aO}{d:DTE}{lo hi:Option aO}{dlo dhi:DTO}{pos p2:Pos}
theorem Yk:DP X none zh0:=⟨_,zoT,fun C u σ H n Q R S h l=>l none n H h ExtE.refl S.hnd⟩
theorem Yl(h:DE X e d):DP X (some e) (zqa d):=by
 obtain⟨N,pa,h⟩:=h;refine⟨_,zoS pa,fun C G σ H n Q R S hd y=>?_⟩
 refine h C G σ H n _ _ S hd fun t J v u l L x I=>?_
 cases t with
 | int i =>
  cases I;exact⟨i,rfl,y (some i) J u l L x⟩
 | _=>exact l.elim
theorem zjb{K:qF}{hd:Option ak}{O:ak->Prop}{H:Hp}{vs ts}(r:Reps K hd O H vs ts)(lo hi:Option Int):Reps K hd O H (cutV vs lo hi) (cutD ts lo hi):=by
 unfold cutV cutD;rw[r.length];exact(r.drop _).take _
theorem zjP{ts:qD}{lo hi:Option Int}(h:HT.sIx ts.length 0 lo=0/\HT.sIx ts.length ts.length hi=ts.length):cutD ts lo hi=ts:=by
 unfold cutD;rw[h.1,h.2];simp
theorem zfP(h:DL X e d)(L:DP X lo dlo)(I:DP X hi dhi):DN X (.Subscript e (.Slice lo hi none p2) pos) (dSlL d dlo dhi):=by
 obtain⟨ta,pa,h⟩:=h;obtain⟨tl,pl,L⟩:=L;obtain⟨tu,pu,I⟩:=I;refine⟨_,zis zoF pa pl pu,fun C J σ H n Q R S hd hq=>?_⟩
 refine h C J σ H n _ _ S hd fun t n1 v H1 r1 e1 h1 q1=>?_
 have S1:=S.on e1 h1;refine L C J σ H1 n1 _ _ S1 r1 fun lo n2 H2 r2 U h2=>?_
 have Z:=S1.on U h2;refine I C J σ H2 n2 _ _ Z r2 fun hi n3 H3 Y G N=>?_
 have S3:=Z.on G N;have q3:=(U.trans G).repT S.hx q1;cases t with
 | list ts =>
  obtain⟨a,vs,rfl,hs,rs⟩:=q3.lstI;refine⟨a,vs,rfl,.of hs,fun p x=>?_⟩
  have e:=e1.trans (U.trans G);refine hq _ n3 p _ _ Y (e.trans (ExtE.new x)) (N.same (JS x)) (Vc e N x) JM ?_;refine(zjb rs lo hi).mono (fun b o y z=>z.elim id fun z=>?_) fun b o _ y=>JS x b o y
  subst z;rw[x]at y;cases y
 | _=>exact Y.elim
end
structure NxS(prog:aG)(w:aP)(i a:ak)(IT:Nat->aN->Prop)(SQ:aN->Array ah->Prop):Prop where
 rcd:∀k h,IT k h->∃o,h.get? i=some o/\∀v,o.data≠.cell v
 keep:∀k h h',IT k h->(∀o,h.get? i=some o->h'.get? i=some o)->IT k h'
 sk:∀h h' xs,SQ h xs->(∀o,h.get? a=some o->h'.get? a=some o)->SQ h' xs
 item:∀(A:bo) (E:qV) (k:Nat) (xs:Array ah) (x:ah) (s:au) (Q:qV),IT k s.heap->SQ s.heap xs->xs[k]?=some x ->
  (∀h',IT (k+1) h'->dJ i s.heap h'->Q x { s with heap:=h' })->wpAny (model prog w) A (bg (.ref i)) Q E s
 done:∀(A:bo) (E:qV) (k:Nat) (xs:Array ah) (s:au) (Q:qV),A.handled=none->IT k s.heap->SQ s.heap xs->xs[k]?=none ->
  (∀h' e,uH i s.heap h'->(∃o,h'.get? e=some o/\o.cls=.type "StopIteration")->E (.ref e) { s with heap:=h' })->wpAny (model prog w) A (bg (.ref i)) Q E s
theorem zpi{prog:aG}{w:aP}{i a:ak}:NxS prog w i a (fun k h=>h.IsListIter i a k) (fun h xs=>h.IsList a xs) where
 rcd:=fun k h ⟨o,e,c,d⟩=>⟨o,e,fun v z=>by rw[d]at z;cases z⟩
 keep:=fun k h h' x f=>x.at f
 sk:=fun h h' xs x f=>x.at f
 item:=fun A E k xs x s Q l u y h=>wpAny_nextOf_list_item l u y h
 done:=fun A E k xs s Q C l u y h=>wpAny_nextOf_list_end C l u y h
section
variable{prog:aG}{w:aP}{A:bo}{E:qV}{s:au}
theorem zgA{i:ak}{T id:String}{Q:qV}{f:fH}(l:s.TypeIs (.ref i) T)(u:Slot T "__next__" id) (C:entryFor table id=some f) (x:argsOk id ⟨[.ref i],[]⟩)
  (h:wpAny (model prog w) A.in1 (f ⟨[.ref i],[]⟩) (fun fin s'=>∃v,fin=.done (.ret v)/\Q v s') E s):wpAny (model prog w) A (bg (.ref i)) Q E s:=by
 unfold bg;refine aa (dE (name:=ae "__next__") l u (dO u l C ?_ x));refine cE h (fun fin s' y=>?_) fun _ _ e=>e
 obtain⟨v,e,q⟩:=y;exact⟨v,e,aj q⟩
theorem zf0{i a:ak}{k:Nat}{xs:Array ah}{x:ah}{Q:qV}(v:s.heap.IsTupleIter i a k)(C:s.heap.IsTuple a xs)(G:xs[k]?=some x)
  (h:∀h',h'.IsTupleIter i a (k+1)->dJ i s.heap h'->Q x { s with heap:=h' }):wpAny (model prog w) A (bg (.ref i)) Q E s:=by
 refine zgA v.typeIs iL iu (hY _) ?_;obtain⟨o,u,I,l⟩:=v;obtain⟨p,f1,_,n,y⟩:=C;refine aa (m:=field (.ref i) 0) (cG u l (x:=.ref a) rfl ?_);have ne:¬((bT a == iC)=true):=fun z=>by cases z
 rw[if_neg ne];refine aa (m:=field (.ref i) 1) (cG u l (x:=.int k 0) rfl ?_);refine aa (m:=seqItems? (.ref a)) (cI f1 y ?_);simp only[dD,G];refine aa (oR u l (by simp) (aj ⟨x,rfl,h _ ?_ (lO ..)⟩))
 refine⟨_,fk _ u (Obj.isFreed_of_fields (mh l _)),?_,?_⟩
 ·rw[Obj.cls_mapFields];exact I
 ·rw[mh l];simp[rawInt]
theorem zf1{i a:ak}{k:Nat}{xs:Array ah}{Q:qV}(I:A.handled=none)(G:s.heap.IsTupleIter i a k)(L:s.heap.IsTuple a xs)(N:xs[k]?=none)
  (h:∀h' e,uH i s.heap h'->(∃o,h'.get? e=some o/\o.cls=.type "StopIteration")->E (.ref e) { s with heap:=h' }):wpAny (model prog w) A (bg (.ref i)) Q E s:=by
 refine zgA G.typeIs iL iu (hY _) ?_;obtain⟨o,C,R,l⟩:=G;obtain⟨p,f1,_,n,J⟩:=L;refine aa (m:=field (.ref i) 0) (cG C l (x:=.ref a) rfl ?_);have ne:¬((bT a == iC)=true):=fun z=>by cases z
 rw[if_neg ne];refine aa (m:=field (.ref i) 1) (cG C l (x:=.int k 0) rfl ?_);refine aa (m:=seqItems? (.ref a)) (cI f1 J ?_);simp only[dD,N];refine aa (eI (aa (oR C l (by simp) ?_)))
 refine aa (m:=newExc (.type "StopIteration") []) ?_;simp only[newExc,newTuple];refine aa (cF ?_ (by size_fits))
 refine aa (m:=firstArgMember _ _) (nM (a:=iC) (by first|rfl|(simp only[firstArgMember];rfl)) (cF ?_ (by size_fits)))
 simp only[raiseNew];refine aa (wpAny_handled ?_);have v:A.in1.handled=none:=I
 first|rw[v]|rw[I]
 exact aa (aj (wpAny_throw (h _ _ (((lO ..).extBut.push _).push _) ⟨_,ay _ rfl,rfl⟩)))
end
theorem Heap.IsTupleIter.at'{h h':aN}{i a:ak}{k:Nat}(x:h.IsTupleIter i a k)(f:∀o,h.get? i=some o->h'.get? i=some o):h'.IsTupleIter i a k:=by
 obtain⟨o,e,r⟩:=x;exact⟨o,f o e,r⟩
theorem Heap.IsTuple.at'{h h':aN}{a:ak}{xs:Array ah}(x:h.IsTuple a xs)(f:∀o,h.get? a=some o->h'.get? a=some o):h'.IsTuple a xs:=by
 obtain⟨o,e,r⟩:=x;exact⟨o,f o e,r⟩
theorem zrQ{prog:aG}{w:aP}{i a:ak}:NxS prog w i a (fun k h=>h.IsTupleIter i a k) (fun h xs=>h.IsTuple a xs) where
 rcd:=fun k h ⟨o,e,c,d⟩=>⟨o,e,fun v z=>by rw[d]at z;cases z⟩
 keep:=fun k h h' x f=>Heap.IsTupleIter.at' x f
 sk:=fun h h' xs x f=>Heap.IsTuple.at' x f
 item:=fun A E k xs x s Q l u y h=>zf0 l u y h
 done:=fun A E k xs s Q C l u y h=>zf1 C l u y h
structure ZAp(z TI TO i1 i2 a1 a2:ak):Prop where
 p:[z,TI,TO,i1,i2].Nodup
 q:∀a∈[a1,a2],a∉[z,TI,TO,i1,i2]
section
variable{prog:aG}{w:aP}{A:bo}{E:qV}{s:au}{z TI TO i1 i2 a1 a2:ak}{I1 I2:Nat->aN->Prop}{S1 S2:aN->Array ah->Prop}
structure ZSt(z TI TO i1 i2:ak)(I1 I2:Nat->aN->Prop)(f:ah)(k:Nat)(h:aN):Prop where
 zip:nN h z TI TO f
 ti:kK h TI (.ref i1) (.ref i2)
 to:∃a b,kK h TO a b
 it1:I1 k h
 it2:I2 k h
theorem zjY(D:ZAp z TI TO i1 i2 a1 a2):(z≠TI/\z≠TO/\z≠i1/\z≠i2/\TI≠TO/\TI≠i1/\TI≠i2/\TO≠i1/\TO≠i2/\i1≠i2)/\(a1≠z/\a1≠TO/\a1≠i1/\a1≠i2)/\(a2≠z/\a2≠TO/\a2≠i1/\a2≠i2):=by
 have l:=D.p;have x:=D.q;simp only[eh,aw,aK,or_false,not_or,List.nodup_nil,and_true,not_false_eq_true]at l;have v:=x a1 (by simp)
 have u:=x a2 (by simp)
 simp only[aw,aK,or_false,not_or]at v u;exact⟨⟨l.1.1,l.1.2.1,l.1.2.2.1,l.1.2.2.2,l.2.1.1,l.2.1.2.1,l.2.1.2.2,l.2.2.1.1,l.2.2.1.2,l.2.2.2⟩,⟨v.1,v.2.2.1,v.2.2.2.1,v.2.2.2.2⟩,⟨u.1,u.2.2.1,u.2.2.2.1,u.2.2.2.2⟩⟩
theorem z_item{k:Nat}{xs ys:Array ah}{x y:ah}{Q:qV}(D:ZAp z TI TO i1 i2 a1 a2)(N1:NxS prog w i1 a1 I1 S1)(N2:NxS prog w i2 a2 I2 S2)(st:ZSt z TI TO i1 i2 I1 I2 .none k s.heap)(s1:S1 s.heap xs)(s2:S2 s.heap ys)
  (hx:xs[k]?=some x) (hy:ys[k]?=some y)
  (hQ:∀h',ZSt z TI TO i1 i2 I1 I2 (rawInt s.heap.objs.size) (k+1) h'->kK h' s.heap.objs.size x y->h'.objs.size=s.heap.objs.size+1 ->
   (∀c o,c≠z->c≠TO->c≠i1->c≠i2->s.heap.get? c=some o->h'.get? c=some o)->Q (.ref s.heap.objs.size) { s with heap:=h' }) :
  wpAny (model prog w) A (fH.«zip.__next__» ⟨[.ref z],[]⟩) (fun fin s'=>∃v,fin=.done (.ret v)/\Q v s') E s:=by
 obtain⟨⟨d1,d2,d3,d4,d5,d6,d7,d8,d9,d10⟩,⟨e1,e2,e3,e4⟩,⟨g1,g2,g3,g4⟩⟩:=zjY D;obtain⟨zip,ti,⟨va,vb,to⟩,it1,it2⟩:=st;refine aa (m:=field (.ref z) 2) (cG zip rfl (x:=.bool false) rfl ?_);refine aa (m:=field (.ref z) 3) (cG zip rfl (x:=.ref TI) rfl (aa (cI ti rfl ?_)));refine aa (m:=cJ (.ref z)) ?_;unfold cJ
 refine aa (cG zip rfl (x:=.none) rfl (aj ?_));simp only[if_true];refine aa (eI (aa (cG zip rfl (x:=.ref TO) rfl (aa (dX zip (by simp) fun hA zA Y=>?_)))))
 have zA':nN hA z TI TO .ellipsis:=zA;refine aa ?_;simp only[ny,n9,hV,lC];refine aa (aa (g6 (aa (m:=bg (.ref i1)) ?_)));refine N1.item _ _ k xs x _ _ (N1.keep _ _ _ it1 fun o e=>Y.extBut _ _ d3.symm e) (N1.sk _ _ _ s1 fun o e=>Y.extBut _ _ e1 e) hx fun hB it1B bB=>aj ?_
 have S:kK hB TO va vb:=bB.extBut _ _ d8 (Y.extBut _ _ d2.symm to);refine aa (cI S rfl (aa (g9 S fun hC toC bC=>?_)))
 have toC':kK hC TO x vb:=toC;refine aa (gj (aj ?_));refine aa (aa (g6 (aa (m:=bg (.ref i2)) ?_)));have I:∀c o,c≠z->c≠TO->c≠i1->s.heap.get? c=some o->hC.get? c=some o:=fun c o C J Z e=>bC.extBut _ _ J (bB.extBut _ _ Z (Y.extBut _ _ C e))
 refine N2.item _ _ k ys y _ _ (N2.keep _ _ _ it2 fun o e=>I _ _ d4.symm d9.symm d10.symm e) (N2.sk _ _ _ s2 fun o e=>I _ _ g1 g2 g3 e) hy fun hD it2D bD=>aj ?_
 have toD:kK hD TO x vb:=bD.extBut _ _ d9 toC';refine aa (cI toD rfl (aa (g9 toD fun u toF L=>?_)))
 have G:kK u TO x y:=toF;refine aa (gj (aj (aj ?_)));refine aa (cI G rfl (aa (oN ?_)));have sz:u.objs.size=s.heap.objs.size:=by rw[L.1,bD.1,bC.1,bB.1,Y.1]
 have upF:∀c o,c≠z->c≠TO->c≠i1->c≠i2->s.heap.get? c=some o->u.get? c=some o:=fun c o C J Z c4 e=>L.extBut _ _ J (bD.extBut _ _ c4 (I c o C J Z e))
 have zF:nN u z TI TO .ellipsis:=L.extBut _ _ d2 (bD.extBut _ _ d4 (bC.extBut _ _ d2 (bB.extBut _ _ d3 zA')));have N:z<u.objs.size:=av zF;refine aa (m:=fS (.ref z) (.ref u.objs.size)) ?_;unfold fS;have zG:nN (u.push { cls:=.type "tuple",data:=.seq #[x,y] }) z TI TO .ellipsis:=aq _ zF
 refine aa (dX zG (by simp) fun hI zI bI=>?_)
 have zI':nN hI z TI TO (rawInt u.objs.size):=zI;refine dX zI' (by simp) fun hJ zJ bJ=>aj ⟨_,rfl,?_⟩
 have R:nN hJ z TI TO (rawInt u.objs.size):=zJ;have up:∀c o,c≠z->u.get? c=some o->hJ.get? c=some o:=fun c o C e=>bJ.extBut _ _ C (bI.extBut _ _ C (aq _ e))
 have pr:kK hJ u.objs.size x y:=bJ.extBut _ _ (kC N) (bI.extBut _ _ (kC N) (ay _ rfl));have U:hJ.objs.size=u.objs.size+1:=by rw[bJ.1,bI.1,dm]
 rw[sz]at R pr U;show Q (.ref u.objs.size) _
 rw[sz];refine hQ hJ ⟨R,up _ _ d1.symm (upF _ _ d1.symm d5 d6 d7 ti),⟨x,y,up _ _ d2.symm G⟩,?_,?_⟩ pr U fun c o C J Z c4 e=>up c o C (upF c o C J Z c4 e)
 ·exact N1.keep _ _ _ it1B fun o e=>up _ _ d3.symm (L.extBut _ _ d8.symm (bD.extBut _ _ d10 (bC.extBut _ _ d8.symm e)))
 ·exact N2.keep _ _ _ it2D fun o e=>up _ _ d4.symm (L.extBut _ _ d9.symm e)
theorem z_end{k:Nat}{xs ys:Array ah}{Q:PySem.Fin->au->Prop}(hh:A.handled=none)(D:ZAp z TI TO i1 i2 a1 a2)(Y:NxS prog w i1 a1 I1 S1)(Z:NxS prog w i2 a2 I2 S2)(st:ZSt z TI TO i1 i2 I1 I2 .none k s.heap)(s1:S1 s.heap xs)(s2:S2 s.heap ys)
  (hxy:xs[k]?=none\/ys[k]?=none)
  (hE:∀h' e,(∀c o,c≠z->c≠TO->c≠i1->c≠i2->s.heap.get? c=some o->h'.get? c=some o)->(∃o,h'.get? e=some o/\o.cls=.type "StopIteration")->E (.ref e) { s with heap:=h' }) :
  wpAny (model prog w) A (fH.«zip.__next__» ⟨[.ref z],[]⟩) Q E s:=by
 obtain⟨⟨d1,d2,d3,d4,d5,d6,d7,d8,d9,d10⟩,⟨e1,e2,e3,e4⟩,⟨g1,g2,g3,g4⟩⟩:=zjY D;obtain⟨zip,ti,⟨va,vb,to⟩,it1,it2⟩:=st;refine aa (m:=field (.ref z) 2) (cG zip rfl (x:=.bool false) rfl ?_);refine aa (m:=field (.ref z) 3) (cG zip rfl (x:=.ref TI) rfl (aa (cI ti rfl ?_)));refine aa (m:=cJ (.ref z)) ?_;unfold cJ
 refine aa (cG zip rfl (x:=.none) rfl (aj ?_));simp only[if_true];refine aa (eI (aa (cG zip rfl (x:=.ref TO) rfl (aa (dX zip (by simp) fun hA zA L=>?_)))))
 have U:nN hA z TI TO .ellipsis:=zA;refine aa ?_;simp only[ny,n9,hV,lC];refine aa (aa (g6 (aa (m:=bg (.ref i1)) ?_)));have S:=Y.keep _ _ _ it1 fun o e=>L.extBut _ _ d3.symm e
 have I:=Y.sk _ _ _ s1 fun o e=>L.extBut _ _ e1 e
 cases hx:xs[k]? with
 | none =>
  refine Y.done _ _ k xs _ _ hh S I hx fun hB e G ⟨oe,C,hc⟩=>?_
  have zB:nN hB z TI TO .ellipsis:=G _ _ d3 U;have ez:e≠z:=fun y=>by subst y;rw[zB]at C;cases C;simp at hc
  exact dX zB (by simp) fun hC _ R=>hE hC e (fun c o u _ N _ y=>R.extBut _ _ u (G _ _ N (L.extBut _ _ u y))) ⟨oe,R.extBut _ _ ez C,hc⟩
 | some x =>
  have hy:ys[k]?=none:=by rcases hxy with h|h;rw[hx]at h;cases h;exact h
  refine Y.item _ _ k xs x _ _ S I hx fun hB it1B G=>aj ?_
  have J:kK hB TO va vb:=G.extBut _ _ d8 (L.extBut _ _ d2.symm to);refine aa (cI J rfl (aa (g9 J fun hC toC R=>?_)))
  refine aa (gj (aj ?_));refine aa (aa (g6 (aa (m:=bg (.ref i2)) ?_)));have v:∀c o,c≠z->c≠TO->c≠i1->s.heap.get? c=some o->hC.get? c=some o:=fun c o u c2 N e=>R.extBut _ _ c2 (G.extBut _ _ N (L.extBut _ _ u e))
  refine Z.done _ _ k ys _ _ hh (Z.keep _ _ _ it2 fun o e=>v _ _ d4.symm d9.symm d10.symm e) (Z.sk _ _ _ s2 fun o e=>v _ _ g1 g2 g3 e) hy fun hD e bD ⟨oe,C,hc⟩=>?_
  have zD:nN hD z TI TO .ellipsis:=bD _ _ d4 (R.extBut _ _ d2 (G.extBut _ _ d3 U));have ez:e≠z:=fun y=>by subst y;rw[zD]at C;cases C;simp at hc
  exact dX zD (by simp) fun hF _ bF=>hE hF e (fun c o u c2 N c4 y=>bF.extBut _ _ u (bD _ _ c4 (v c o u c2 N y))) ⟨oe,bF.extBut _ _ ez C,hc⟩
theorem zqz{k:Nat}{xs ys:Array ah}{x y:ah}{Q:Option ah->au->Prop}(D:ZAp z TI TO i1 i2 a1 a2)(L:NxS prog w i1 a1 I1 S1)(v:NxS prog w i2 a2 I2 S2)(st:ZSt z TI TO i1 i2 I1 I2 .none k s.heap)(s1:S1 s.heap xs)(s2:S2 s.heap ys)
  (hx:xs[k]?=some x) (N:ys[k]?=some y)
  (J:∀h',ZSt z TI TO i1 i2 I1 I2 (rawInt s.heap.objs.size) (k+1) h'->kK h' s.heap.objs.size x y->h'.objs.size=s.heap.objs.size+1 ->
   (∀c o,c≠z->c≠TO->c≠i1->c≠i2->s.heap.get? c=some o->h'.get? c=some o)->Q (some (.ref s.heap.objs.size)) { s with heap:=h' }) :
  wpAny (model prog w) A (pyNext (.ref z)) Q E s:=by
 have l:s.TypeIs (.ref z) "zip":=⟨_,st.zip,rfl⟩;unfold pyNext;exact aa (gW (dE (name:=ae "__next__") l hZ (dO hZ l nA
  (z_item D L v st s1 s2 hx N fun h' C I u G=>aj (J h' C I u G)) (mV _))))
theorem zqy{k:Nat}{xs ys:Array ah}{Q:Option ah->au->Prop}(I:A.handled=none)(D:ZAp z TI TO i1 i2 a1 a2)(G:NxS prog w i1 a1 I1 S1)(v:NxS prog w i2 a2 I2 S2)(st:ZSt z TI TO i1 i2 I1 I2 .none k s.heap)(s1:S1 s.heap xs)(s2:S2 s.heap ys)
  (l:xs[k]?=none\/ys[k]?=none) (C:∀h',(∀c o,c≠z->c≠TO->c≠i1->c≠i2->s.heap.get? c=some o->h'.get? c=some o)->Q none { s with heap:=h' }):wpAny (model prog w) A (pyNext (.ref z)) Q E s:=by
 have u:s.TypeIs (.ref z) "zip":=⟨_,st.zip,rfl⟩;unfold pyNext;refine aa (gW (dE (name:=ae "__next__") u hZ (dO hZ u nA
  (z_end I D G v st s1 s2 l fun h' e y ⟨o,x,hc⟩=>?_) (mV _))))
 exact aa (wpAny_isInstance (T:="StopIteration") (b:=true) ⟨o,x,hc⟩ isSubtype_stop (aj (C _ y)))
end
def SqB(t:Bool)(K:qF)(H:Hp)(a:ak)(xs:List V):Prop:=match t with|true=>SqT K H a xs|false=>SqL K H a xs
def ITB(t:Bool)(i a:ak):Nat->aN->Prop:=match t with|true=>fun k h=>h.IsTupleIter i a k|false=>fun k h=>h.IsListIter i a k
def SQB(t:Bool)(a:ak):aN->Array ah->Prop:=match t with|true=>fun h xs=>h.IsTuple a xs|false=>fun h xs=>h.IsList a xs
def itN(t:Bool):String:=match t with|true=>"tuple_iterator" | false=>"list_iterator"
theorem nx_B{prog:aG}{w:aP}{i a:ak}(t:Bool):NxS prog w i a (ITB t i a) (SQB t a):=by
 cases t
 ·exact zpi
 ·exact zrQ
section
variable{X:Cx}{pins:qO}{σ:St}{H:Hp}{s:au}
theorem Inv.seqB{t:Bool}{a:ak}{xs:List V}(I:Inv X pins σ H s)(h:SqB t X.K H a xs):∃l:List ah,Vals xs l/\SQB t a s.heap l.toArray/\xs.length<=sizeLine:=by
 cases t
 ·obtain⟨l,r,p,z⟩:=I.list h;exact⟨l,r,p.isList,z⟩
 ·obtain⟨l,r,p,z⟩:=I.tuple h;exact⟨l,r,p,z⟩
theorem Inv.injB{t:Bool}{a:ak}{xs ys:List V}(I:Inv X pins σ H s)(h:SqB t X.K H a xs)(h':SqB t X.K H a ys):xs=ys:=by
 cases t
 ·exact I.list_inj h h'
 ·exact I.tuple_inj h h'
theorem Inv.turnedL{h':aN}{t':Nat}(ch:List ak)(I:Inv X pins σ H s)(k:∀b o,b∉ch->s.heap.get? b=some o->h'.get? b=some o)(f:∀b∈ch,FpOk X pins H b):Inv X pins σ H { s with heap:=h',toks:=t' }:=by
 have l:∀b u,H b=some u->b∉ch:=fun b u e z=>by rw[(f b z).1]at e;cases e
 refine I.step (g':=s.gens) (d':=s.drawn) (ch:=ch) (fun b x=>⟨(f b x).2.2.2.1,(f b x).2.1,(f b x).2.2.2.2.1,(f b x).2.2.2.2.2⟩) (fun b o _ _ hc e _=>k b o hc e) (fun b o _ _ hc e _=>⟨o.slots,k b o hc e⟩) (fun _ _ _ _ n=>n) (fun b o hc e=>⟨o,k b o hc e⟩) (fun _ _ e=>e) (fun _ _ _ e=>e)
  (fun _ _ e=>e) (fun m ⟨o,J,G,C,r⟩=>⟨o,J,G,k _ o (fun z=>(f _ z).2.1 rfl) C,r⟩) (fun b u e=>(I.hok b u e).stay (fun c v hc q=>k c v ?_ q) (fun _ q=>q) (fun _ _ q=>q) fun _ _ _ q=>q) I.bare
 rcases hc with z|z
 ·rw[z];exact l b u e
 ·exact l c _ z
end
section
variable{prog:aG}{w:aP}{A:bo}{E:qV}{s:au}
theorem zsB{t:Bool}{a:ak}{xs:Array ah}{Q:qV}(h:SQB t a s.heap xs)(u:Q (.ref s.heap.objs.size) { s with heap:=s.heap.push { cls:=.type (itN t),data:=.fields #[.ref a,.int 0 0] } }):wpAny (model prog w) A (pyIter (.ref a)) Q E s:=by
 cases t
 ·exact fq h u
 ·exact iE h u
theorem SQB.push{t:Bool}{a:ak}{xs:Array ah}{h:aN}(x:SQB t a h xs)(o:Obj):SQB t a (h.push o) xs:=by
 cases t
 ·exact xK x o
 ·exact wR x o
abbrev zA(h:aN)(t:Bool)(a:ak):aN:=h.push { cls:=.type (itN t),data:=.fields #[.ref a,.int 0 0] }
abbrev zB(h:aN)(t u:Bool)(a b:ak):aN:=(zA h t a).push { cls:=.type (itN u),data:=.fields #[.ref b,.int 0 0] }
abbrev zC(h:aN)(t u:Bool)(a b:ak):aN:=(zB h t u a b).push { cls:=.type "tuple",data:=.seq #[.ref h.objs.size,.ref (zA h t a).objs.size] }
abbrev zD(h:aN)(t u:Bool)(a b:ak):aN:=(zC h t u a b).push { cls:=.type "tuple",data:=.seq #[.none,.none] }
abbrev zE(h:aN)(t u:Bool)(a b:ak):aN:=(zD h t u a b).push { cls:=.type "zip",data:=.fields #[.none,.bool false,.bool false,.ref (zB h t u a b).objs.size,.ref (zC h t u a b).objs.size] }
theorem zm9(t u:Bool)(a b:ak)(xs ys:Array ah) :
  Meets (fH.«zip.__new__» ⟨[.type "zip",.ref a,.ref b],[]⟩) (fun _ R s=>SQB t a s.heap xs/\SQB u b s.heap ys/\R (.ok (.ret (.ref (zD s.heap t u a b).objs.size))) { s with heap:=zE s.heap t u a b }) :=
 .of_wp fun prog w A R s h=>by
  obtain⟨v,g,d,tk,os⟩:=s;obtain⟨C,G,h⟩:=h;have x:=sub_zip;have I:SQB t a (uI ⟨v,g,d,tk,os⟩) xs:=C;have L2:SQB u b (uI ⟨v.push { cls:=.type (itN t),data:=.fields #[.ref a,.int 0 0] },g,d,tk,os⟩) ys:=SQB.push G _
  wp_walk using zsB I,zsB L2
  exact⟨_,rfl,h⟩
theorem ITB.new{t:Bool}{i a:ak}{h:aN}(e:h.get? i=some { cls:=.type (itN t),data:=.fields #[.ref a,.int 0 0] }):ITB t i a 0 h:=by
 cases t
 ·exact⟨_,e,rfl,rfl⟩
 ·exact⟨_,e,rfl,rfl⟩
theorem zqh{t u:Bool}{a b:ak}{xs ys:Array ah}{Q:qV}(L:SQB t a s.heap xs)(N:SQB u b s.heap ys)
  (h:∀h',ZSt (s.heap.objs.size+4) (s.heap.objs.size+2) (s.heap.objs.size+3) s.heap.objs.size (s.heap.objs.size+1) (ITB t s.heap.objs.size a) (ITB u (s.heap.objs.size+1) b) .none 0 h'->h'.objs.size=s.heap.objs.size+5 ->
   (∀c o,s.heap.get? c=some o->h'.get? c=some o)->Q (.ref (s.heap.objs.size+4)) { s with heap:=h' }) :
  wpAny (model prog w) A (call (.type "zip") [.ref a,.ref b]) Q E s:=by
 refine callType_new F.called_zip (by decide) (F.typeCall_zip_2 _ _) (F.newCall_zip_2 _ _) (fun obj=>F.args_object_init_3 obj _ _) F.entry_zip_new (zm9 t u a b xs ys) ⟨L,N,?_⟩
 have I:(zA s.heap t a).objs.size=s.heap.objs.size+1:=dm ..;have l:(zB s.heap t u a b).objs.size=s.heap.objs.size+2:=by rw[dm,I]
 have v:(zC s.heap t u a b).objs.size=s.heap.objs.size+3:=by rw[dm,l]
 have G:(zD s.heap t u a b).objs.size=s.heap.objs.size+4:=by rw[dm,v]
 have R:(zE s.heap t u a b).objs.size=s.heap.objs.size+5:=by rw[dm,G]
 have C:(zE s.heap t u a b).get? (zD s.heap t u a b).objs.size=some _:=ay _ rfl;have J:(zE s.heap t u a b).get? (zC s.heap t u a b).objs.size=some _:=aq _ (ay _ rfl);have g3:(zE s.heap t u a b).get? (zB s.heap t u a b).objs.size=some _:=aq _ (aq _ (ay _ rfl));have g2:(zE s.heap t u a b).get? (zA s.heap t a).objs.size=some _:=aq _ (aq _ (aq _ (ay _ rfl)))
 have g1:(zE s.heap t u a b).get? s.heap.objs.size=some _:=aq _ (aq _ (aq _ (aq _ (ay _ rfl))));show _/\_
 rw[l,v,G]at C;rw[I,l]at g3;rw[v]at J;rw[I]at g2;rw[G];refine⟨⟨_,C,rfl⟩,h _ ⟨C,g3,⟨_,_,J⟩,.new g1,.new g2⟩ R fun c o x=>?_⟩
 iterate 5 refine aq _ ?_
 exact x
end
def Itz(t u:Bool)(K:qF)(a b:ak):It :=
 ⟨fun i H=>∃xs ys x y,SqB t K H a xs/\SqB u K H b ys/\xs[i]?=some x/\ys[i]?=some y,
  fun i H v l=>∃p x y,H p=none/\v=.ref p/\(∀xs,SqB t K H a xs->xs[i]?=some x)/\(∀ys,SqB u K H b ys->ys[i]?=some y)/\l=upd H p (.tup [x,y]),
  fun i H=>∃xs ys,SqB t K H a xs/\SqB u K H b ys/\(xs.length<=i\/ys.length<=i)⟩
theorem zmz{P:aG}{w:aP}{K:qF}{elts:List aO}{x1:_}{pos:Pos}{t u:Bool}{z TI TO G C a b:ak}(D:ZAp z TI TO G C a b) :
  Turn P w K (.Tuple elts x1 pos) (Itz t u K a b) [z,TI,TO,G,C] z (fun i h=>ZSt z TI TO G C (ITB t G a) (ITB u C b) .none i h) where
 mem:=by simp
 obj:=fun i h st c hc=>by
  obtain⟨S,ti,⟨Y,U,to⟩,L,J⟩:=st;simp only[aw,aK,or_false]at hc;rcases hc with rfl|rfl|rfl|rfl|rfl
  ·exact⟨_,S,fun v y=>by cases y⟩
  ·exact⟨_,ti,fun v y=>by cases y⟩
  ·exact⟨_,to,fun v y=>by cases y⟩
  ·exact(nx_B (prog:=P) (w:=w) t).rcd _ _ L
  ·exact(nx_B (prog:=P) (w:=w) u).rcd _ _ J
 keep:=fun i h h' st k=>by
  obtain⟨S,ti,⟨Y,U,to⟩,L,J⟩:=st;exact⟨k _ (by simp) _ S,k _ (by simp) _ ti,⟨Y,U,k _ (by simp) _ to⟩,(nx_B (prog:=P) (w:=w) t).keep _ _ _ L (k _ (by simp)),(nx_B (prog:=P) (w:=w) u).keep _ _ _ J (k _ (by simp))⟩
 item:=by
  intro X hP hw hK hc i pins s σ H E I hf st hg;subst hP hw hK;obtain⟨xs,ys,x,y,q1,q2,hx,hy⟩:=hg;obtain⟨its,r1,p1,z1⟩:=I.seqB q1;obtain⟨jts,r2,p2,z2⟩:=I.seqB q2;obtain⟨N,hux,rux⟩:=r1.get hx;obtain⟨R,huy,ruy⟩:=r2.get hy;refine zqz D (nx_B t) (nx_B u) st p1 p2 (x:=N) (y:=R) (by simpa using hux) (by simpa using huy) fun h' Z pr sz kp=>?_
  refine⟨_,rfl,?_⟩;refine wpAny_letOwnedTupleGo_zip (s:={ s with heap:=h' }) Z.zip fun h2 z2' sb=>?_
  obtain⟨⟨d1,d2,d3,d4,d5,d6,d7,d8,d9,d10⟩,_,_⟩:=zjY D;have big:∀c∈[z,TI,TO,G,C],c<s.heap.objs.size:=fun c hc=>by
   obtain⟨S,ti,⟨Y,U,to⟩,L,J⟩:=st;simp only[aw,aK,or_false]at hc;rcases hc with rfl|rfl|rfl|rfl|rfl
   ·exact av S
   ·exact av ti
   ·exact av to
   ·obtain⟨o,e,_⟩:=(nx_B (prog:=X.prog) (w:=X.w) t).rcd _ _ L;exact av e
   ·obtain⟨o,e,_⟩:=(nx_B (prog:=X.prog) (w:=X.w) u).rcd _ _ J;exact av e
  have hp:H s.heap.objs.size=none:=I.hok.fresh (az _);have I1:Inv X pins σ (upd H s.heap.objs.size (.tup [x,y])) { s with heap:=s.heap.push { cls:=.type "tuple",data:=.seq #[N,R] } } :=
   I.laid (t':=s.toks) (fun b o e=>aq _ e) (az _) (show JL X.prog X.w _ _ _ (.tup [x,y]) from⟨by show 2<=sizeLine;decide,[N,R],.cons rux (.cons ruy .nil),IsTD.new _ _⟩)
  have npos:∀c∈[z,TI,TO,G,C],c≠s.heap.objs.size:=fun c hc=>aD (big c hc)
  have fu:∀c∈[z,TI,TO,G,C],upd H s.heap.objs.size (.tup [x,y]) c=none:=fun c hc=>by rw[Jn (npos c hc)];exact(hf c hc).1
  refine⟨.ref s.heap.objs.size,upd H s.heap.objs.size (.tup [x,y]),?_,rfl,⟨_,x,y,hp,rfl,fun xs' h=>by rw[I.injB h q1];exact hx,fun ys' h=>by rw[I.injB h q2];exact hy,rfl⟩,?_,fu⟩
  ·refine Inv.turnedL (s:={ s with heap:=s.heap.push { cls:=.type "tuple",data:=.seq #[N,R] } }) (t':=s.toks) [z,TO,G,C] I1 (fun c o hc e=>?_) fun c hc=>?_
   ·simp only[aw,aK,or_false,not_or]at hc;refine sb.extBut _ _ hc.1 ?_
    by_cases y:c=s.heap.objs.size
    ·subst y;have e':(s.heap.push { cls:=.type "tuple",data:=.seq #[N,R] }).get? s.heap.objs.size=some _:=ay _ rfl;have e2:some o=some _:=e.symm.trans e';cases e2;exact pr
    ·have e':s.heap.get? c=some o:=by
      have e3:(s.heap.push { cls:=.type "tuple",data:=.seq #[N,R] }).get? c=some o:=e
      rwa [b5 _ _ _ y]at e3
     exact kp c o hc.1 hc.2.1 hc.2.2.1 hc.2.2.2 e'
   ·have m:c∈[z,TI,TO,G,C]:=by simp only[aw,aK,or_false]at hc ⊢;rcases hc with h|h|h|h <;> simp[h]
    exact⟨fu c m,(hf c m).2⟩
  ·obtain⟨S,ti,⟨Y,U,to⟩,L,J⟩:=Z;exact⟨z2',sb.extBut _ _ d1.symm ti,⟨Y,U,sb.extBut _ _ d2.symm to⟩,(nx_B (prog:=X.prog) (w:=X.w) t).keep _ _ _ L fun o e=>sb.extBut _ _ d3.symm e,(nx_B (prog:=X.prog) (w:=X.w) u).keep _ _ _ J fun o e=>sb.extBut _ _ d4.symm e⟩
 done:=by
  intro X hP hw hK hc i pins s σ H E I hf st hg;subst hP hw hK;obtain⟨xs,ys,q1,q2,hx⟩:=hg;obtain⟨its,r1,p1,z1⟩:=I.seqB q1;obtain⟨jts,r2,p2,z2⟩:=I.seqB q2;have l1:=r1.length;have l2:=r2.length;refine zqy (I.ok.hd hc) D (nx_B t) (nx_B u) st p1 p2 (by rcases hx with h|h;exact .inl (by simp;omega);exact .inr (by simp;omega)) fun h' kp=>⟨rfl,?_⟩
  refine Inv.turnedL (t':=s.toks) [z,TO,G,C] I (fun c o hc e=>?_) fun c hc=>hf c ?_
  ·simp only[aw,aK,or_false,not_or]at hc;exact kp c o hc.1 hc.2.1 hc.2.2.1 hc.2.2.2 e
  ·simp only[aw,aK,or_false]at hc ⊢;rcases hc with h|h|h|h <;> simp[h]
 self:=fun _ _ _ _ _ st h=>nB st.zip h
section
variable{X:Cx}{a b:aO}{elts:List aO}{x1:Nat}{p p' pos:Pos}
def iZip(K:qF)(v:TA):TI:=fun σ H R=>v σ H fun x l=>∃(t u:Bool) (c d:ak) (xs ys:List V),x=[.ref c,.ref d]/\SqB t K l c xs/\SqB u K l d ys/\R (Itz t u K c d) l
theorem SQB.lt{t:Bool}{c:ak}{xs:Array ah}{h:aN}(x:SQB t c h xs):c<h.objs.size:=by
 cases t
 ·obtain⟨o,e,_⟩:=x;exact av e
 ·obtain⟨o,e,_⟩:=x;exact av e
theorem zoy{n:Nat}{c d:ak}(v:c<n)(x:d<n):ZAp (n+4) (n+2) (n+3) n (n+1) c d:=by
 have ne:∀(e:ak) (k:Nat),e<n->e≠n+k:=fun e k h=>aD (aB h (fL _ _))
 refine⟨by simp,fun e u=>?_⟩
 have l:e<n:=by
  simp only[aw,aK,or_false]at u;rcases u with rfl|rfl
  ·exact v
  ·exact x
 simp only[aw,aK,or_false,not_or];exact⟨ne e 4 l,ne e 2 l,ne e 3 l,aD l,ne e 1 l⟩
theorem zrk{L:TA}(hg:Gl X "zip") (hm:X.mg "zip" = none) (ha:PA X [a,b] L) (hs:starEach [a,b] X.env=[(false,eval a X.env),(false,eval b X.env)]) (x:starEach [b] X.env=[(false,eval b X.env)]) :
  PI X (.Tuple elts x1 p') (.Call (.Name "zip" p) [a,b] [] pos) (iZip X.K L):=by
 intro pins s σ H R I h;refine Call_ (YN I hg hm boot_zip (ft (thn (ha pos pins s σ H _ I h) fun us s1 ⟨vs,H1,v,r1,q1⟩=>?_) (by rw[hs,x]) (by rw[x];rfl)))
 obtain⟨t,u,c,d,xs,ys,rfl,J,y,q⟩:=q1;cases r1 with
 | cons r G =>
  cases G with
  | cons r' G =>
   cases G;cases r;cases r';obtain⟨Y,_,S,_⟩:=v.seqB J;obtain⟨Z,_,p2,_⟩:=v.seqB y;refine zqh S p2 fun h' st sz kp=>?_
   refine nB (s:={ s1 with heap:=h' }) st.zip ?_
   refine⟨_,_,_,_,H1,rfl,v.kept (t':=s1.toks) kp,zmz (zoy S.lt p2.lt),st,fun e U=>?_,q⟩
   have ge:s1.heap.objs.size<=e:=by
    simp only[aw,aK,or_false]at U;rcases U with rfl|rfl|rfl|rfl|rfl
    ·exact fL _ _
    ·exact fL _ _
    ·exact fL _ _
    ·exact az _
    ·exact fL _ _
   exact v.fpOk ge (v.hok.fresh ge)
theorem srcB{K:qF}{hd:Option ak}{P O:ak->Prop}{H:Hp}{v:V}{t:af}{ts:qD}(L:∀a,¬O a->P a)(r:Rep K hd O H v t)(h:t=.tuple ts\/t=.list ts) :
  ∃(k:Bool) (q:ak) (x:List V),v=.ref q/\SqB k K H q x/\∀(C:ak->Prop) (y:Hp),(∀a o,H a=some o->P a->y a=some o)->(∀a o,H a=some o->¬O a->¬C a)->SqB k K y q x/\Reps K hd C y x ts:=by
 have R:∀x,Reps K hd O H x ts->∀(C:ak->Prop) (y:Hp),(∀a o,H a=some o->P a->y a=some o)->(∀a o,H a=some o->¬O a->¬C a)->Reps K hd C y x ts:=fun x r C y G I =>
  r.mono (fun a o N z=>fO fun no=>I a o N no z) fun a o no N=>G a o N (L a no)
 rcases h with rfl|rfl
 ·cases r with
  | @tup q x ds h o r=>exact⟨true,q,x,rfl,.inl (.inl h),fun C y G I=>⟨.inl (.inl (G q _ h (L q o))),R x r C y G I⟩⟩
  | @tupS q x ds h r=>exact⟨true,q,x,rfl,h.sq,fun C y G I=>⟨h.sq,R x r C y G I⟩⟩
 ·obtain⟨q,x,rfl,J,no,r⟩:=r.lstI;exact⟨false,q,x,rfl,SqL.of J,fun C y G I=>⟨SqL.of (G q _ J (L q no)),R x r C y G I⟩⟩
def zipD(xs ys:qD):List af:=(xs.zip ys).map fun q=>.tuple [q.1,q.2]
def dZip(v db:DTE):DTA:=fun l n R=>v l n fun x u=>db l u fun y C=>JW x fun xs=>JW y fun ys=>R (zipD xs ys) C
theorem ziS{t:af}{R:List af->Prop}(h:JW t R):∃ts,(t=.tuple ts\/t=.list ts)/\R ts:=by
 cases t with
 | list ts=>exact⟨ts,.inr rfl,h⟩
 | tuple ts=>exact⟨ts,.inl rfl,h⟩
 | _=>exact h.elim
theorem ztk{da db:DTE}(hm:X.mg "zip" = none) (h:DE X a da) (h':DE X b db) (hg:Gl X "zip":=by rfl) (hs:starEach [a,b] X.env=[(false,eval a X.env),(false,eval b X.env)]:=by rfl) (G:starEach [b] X.env=[(false,eval b X.env)]:=by rfl) :
  DI X (.Tuple elts x1 p') (.Call (.Name "zip" p) [a,b] [] pos) (dZip da db):=by
 obtain⟨ta,pa,h⟩:=h;obtain⟨tb,pb,h'⟩:=h';refine⟨_,zrk hg hm (QH pa (QH pb Uo G) (by rw[hs,G])) hs G,fun C ρ σ H n Q R S hd hq=>?_⟩
 refine h C ρ σ H n _ _ S hd fun x n1 v H1 r1 e1 hn1 q1=>?_
 have S1:=S.on e1 hn1;refine h' C ρ σ H1 n1 _ _ S1 r1 fun y n2 w H2 Y e2 hn2 q2=>?_
 have q1':=e2.rep S.hx q1;obtain⟨xs,hx,Y⟩:=ziS Y;obtain⟨ys,hy,Y⟩:=ziS Y;obtain⟨k1,c,vs,rfl,s1,f1⟩:=srcB (P:=fun a=>¬Own C ρ σ a) (fun _ z=>z) q1' hx
 obtain⟨k2,d,ws,rfl,s2,f2⟩:=srcB (P:=fun a=>¬Own C ρ σ a) (fun _ z=>z) q2 hy
 refine⟨k1,k2,c,d,vs,ws,rfl,s1,s2,hq _ n2 _ H2 Y (e1.trans e2) hn2 ?_⟩;intro O2 H3 h1 h2 h3;obtain⟨g1,Z⟩:=f1 O2 H3 h1 h2;obtain⟨g2,L⟩:=f2 O2 H3 h1 h2;refine⟨fun i t I=>?_,?_⟩
 ·unfold zipD at I;rw[aU]at I;cases ez:(xs.zip ys)[i]? with
  | none=>rw[ez]at I;cases I
  | some q =>
   rw[ez]at I;cases I;obtain⟨ex,ey⟩:=iS.mp ez;obtain⟨vx,J,rx⟩:=Z.get ex;obtain⟨vy,U,ry⟩:=L.get ey;refine⟨⟨vs,ws,vx,vy,g1,g2,J,U⟩,fun v H4 hyd=>?_⟩
   obtain⟨pp,x',y',hp,rfl,hx',hy',rfl⟩:=hyd;have e1:x'=vx:=aJ ((hx' vs g1).symm.trans J);have e2:y'=vy:=aJ ((hy' ws g2).symm.trans U);subst e1 e2;exact⟨JS hp,.newT (fun z=>h3 pp z hp) hp (.cons rx (.cons ry .nil))⟩
 ·refine⟨vs,ws,g1,g2,?_⟩;have:=Z.length;have:=L.length;unfold zipD;simp only[aL,kS];omega
end
section
variable{d da db:DTE}{dlo dhi:DTO}{ρ:En}{n:Nat}{R:qN}{Ro:Option Int->Nat->Prop}{Rl:List af->Nat->Prop}{xs ys:qD}{lo hi:Option Int}{Q:af->Prop}{Ql:List af->Prop}
theorem zsR(h:d ρ n fun t l=>dlo ρ l fun lo v=>dhi ρ v fun hi u=>lSl t lo hi fun z=>Rl z u):dSlL d dlo dhi ρ n Rl:=h
theorem zlo(h:Ro none n):zh0 ρ n Ro:=h
theorem zpK(h:d ρ n fun t l=>lInt t fun i=>Ro (some i) l):zqa d ρ n Ro:=h
theorem zvf(h:Ql (cutD xs lo hi)):lSl (.list xs) lo hi Ql:=h
theorem zsN(h:da ρ n fun x l=>db ρ l fun y u=>JW x fun xs=>JW y fun ys=>Rl (zipD xs ys) u):dZip da db ρ n Rl:=h
end
class Stp (P:Prop)(Q:outParam Prop):Prop where
 go:Q->P
section
variable{t u tb:DTS}{D:JO}{ρ ρ0:En}{n i j m:Nat}{d da db dc d1 d2:DTE}{ds di:DTA}{c c' tt:DTT}{g:G2}{g':G2}{gc:GC}{gd:GD}{tg:DTG}{tgs:DTGs}{R:qN}{Rb:Bool->Nat->Prop}{Rl:List af->Nat->Prop}{Re:En->Prop}{x y:af}{xs ys acc:qD}{f:Int->Int->Int}{fb:af->Bool}{k:Bool}{capt:List Nat}
instance ztU :Stp (sSeq t u D ρ n) ((t { D with nx:=u D } ρ n)):=⟨fun h=>zsE h⟩
instance zqU :Stp (Zr D ρ n) ((D.nx ρ n)):=⟨fun h=>zpF h⟩
instance ztV :Stp (sRet d D ρ n) ((d ρ n fun t n'=>D.rt t n')):=⟨fun h=>zsF h⟩
instance zuT :Stp (sIf c t u D ρ n) ((c ρ n fun b n1=>if b=true then t D ρ n1 else u D ρ n1)):=⟨fun h=>zvA h⟩
instance ztX :Stp (sAsg d tg D ρ n) ((d ρ n fun t n'=>tg t ρ fun ρ'=>D.nx ρ' n')):=⟨fun h=>zsI h⟩
instance ztW :Stp (sFor di tg tb D ρ n) ((di ρ n fun ts n1=>forP tg tb D ts ρ n1)):=⟨fun h=>zsH h⟩
instance zv2 :Stp (dC x ρ n R) ((R x n)):=⟨fun h=>i_dC h⟩
instance zuV :Stp (dOp g da db ρ n R) ((da ρ n fun x n1=>db ρ n1 fun y n2=>g x y fun z=>R z n2)):=⟨fun h=>zvE h⟩
instance zt8 :Stp (dNew ds ρ n R) ((ds ρ n fun ts n'=>R (.list ts) n')):=⟨fun h=>zsV h⟩
instance zt2 :Stp (dTup ds ρ n R) ((ds ρ n fun ts n1=>R (.tuple ts) n1)):=⟨fun h=>zsP h⟩
instance zt7 :Stp (dNil ρ n Rl) ((Rl [] n)):=⟨fun h=>zsU h⟩
instance zq0 :Stp (Qa d ds ρ n Rl) ((d ρ n fun t n1=>ds ρ n1 fun ts n2=>Rl (t::ts) n2)):=⟨fun h=>zpM h⟩
instance zuW :Stp (dFn gd ds ρ n R) ((ds ρ n fun ts n1=>gd ts n1 R)):=⟨fun h=>zvF h⟩
instance zuc :Stp (dFnL gd ds ρ n R) ((ds ρ n fun ts n1=>gd ts n1 fun t n2=>JP t=true/\R t n2)):=⟨fun h=>zs0 h⟩
instance zqx :Stp (YR gc ds ρ n R) ((ds ρ n fun ts n1=>gc ts fun z=>R z n1)):=⟨fun h=>znI h⟩
instance ztZ :Stp (isiD fb d ρ n R) ((d ρ n fun t n1=>lIsi fb t fun z=>R z n1)):=⟨fun h=>zsM h⟩
instance zue :Stp (dAnd c c' ρ n Rb) ((c ρ n fun b n1=>if b=true then c' ρ n1 Rb else Rb false n1)):=⟨fun h=>zs2 h⟩
instance zuU :Stp (dOr c c' ρ n Rb) ((c ρ n fun b n1=>if b=true then Rb true n1 else c' ρ n1 Rb)):=⟨fun h=>zvD h⟩
instance zt6 :Stp (dNot c ρ n Rb) ((c ρ n fun b n1=>Rb (!b) n1)):=⟨fun h=>zsT h⟩
instance zq1 :Stp (zqd da db ρ n R) ((da ρ n fun t n1=>bolD t fun b=>if b=true then db ρ n1 R else R (.bool false) n1)):=⟨fun h=>zpO h⟩
instance zt5 :Stp (dOrV da db ρ n R) ((da ρ n fun t n1=>bolD t fun b=>if b=true then R (.bool true) n1 else db ρ n1 R)):=⟨fun h=>zsS h⟩
instance zqZ :Stp (zqb da ρ n R) ((da ρ n fun t n1=>bolD t fun b=>R (.bool (!b)) n1)):=⟨fun h=>zpL h⟩
instance zub :Stp (dIfE c da db ρ n R) ((c ρ n fun b n1=>if b=true then da ρ n1 R else db ρ n1 R)):=⟨fun h=>zsZ h⟩
instance zt3 :Stp (dTru d ρ n Rb) ((d ρ n fun t n'=>truD t fun b=>Rb b n')):=⟨fun h=>zsQ h⟩
instance zt1 :Stp (dYes ρ n Rb) ((Rb true n)):=⟨fun h=>zsO h⟩
instance zqS :Stp (U3 tgs (.tuple xs) ρ Re) ((tgs xs ρ Re)):=⟨fun h=>zpD h⟩
instance zqT :Stp (U2 [] ρ Re) ((Re ρ)):=⟨fun h=>zpE h⟩
instance zqu :Stp (Q5 tg tgs (x::xs) ρ Re) ((tg x ρ fun ρ'=>tgs xs ρ' Re)):=⟨fun h=>znE h⟩
instance zqV :Stp (QY d ρ n Rb) ((d ρ n fun t n'=>bolD t fun b=>Rb b n')):=⟨fun h=>zpH h⟩
instance zud :Stp (dCat da db ρ n Rl) ((da ρ n fun x n1=>db ρ n1 fun y n2=>lCat x y fun zs=>Rl zs n2)):=⟨fun h=>zs1 h⟩
instance zua :Stp (dItL d ρ n Rl) ((d ρ n fun t n'=>lLst t fun ts=>Rl ts n')):=⟨fun h=>zsY h⟩
instance zt_ :Stp (dItT d ρ n Rl) ((d ρ n fun t n'=>lTup t fun ts=>Rl ts n')):=⟨fun h=>zsX h⟩
instance zqX :Stp (YA d ρ n Rl) ((d ρ n fun t n'=>lInt t fun j=>(-(2 ^ 62)<=j/\j<2 ^ 62)/\Rl (QI 0 j.toNat) n')):=⟨fun h=>zpJ h⟩
instance zt9 :Stp (dNeg d ρ n R) ((d ρ n fun t n'=>lInt t fun i=>R (.int (-i)) n')):=⟨fun h=>zsW h⟩
instance zqv :Stp (YS k d ρ n R) ((d ρ n fun t n'=>lLst t fun ts=>∃bs:List Bool,ts=bs.map cq/\R (.int (countIn (.bool k) (bs.map cq))) n')):=⟨fun h=>znG h⟩
instance zqw :Stp (U6 g g' da db dc ρ n R) ((da ρ n fun x n1=>db ρ n1 fun y n2=>g x y fun z=>bolD z fun b=>if b=true then dc ρ n2 fun w n3=>g' y w fun z=>R z n3 else R (.bool false) n2)):=⟨fun h=>znH h⟩
instance ztY {b:Bool}{A B:Prop}:Stp (if (!b)=true then A else B) ((if b=true then B else A)):=⟨fun h=>zsK h⟩
end
section
variable{C:Int->Int->Prop}{f:Int->Int->Int}{fb:Int->Int->Bool}{i j k:Int}{R:af->Prop}{Rb:Bool->Prop}{xs ys:qD}{s t:Str}{a b:Bool}{u v x y:af}{Rn:qN}{n:Nat}
instance ztT :Stp (oAdd (.int i) (.int j) R) ((R (.int (i+j)))):=⟨fun h=>zsx h⟩
instance ztS :Stp (oAdd (.str s) (.str t) R) (((s.length+t.length<=16777216/\R (.str (s++t))))):=⟨fun h=>zsw h⟩
instance ztR :Stp (oAdd (.tuple xs) (.tuple ys) R) (((xs.length+ys.length<=16777216/\R (.tuple (xs++ys))))):=⟨fun h=>zsv h⟩
instance zuP :Stp (oEq (.int i) (.int j) R) ((R (.bool (decide (i=j))))):=⟨fun h=>zvw h⟩
instance zuN :Stp (oEq (.str s) (.str t) R) ((R (.bool (decide (s=t))))):=⟨fun h=>zvu h⟩
instance zuO :Stp (oEq (.list xs) (.list ys) R) (((Okd (.list xs)/\Okd (.list ys)/\R (.bool (dW (.list xs) (.list ys)))))):=⟨fun h=>zvv h⟩
instance zuC :Stp (oNe (.int i) (.int j) R) ((R (.bool (!decide (i=j))))):=⟨fun h=>zvj h⟩
instance zuA :Stp (oNe (.str s) (.str t) R) ((R (.bool (!decide (s=t))))):=⟨fun h=>zvh h⟩
instance zuB :Stp (oNe (.list xs) (.list ys) R) (((Okd (.list xs)/\Okd (.list ys)/\R (.bool (!PyData.eqv (.list xs) (.list ys)))))):=⟨fun h=>zvi h⟩
instance zuL :Stp (oIs u .none R) ((R (.bool (isNone u)))):=⟨fun h=>zvs h⟩
instance zqr :Stp (YH u (.tuple xs) R) (((Okd u/\(∀t∈xs,Okd t)/\R (.bool (!xs.any fun t=>t.eqv u))))):=⟨fun h=>znx h⟩
instance zuH :Stp (oLtA (.int i) (.int j) R) ((R (.bool (decide (i<j))))):=⟨fun h=>zvo h⟩
instance zuK :Stp (oLeA (.int i) (.int j) R) ((R (.bool (decide (i<=j))))):=⟨fun h=>zvr h⟩
instance zuJ :Stp (oLeA (.str s) (.str t) R) ((R (.bool (!decide (t.cps.toList<s.cps.toList))))):=⟨fun h=>zvq h⟩
instance ztM :Stp (oIx (.tuple (u::xs)) (.int 0) R) ((R u)):=⟨fun h=>zsq h⟩
instance ztL :Stp (oIx (.tuple (u::v::xs)) (.int 1) R) ((R v)):=⟨fun h=>zsp h⟩
instance ztK {w:af}:Stp (oIx (.tuple (u::v::w::xs)) (.int 2) R) ((R w)):=⟨fun h=>zso h⟩
instance ztO :Stp (oIx (.list (u::xs)) (.int 0) R) ((R u)):=⟨fun h=>ZL h⟩
instance ztN :Stp (oIx (.list (u::v::xs)) (.int 1) R) ((R v)):=⟨fun h=>zom h⟩
instance ztE :Stp (truD (.bool a) Rb) ((Rb a)):=⟨fun h=>zse h⟩
instance ztD :Stp (truD (.list xs) Rb) ((Rb (!xs.isEmpty))):=⟨fun h=>zsd h⟩
instance zuR :Stp (bolD (.bool a) Rb) ((Rb a)):=⟨fun h=>zvy h⟩
instance ztJ :Stp (bLen [.list xs] R) ((R (.int xs.length))):=⟨fun h=>zsn h⟩
instance ztH :Stp (bLen [.tuple xs] R) ((R (.int xs.length))):=⟨fun h=>zsl h⟩
instance ztI :Stp (bLen [.str s] R) (((s.length<=16777216/\R (.int s.length)))):=⟨fun h=>zsm h⟩
instance zqs {ns:List Int}:Stp (bLen [SCR ns] R) ((R (.int ns.length))):=⟨fun h=>zny h⟩
instance zuF :Stp (bMin [.int i,.int j] R) ((R (.int (if j<i then j else i)))):=⟨fun h=>zvm h⟩
instance zuG :Stp (bMax [.int i,.int j] R) ((R (.int (if j > i then j else i)))):=⟨fun h=>zvn h⟩
instance ztP :Stp (bInt [.bool a] R) ((R (.int (if a then 1 else 0)))):=⟨fun h=>zst h⟩
instance zqq :Stp (YF [.list xs] R) ((R (.tuple xs))):=⟨fun h=>znw h⟩
instance ztF :Stp (Yt [u] R) (((Shd u/\R (.str u.shown)))):=⟨fun h=>zsg h⟩
instance zqR {Rl:List af->Prop}:Stp (JW (.list xs) Rl) ((Rl xs)):=⟨fun h=>zpA h⟩
instance zqt {Rl:List af->Prop}:Stp (JW (.tuple xs) Rl) ((Rl xs)):=⟨fun h=>znB h⟩
instance zuQ {Q:List af->Prop}:Stp (lCat (.list xs) (.list ys) Q) (((xs.length+ys.length<=16777216/\Q (xs++ys)))):=⟨fun h=>zvx h⟩
instance zuI {Q:List af->Prop}:Stp (lLst (.list xs) Q) ((Q xs)):=⟨fun h=>zvp h⟩
instance zuw {Q:List af->Prop}:Stp (lTup (.tuple xs) Q) ((Q xs)):=⟨fun h=>zvd h⟩
instance zuM {i:Int}{Q:Int->Prop}:Stp (lInt (.int i) Q) ((Q i)):=⟨fun h=>zvt h⟩
instance ztG {Q:af->af->Prop}:Stp (Yx [x,y] Q) ((Q x y)):=⟨fun h=>zsh h⟩
instance zuD :Stp (oMul (.int i) (.int j) R) ((CMul i j)/\(R (.int (i*j)))):=⟨fun h=>zvk h.1 h.2⟩
instance zuE :Stp (oMod (.int i) (.int j) R) ((0<j)/\(R (.int (i % j)))):=⟨fun h=>zvl h.1 h.2⟩
instance ztQ :Stp (U5 (.int i) (.int j) R) ((Yq i j)/\(R (.int (i / j)))):=⟨fun h=>zsu h.1 h.2⟩
instance zuz :Stp (oShl (.int i) (.int j) R) ((CPow i j)/\(R (.int (i*2 ^ j.toNat)))):=⟨fun h=>zvg h.1 h.2⟩
instance zux :Stp (oSub (.int i) (.int j) R) ((R (.int (i - j)))):=⟨fun h=>zve h⟩
instance zuv :Stp (oXor (.int i) (.int j) R) ((R (.int (eQ i j)))):=⟨fun h=>zvc h⟩
instance zuS :Stp (oAnd (.int i) (.int j) R) ((R (.int (fB i j)))):=⟨fun h=>zvz h⟩
instance zvZ :Stp (gB fb (.int i) (.int j) R) ((R (.bool (fb i j)))):=⟨fun h=>j_gB h⟩
instance zmJ :Stp (lIsi isInt (.int i) R) ((R (.bool true))):=⟨fun h=>zhV h⟩
instance zms :Stp (lIsi isInt (.bool a) R) ((R (.bool true))):=⟨fun h=>zgS h⟩
instance zmI :Stp (lIsi isInt (.str s) R) ((R (.bool false))):=⟨fun h=>zhU h⟩
instance zkm :Stp (lIsi isInt (.tuple xs) R) ((R (.bool false))):=⟨fun h=>zfF h⟩
instance zmq :Stp (lIsi isInt (.list xs) R) ((R (.bool false))):=⟨fun h=>zgQ h⟩
instance zmp :Stp (lIsi isInt (.none) R) ((R (.bool false))):=⟨fun h=>zgP h⟩
instance zmr :Stp (lIsi isInt (.dict []) R) ((R (.bool false))):=⟨fun h=>zgR h⟩
instance zmt :Stp (lIsi isBool (.int i) R) ((R (.bool false))):=⟨fun h=>zgT h⟩
instance zkn :Stp (lIsi isBool (.bool a) R) ((R (.bool true))):=⟨fun h=>zfG h⟩
instance zmF :Stp (lIsi isTup (.int i) R) ((R (.bool false))):=⟨fun h=>zhR h⟩
instance zmk :Stp (lIsi isTup (.bool a) R) ((R (.bool false))):=⟨fun h=>zgK h⟩
instance zmE :Stp (lIsi isTup (.str s) R) ((R (.bool false))):=⟨fun h=>zhQ h⟩
instance zkk :Stp (lIsi isTup (.tuple xs) R) ((R (.bool true))):=⟨fun h=>zfD h⟩
instance zmi :Stp (lIsi isTup (.list xs) R) ((R (.bool false))):=⟨fun h=>zgI h⟩
instance zmh :Stp (lIsi isTup (.none) R) ((R (.bool false))):=⟨fun h=>zgH h⟩
instance zmj :Stp (lIsi isTup (.dict []) R) ((R (.bool false))):=⟨fun h=>zgJ h⟩
instance zmH :Stp (lIsi isStr (.int i) R) ((R (.bool false))):=⟨fun h=>zhT h⟩
instance zmo :Stp (lIsi isStr (.bool a) R) ((R (.bool false))):=⟨fun h=>zgO h⟩
instance zmG :Stp (lIsi isStr (.str s) R) ((R (.bool true))):=⟨fun h=>zhS h⟩
instance zkl :Stp (lIsi isStr (.tuple xs) R) ((R (.bool false))):=⟨fun h=>zfE h⟩
instance zmm :Stp (lIsi isStr (.list xs) R) ((R (.bool false))):=⟨fun h=>zgM h⟩
instance zml :Stp (lIsi isStr (.none) R) ((R (.bool false))):=⟨fun h=>zgL h⟩
instance zmn :Stp (lIsi isStr (.dict []) R) ((R (.bool false))):=⟨fun h=>zgN h⟩
end
section
variable{d da db:DTE}{dlo dhi:DTO}{ρ:En}{n:Nat}{R:qN}{Ro:Option Int->Nat->Prop}{Rl:List af->Nat->Prop}{xs ys:qD}{lo hi:Option Int}{Q:af->Prop}{Ql:List af->Prop}
instance zt4 :Stp (dSlL d dlo dhi ρ n Rl) ((d ρ n fun t n1=>dlo ρ n1 fun lo n2=>dhi ρ n2 fun hi n3=>lSl t lo hi fun z=>Rl z n3)):=⟨fun h=>zsR h⟩
instance zoH :Stp (zh0 ρ n Ro) ((Ro none n)):=⟨fun h=>zlo h⟩
instance zqY :Stp (zqa d ρ n Ro) ((d ρ n fun t n'=>lInt t fun i=>Ro (some i) n')):=⟨fun h=>zpK h⟩
instance zt0 :Stp (dZip da db ρ n Rl) ((da ρ n fun x n1=>db ρ n1 fun y n2=>JW x fun xs=>JW y fun ys=>Rl (zipD xs ys) n2)):=⟨fun h=>zsN h⟩
instance zuy :Stp (lSl (.list xs) lo hi Ql) ((Ql (cutD xs lo hi))):=⟨fun h=>zvf h⟩
end
section
instance zqW {d:DTE}{ρ:En}{n:Nat}{Rl:List af->Nat->Prop}:Stp (zp_ d ρ n Rl) ((d ρ n fun t n1=>Yy t fun ts=>Rl ts n1)):=⟨fun h=>zpI h⟩
end
section
variable{R:af->Prop}{b:Bool}{A B:Prop}
instance zv0:Stp (if true=true then A else B) A:=⟨fun h=>iteT h⟩
instance zv1:Stp (if false=true then A else B) B:=⟨fun h=>iteF h⟩
end
class GetN (ρ:En)(i:Nat)(c:outParam (Option Cell)):Prop where
 e:ρ[i]?=some c
class SetN (ρ:En)(i:Nat)(c:Option Cell)(ρ':outParam En):Prop where
 e:ρ.set i c=ρ'
instance{a0:Option Cell}{as:En}:GetN (a0::as) 0 a0:=⟨rfl⟩
instance{a0 c:Option Cell}{as:En}:SetN (a0::as) 0 c (c::as):=⟨rfl⟩
instance{a0 a1:Option Cell}{as:En}:GetN (a0::a1::as) 1 a1:=⟨rfl⟩
instance{a0 a1 c:Option Cell}{as:En}:SetN (a0::a1::as) 1 c (a0::c::as):=⟨rfl⟩
instance{a0 a1 a2:Option Cell}{as:En}:GetN (a0::a1::a2::as) 2 a2:=⟨rfl⟩
instance{a0 a1 a2 c:Option Cell}{as:En}:SetN (a0::a1::a2::as) 2 c (a0::a1::c::as):=⟨rfl⟩
instance{a0 a1 a2 a3:Option Cell}{as:En}:GetN (a0::a1::a2::a3::as) 3 a3:=⟨rfl⟩
instance{a0 a1 a2 a3 c:Option Cell}{as:En}:SetN (a0::a1::a2::a3::as) 3 c (a0::a1::a2::c::as):=⟨rfl⟩
instance{a0 a1 a2 a3 c:Option Cell}{as:En}{i:Nat}[h:GetN as i c]:GetN (a0::a1::a2::a3::as) (i+4) c:=⟨h.e⟩
instance{a0 a1 a2 a3 c:Option Cell}{as bs:En}{i:Nat}[h:SetN as i c bs]:SetN (a0::a1::a2::a3::as) (i+4) c (a0::a1::a2::a3::bs):=⟨by rw[<- h.e];rfl⟩
class NormE (ρ:En)(ρ':outParam En):Prop where
 e:ρ=ρ'
instance{a:Option Cell}{as:En}:NormE (a::as) (a::as):=⟨rfl⟩
instance{ρ ρ1 ρ2:En}{i:Nat}{c:Option Cell}[h:NormE ρ ρ1][k:SetN ρ1 i c ρ2]:NormE (ρ.set i c) ρ2:=⟨by rw[h.e];exact k.e⟩
class NoneN (as:En)(nn:outParam En):Prop where
 e:bE as.length none=nn
instance:NoneN [] []:=⟨rfl⟩
instance{a:Option Cell}{as nn:En}[h:NoneN as nn]:NoneN (a::as) (none::nn):=⟨by rw[aR,cu,h.e]⟩
class StartN (N:List Str)(ts:qD)(ρ:outParam En):Prop where
 e:JY N ts=ρ
instance:StartN [] [] []:=⟨rfl⟩
instance{x:Str}{N:List Str}{ρ:En}[h:StartN N [] ρ]:StartN (x::N) [] (none::ρ):=⟨by
 have:=h.e;simp only[JY,gv,eD,cK,mU]at this ⊢;rw[aR,cu,this]⟩
instance{x:Str}{N:List Str}{t:af}{ts:qD}{ρ:En}[h:StartN N ts ρ]:StartN (x::N) (t::ts) (some (.val t)::ρ):=⟨by
 have:=h.e;simp only[JY]at this ⊢;rw[cm,aR,aR,dQ,Nat.add_sub_add_right,this]⟩
theorem zjq{d:DTS}{D:JO}{n:Nat}{N:List Str}{ts:qD}{l:En}[e:StartN N ts l](h:d D l n):d D (JY N ts) n:=e.e.symm▸h
class CapN (is:List Nat)(ρ:En)(out:outParam En):Prop where
 e:(is.map fun i=>capV (ρ.getD i none))=out
class CapC (c:Option Cell)(c':outParam (Option Cell)):Prop where
 e:capV c=c'
instance{d:af}:CapC (some (.val d)) (some (.val d)):=⟨rfl⟩
instance{d:qD}:CapC (some (.own d)) none:=⟨rfl⟩
instance:CapC none none:=⟨rfl⟩
instance{ρ:En}:CapN [] ρ []:=⟨rfl⟩
instance{i:Nat}{is:List Nat}{ρ out:En}{c c':Option Cell}[g:GetN ρ i c][k:CapC c c'][h:CapN is ρ out]:CapN (i::is) ρ (c'::out):=⟨by
 have ge:=g.e;rw[cm,h.e,aY,ge,cX,k.e]⟩
class CompN (m:Nat)(capt:List Nat)(ρ:En)(ρ':outParam En):Prop where
 e:JC m capt ρ=ρ'
instance{x:Str}{capt:List Nat}{ρ out:En}[h:CapN capt ρ out]:CompN (cM [x]) capt ρ (none::out):=⟨by unfold JC;rw[h.e];rfl⟩
instance{x y:Str}{capt:List Nat}{ρ out:En}[h:CapN capt ρ out]:CompN (cM [x,y]) capt ρ (none::none::out):=⟨by unfold JC;rw[h.e];rfl⟩
instance{x y z:Str}{capt:List Nat}{ρ out:En}[h:CapN capt ρ out]:CompN (cM [x,y,z]) capt ρ (none::none::none::out):=⟨by unfold JC;rw[h.e];rfl⟩
instance{x y z u:Str}{capt:List Nat}{ρ out:En}[h:CapN capt ρ out]:CompN (cM [x,y,z,u]) capt ρ (none::none::none::none::out):=⟨by unfold JC;rw[h.e];rfl⟩
def SetK(i:Nat)(c:Option Cell)(K:En->Nat->Prop)(l:En)(n:Nat):Prop:=K (l.set i c) n
section
variable{t u:DTS}{D:JO}{ρ ρ0 ρ':En}{n i j m:Nat}{d dj:DTE}{ds di:DTA}{tt:DTT}{tg:DTG}{R:qN}{Rl:List af->Nat->Prop}{Re:En->Prop}{x:af}{xs:qD}{f:Int->Int->Int}{capt:List Nat}{c:Option Cell}{K:En->Nat->Prop}{q:Int}
instance zv9 [h:SetN ρ i c ρ']:Stp (SetK i c K ρ n) (K ρ' n):=⟨fun k=>by unfold SetK;rw[h.e];exact k⟩
instance zvS:Stp (sSet i d D ρ n) (d ρ n fun t n'=>SetK i (some (.val t)) D.nx ρ n'):=⟨fun h=>h⟩
instance zvT:Stp (sOwn i ds D ρ n) (ds ρ n fun t n'=>SetK i (some (.own t)) D.nx ρ n'):=⟨fun h=>h⟩
instance ztB [h:SetN ρ i (some (.val x)) ρ']:Stp (Qd i x ρ Re) (Re ρ'):=⟨fun k=>by unfold Qd;rw[h.e];exact k⟩
instance zv5 [h:GetN ρ i (some (.val x))]:Stp (dVar i ρ n R) (R x n):=⟨fun k=>zop h.e k⟩
instance zv6 [h:GetN ρ i (some (.own xs))]:Stp (dOwn i ρ n R) (R (.list xs) n):=⟨fun k=>zoq h.e k⟩
instance zuh [h:GetN ρ i (some (.own xs))]:Stp (Yi i d D ρ n) (d ρ n fun t n'=>xs.length<16777216/\SetK i (some (.own (xs++[t]))) D.nx ρ n'):=⟨fun k=>ziW h.e k⟩
instance zuf [h:GetN ρ i (some (.own xs))][h':SetN ρ i (some (.val (.list xs))) ρ']:Stp (YY i t D ρ n) (t D ρ' n):=⟨fun k=>ziV h.e (by rw[h'.e];exact k)⟩
instance zwc:Stp (sPar i j ds D ρ n) (ds ρ n fun ts n'=>Yx ts fun t u=>SetK i (some (.val t)) (fun ρ1 n1=>SetK j (some (.val u)) D.nx ρ1 n1) ρ n'):=⟨fun h=>zsG h⟩
instance zv7 [h:CompN m capt ρ ρ0]:Stp (dComp m capt di tg tt d ρ n Rl) (di ρ n fun ts n1=>JR tg tt d ρ0 ts [] n1 Rl):=⟨fun k=>zpN (by rw[h.e];exact k)⟩
theorem zrc{D:JO}{ρ:En}{i:Nat}{xs:qD}{x:af}{n:Nat}{j:Int}{k:Nat}(e:ixN xs.length j=some k)(h:SetK i (some (.own (xs.set k x))) D.nx ρ n) :
  (match ixN xs.length j with|some k=>D.nx (ρ.set i (some (.own (xs.set k x)))) n|none=>False):=by rw[e];exact h
instance zwb [h:GetN ρ i (some (.own xs))]:Stp (sPut i dj d D ρ n) (d ρ n fun t n1=>UD ρ i D dj t n1 xs):=⟨fun k=>zvB h.e k⟩
instance zvU:Stp (UD ρ i D dj x n xs) (dj ρ n fun j n2=>lInt j fun j=>(match ixN xs.length j with|some k=>D.nx (ρ.set i (some (.own (xs.set k x)))) n2|none=>False)):=⟨fun h=>zsJ h⟩
end
theorem QC{l:En}{i:Nat}:l.set i (l.getD i none)=l:=by
 apply mS
 intro j
 by_cases h:i=j
 ·subst h
  by_cases hl:i<l.length
  ·rw[cg hl,aY,aI hl];rfl
  ·rw[cH (by simp;omega),cH (by omega)]
 ·rw[aM h]
section
variable{g:DTG}{tb:DTS}{D:JO}{ts:qD}{ρ:En}{n:Nat}
theorem zlz(G L R:Nat)(Inv:Nat->Option Cell->Option Cell->Option Cell->Nat->Prop){v:Option Cell->Option Cell->Option Cell->En}[N:∀l a1 a2,NormE (((ρ.set G l).set L a1).set R a2) (v l a1 a2)](h0:Inv 0 (ρ.getD G none) (ρ.getD L none) (ρ.getD R none) n)
  (turn:∀(k:Nat) (t:af) (l a1 a2:Option Cell) (m:Nat) (K:En->Nat->Prop) (U:qN) (S:En->Nat->Prop),ts[k]?=some t->Inv k l a1 a2 m->(∀C x y J,Inv (k+1) C x y J->K (v C x y) J)->(∀t m,D.rt t m->U t m)->(∀ρ m,D.nx ρ m->S ρ m)->g t (v l a1 a2) fun u=>tb { nx:=K,rt:=U,bk:=S,ct:=K,xr:=D.xr } u m)
  (fin:∀l a1 a2 m,Inv ts.length l a1 a2 m->D.nx (v l a1 a2) m):forP g tb D ts ρ n:=by
 refine Ye (fun k u m=>∃l a1 a2,u=(((ρ.set G l).set L a1).set R a2)/\Inv k l a1 a2 m) ⟨_,_,_,?_,h0⟩ ?_ ?_
 ·rw[QC,QC,QC]
 ·rintro k t u m K e ⟨l,a1,a2,rfl,I⟩ hK;rw[(N l a1 a2).e];exact turn k t l a1 a2 m K D.rt D.nx e I (fun C x y J h=>(N C x y).e▸hK _ _ ⟨C,x,y,rfl,h⟩) (fun _ _ h=>h) (fun _ _ h=>h)
 ·rintro u m ⟨l,a1,a2,rfl,I⟩;rw[(N l a1 a2).e];exact fin l a1 a2 m I
theorem Z1(J S Y U:Nat)(Inv:Nat->Option Cell->Option Cell->Option Cell->Option Cell->Nat->Prop){x:Option Cell->Option Cell->Option Cell->Option Cell->En}[N:∀l a1 a2 u,NormE ((((ρ.set J l).set S a1).set Y a2).set U u) (x l a1 a2 u)](h0:Inv 0 (ρ.getD J none) (ρ.getD S none) (ρ.getD Y none) (ρ.getD U none) n)
  (turn:∀(k:Nat) (t:af) (l a1 a2 u:Option Cell) (m:Nat) (K:En->Nat->Prop) (RT:qN) (Z:En->Nat->Prop),ts[k]?=some t->Inv k l a1 a2 u m->(∀I C G y R,Inv (k+1) I C G y R->K (x I C G y) R)->(∀t m,D.rt t m->RT t m)->(∀ρ m,D.nx ρ m->Z ρ m)->g t (x l a1 a2 u) fun v=>tb { nx:=K,rt:=RT,bk:=Z,ct:=K,xr:=D.xr } v m)
  (fin:∀l a1 a2 u m,Inv ts.length l a1 a2 u m->D.nx (x l a1 a2 u) m):forP g tb D ts ρ n:=by
 refine Ye (fun k v m=>∃l a1 a2 u,v=((((ρ.set J l).set S a1).set Y a2).set U u)/\Inv k l a1 a2 u m) ⟨_,_,_,_,?_,h0⟩ ?_ ?_
 ·rw[QC,QC,QC,QC]
 ·rintro k t v m K e ⟨l,a1,a2,u,rfl,L⟩ hK;rw[(N l a1 a2 u).e];exact turn k t l a1 a2 u m K D.rt D.nx e L (fun I C G y R h=>(N I C G y).e▸hK _ _ ⟨I,C,G,y,rfl,h⟩) (fun _ _ h=>h) (fun _ _ h=>h)
 ·rintro v m ⟨l,a1,a2,u,rfl,L⟩;rw[(N l a1 a2 u).e];exact fin l a1 a2 u m L
theorem zta(R Y i2 Z i4:Nat)(Inv:Nat->Option Cell->Option Cell->Option Cell->Option Cell->Option Cell->Nat->Prop){y:Option Cell->Option Cell->Option Cell->Option Cell->Option Cell->En}[N:∀l a1 a2 u v,NormE (((((ρ.set R l).set Y a1).set i2 a2).set Z u).set i4 v) (y l a1 a2 u v)](h0:Inv 0 (ρ.getD R none) (ρ.getD Y none) (ρ.getD i2 none) (ρ.getD Z none) (ρ.getD i4 none) n)
  (turn:∀(k:Nat) (t:af) (l a1 a2 u v:Option Cell) (m:Nat) (K:En->Nat->Prop) (RT:qN) (BK:En->Nat->Prop),ts[k]?=some t->Inv k l a1 a2 u v m->(∀L G J C I U,Inv (k+1) L G J C I U->K (y L G J C I) U)->(∀t m,D.rt t m->RT t m)->(∀ρ m,D.nx ρ m->BK ρ m)->g t (y l a1 a2 u v) fun x=>tb { nx:=K,rt:=RT,bk:=BK,ct:=K,xr:=D.xr } x m)
  (fin:∀l a1 a2 u v m,Inv ts.length l a1 a2 u v m->D.nx (y l a1 a2 u v) m):forP g tb D ts ρ n:=by
 refine Ye (fun k x m=>∃l a1 a2 u v,x=(((((ρ.set R l).set Y a1).set i2 a2).set Z u).set i4 v)/\Inv k l a1 a2 u v m) ⟨_,_,_,_,_,?_,h0⟩ ?_ ?_
 ·rw[QC,QC,QC,QC,QC]
 ·rintro k t x m K e ⟨l,a1,a2,u,v,rfl,S⟩ hK;rw[(N l a1 a2 u v).e];exact turn k t l a1 a2 u v m K D.rt D.nx e S (fun L G J C I U h=>(N L G J C I).e▸hK _ _ ⟨L,G,J,C,I,rfl,h⟩) (fun _ _ h=>h) (fun _ _ h=>h)
 ·rintro x m ⟨l,a1,a2,u,v,rfl,S⟩;rw[(N l a1 a2 u v).e];exact fin l a1 a2 u v m S
theorem znF{i j:Nat}{u:DTS}{D:JO}{G nn y C:En}{n:Nat}{ns:List Int}{k:Int}[ej:GetN (some (.val (SCR ns))::G) j (some (.val (.int k)))][e1:NoneN G nn][e2:SetN (some (.val (SCR ns))::nn) j (some (.val (.int k))) y][e3:SetN y i (some (.val HAND)) C](R:ns.length<=63)(k0:0<=k)(k1:k<=100)
  (h:∀(J:En->Nat->Prop) (N:qN) (L I:En->Nat->Prop),(∀x m,D.nx (JI x) n->J x m)->(∀b m,D.rt (.bool b) n->N (.bool b) m)->(∀x m,D.bk (JI x) n->L x m)->(∀x m,D.ct (JI x) n->I x m) ->
   u { nx:=J,rt:=N,bk:=L,ct:=I } C 0):U1 i j u D (some (.val (SCR ns))::G) n:=by
 refine zpG (ρd:=some (.val (SCR ns))::nn) rfl ej.e R k0 k1 ?_ ?_
 ·show some (Cell.val (SCR ns))::bE (cM (some (Cell.val (SCR ns))::G) - 1) none=_
  rw[aR,Nat.add_sub_cancel,e1.e]
 ·rw[e2.e,e3.e];exact h _ _ _ _ (fun _ _ h=>h) (fun b _ h=>⟨b,rfl,h⟩) (fun _ _ h=>h) (fun _ _ h=>h)
theorem zhu{c:DTT}{tb:DTS}{D:JO}{ρ:En}{n:Nat}(Inv:Nat->En->Nat->Prop){m:Nat}(h0:Inv m ρ n)
  (turn:∀m ρ n (K:En->Nat->Prop) (C:qN) (x:En->Nat->Prop),Inv m ρ n->(∀u l v,u<m->Inv u l v->K l v)->(∀t m,D.rt t m->C t m)->(∀ρ m,D.nx ρ m->x ρ m) ->
   c ρ n fun b y=>if b=true then tb { nx:=K,rt:=C,bk:=x,ct:=K,xr:=D.xr } ρ y else x ρ y):zko c tb D ρ n :=
 zj1 Inv h0 fun m ρ n h=>turn m ρ n (fun l v=>∃u,u<m/\Inv u l v) D.rt D.nx h (fun u _ _ a b=>⟨u,a,b⟩) (fun _ _ h=>h) (fun _ _ h=>h)
end
open Builtin Builtin.Str
def cutS(x:Str)(lo hi:Option Int):Str:=⟨((x.cps.toList.drop (HT.sIx x.length 0 lo)).take (HT.sIx x.length x.length hi - HT.sIx x.length 0 lo)).toArray⟩
theorem Z6(n d:Nat)(i:Int):((HT.sIx n d (some i):Nat):Int)=max 0 (min (if i<0 then i+(n:Int) else i) (n:Int)):=by
 simp only[HT.sIx]
 by_cases h:i<0
 ·simp only[h,if_true] <;> lia
 ·simp only[h,if_false] <;> lia
theorem zqI(lo hi:Option Int)(n:Nat):strSliceIndices lo hi 1 n=sliceRange ((HT.sIx n 0 lo:Nat):Int) ((HT.sIx n n hi:Nat):Int) 1:=by
 have l:((HT.sIx n 0 none:Nat):Int)=0:=by simp[HT.sIx]
 have u:((HT.sIx n n none:Nat):Int)=n:=by simp[HT.sIx]
 cases lo with
 | none =>
  cases hi with
  | none=>rw[l,u];rfl
  | some j=>rw[l,Z6];rfl
 | some i =>
  cases hi with
  | none=>rw[u,Z6];rfl
  | some j=>rw[Z6,Z6];rfl
theorem zkg(x:Str)(lo hi:Option Int):nE x lo hi=cutS x lo hi:=by
 have e:strSliceIndices lo hi 1 x.length=(eX (HT.sIx x.length x.length hi - HT.sIx x.length 0 lo)).map (HT.sIx x.length 0 lo+·):=by rw[zqI,oC]
 have u:(strSliceIndices lo hi 1 x.length).filterMap (x.cps[·]?)=(x.cps.toList.drop (HT.sIx x.length 0 lo)).take (HT.sIx x.length x.length hi - HT.sIx x.length 0 lo):=by rw[e,ug]
 unfold nE;split
 ·rename_i h;have v:(strSliceIndices lo hi 1 x.length).length=x.length:=by simpa using h
  rw[e,aL,List.length_range]at v;unfold cutS;have y:HT.sIx x.length x.length hi<=x.length:=by
   cases hi with
   | none=>simp[HT.sIx]
   | some i=>simp only[HT.sIx];split <;> lia
  have z:HT.sIx x.length 0 lo=0\/x.length=0:=by lia
  have:(x.cps.toList.drop (HT.sIx x.length 0 lo)).take (HT.sIx x.length x.length hi - HT.sIx x.length 0 lo)=x.cps.toList:=by
   have sz:x.cps.toList.length=x.length:=by simp[kG]
   rcases z with z|z
   ·rw[z,lD,gG (by lia)]
   ·have:x.cps.toList=[]:=eS.mp (by lia)
    rw[this];simp
  rw[this]
 ·rw[u];rfl
section
variable{X:Cx}
theorem ze0{v:ah}{p:Option Int}(h:i9 v p):∃l:Option (Int×Tok),v=partValue l/\l.map (·.1)=p:=by
 cases h with
 | none=>exact⟨none,rfl,rfl⟩
 | int i t=>exact⟨some (i,t),rfl,rfl⟩
def rSlS:V->Option Int->Option Int->Hp->VK->Prop:=fun x lo hi H Q=>∃z,x=.str z/\z.length<=sizeLine/\Q (.str (cutS z lo hi)) H
theorem zqP:SlR X rSlS:=by
 intro pins s σ H x v S U lo hi L Q I G N pl J h;obtain⟨z,rfl,R,q⟩:=h;obtain⟨t,rfl⟩:=G;obtain⟨l,rfl,rfl⟩:=ze0 pl;obtain⟨u,rfl,rfl⟩:=ze0 J;have C:s.heap.IsSlice L l u none:=N;refine⟨"str",_,F.slot_str_getitem.lookup,oB _ _ _,wpAny_getItem_str_slice (l:=l) (u:=u) (st:=none) C rfl (post_val_or_str ?_)⟩;have e:(if (((none:Option (Int×Tok)).map (·.1)).getD 1 == 1&&(slicePicked z l u none).length == z.length)=true then z else⟨((slicePicked z l u none).filterMap (z.cps[·]?)).toArray⟩)=nE z (l.map (·.1)) (u.map (·.1)):=rfl
 rw[e];refine⟨bG (Txt.slice_le z _ _) R,fun t' k=>⟨.str (nE z (l.map (·.1)) (u.map (·.1))),H,I.tok _,⟨_,rfl⟩,?_⟩⟩
 rw[zkg];exact q
def oSlA(t:af)(lo hi:Option Int)(R:af->Prop):Prop:=match t with
 | .tuple ts=>R (.tuple (cutD ts lo hi))
 | .str x=>x.length<=16777216/\R (.str (cutS x lo hi))
 | _=>False
def dSlA(d:DTE)(dl x:DTO):DTE:=fun l n R=>d l n fun t u=>dl l u fun lo y=>x l y fun hi v=>oSlA t lo hi fun z=>R z v
variable{e a b iter tg:aO}{d da db:DTE}{lo hi:Option aO}{dlo dhi:DTO}{pos p2:Pos}
theorem zet(h:DL X e d)(hl:DP X lo dlo)(hu:DP X hi dhi):DE X (.Subscript e (.Slice lo hi none p2) pos) (dSlA d dlo dhi):=by
 obtain⟨ta,pa,h⟩:=h;obtain⟨tl,pl,hl⟩:=hl;obtain⟨tu,pu,hu⟩:=hu;refine⟨_,zis (SlR.or (SlR.or zqO zoE) zqP) pa pl pu,fun C ρ σ H n Q R S hd Z=>?_⟩
 refine h C ρ σ H n _ _ S hd fun t n1 v H1 r1 L h1 q1=>?_
 have S1:=S.on L h1;refine hl C ρ σ H1 n1 _ _ S1 r1 fun lo n2 H2 r2 I h2=>?_
 have S2:=S1.on I h2;refine hu C ρ σ H2 n2 _ _ S2 r2 fun hi Y H3 y G N=>?_
 have S3:=S2.on G N;have U:=(I.trans G).repT S.hx q1;cases t with
 | tuple ts =>
  obtain⟨a,x,rfl,hs,rs⟩:=U.tupI
  by_cases w:HT.sIx x.length 0 lo=0/\HT.sIx x.length x.length hi=x.length
  ·refine .inl (.inr ⟨a,x,rfl,hs,w,Z _ Y _ H3 y (L.trans (I.trans G)) N ?_⟩);rw[zjP (by rw[<- rs.length];exact w)]
   exact U.rep (by intro _ z;cases z)
  ·refine .inl (.inl ⟨a,x,rfl,hs,w,fun p J=>Z _ Y _ _ y (L.trans (I.trans (G.trans (ExtE.new J)))) (N.same (JS J)) ?_⟩)
   exact .newT (S3.free J) J (zjb rs lo hi)
 | str z =>
  rw[U.strI];exact .inr ⟨z,rfl,y.1,Z _ Y _ H3 y.2 (L.trans (I.trans G)) N (.str _)⟩
 | _=>exact y.elim
def repS(x:Str)(n:Int):Str:=⟨(bE n.toNat x.cps.toList).flatten.toArray⟩
theorem zg3(x:Array Nat):∀(n:Nat) (u:Array Nat),(bE n x).foldl (·++·) u=(u.toList++(bE n x.toList).flatten).toArray
 | 0,u=>by simp
 | n+1,u=>by
  rw[cu,List.foldl_cons,zg3 x n,cu,mW];simp
theorem zo6:OpR X (binaryOp .Mult) (fun x y H Q=>∃i j,x=.str i/\y=.int j/\-100000<=j/\j<=100000/\i.length<=100/\Q (.str (repS i j)) H):=by
 intro pins s σ H x y v u Q I J G h;obtain⟨i,j,rfl,rfl,j0,j1,hi,q⟩:=h;obtain⟨t,rfl⟩:=J;obtain⟨t',rfl⟩:=G;have L:decide (j < -(2 ^ 63:Int))=false:=decide_eq_false (by lia)
 have R:decide (j>=2 ^ 63)=false:=decide_eq_false (by lia)
 have C:∀n:Nat,n<=100000->i.length*n<=10000000:=fun n U=>Nat.mul_le_mul hi U
 refine P.mul_str (by rw[L,R];rfl) (fun N _ Z=>?_) (fun N _=>?_) ?_
 ·have h3:(100:Int)<=(2 ^ 63 - 1) / j:=by
   apply Int.le_ediv_of_mul_le (by lia)
   lia
  lia
 ·have:=C j.toNat (by lia)
  unfold tooLong;exact decide_eq_false (by have:sizeLine=16777216:=rfl;lia)
 ·by_cases c1:j<1
  ·rw[if_pos c1];have e:repS i j=iB:=by
    unfold repS;rw[show j.toNat=0 by lia];rfl
   rw[e]at q;exact⟨by decide,.str iB,H,I.tok _,⟨_,rfl⟩,q⟩
  ·rw[if_neg c1]
   by_cases c2:(j == 1||i.length == 0)=true
   ·rw[if_pos c2];have e:repS i j=i:=by
     unfold repS;rw[Bool.or_eq_true,beq_iff_eq,beq_iff_eq]at c2;rcases c2 with c2|c2
     ·subst c2;simp
     ·have z:i.cps.toList=[]:=eS.mp (by simpa[kG] using c2)
      have S:i.cps=#[]:=by
       have:=congrArg List.toArray z;simpa using this
      rw[z];have:(bE j.toNat ([]:List Nat)).flatten=[]:=by simp
      rw[this,<- S]
    rw[e]at q;exact⟨.str i,H,I,⟨_,rfl⟩,q⟩
   ·rw[if_neg c2];have e:repS i j=⟨(bE j.toNat i.cps).foldl (·++·) #[]⟩:=by
     unfold repS;rw[zg3];simp
    rw[e]at q;refine⟨?_,.str _,H,I.tok _,⟨_,rfl⟩,q⟩;have:=C j.toNat (by lia)
    show(⟨(bE j.toNat i.cps).foldl (·++·) #[]⟩:Str).length<=sizeLine
    rw[<- e];unfold repS kG;rw[ax,List.length_flatten,List.map_replicate,List.sum_replicate_nat,dI];have Y:sizeLine=16777216:=rfl;have e4:j.toNat*i.cps.size=i.length*j.toNat:=by rw[kL];rfl
    lia
def Zt:G2
 | .int i,.int j,R=>CMul i j/\R (.int (i*j))
 | .str i,.int j,R=>-100000<=j/\j<=100000/\i.length<=100/\R (.str (repS i j))
 | _,_,_=>False
theorem zo7:OpR X (binaryOp .Mult) (fun x y H Q=>(rI CMul fun i j=>.int (i*j)) x y H Q\/∃i j,x=.str i/\y=.int j/\-100000<=j/\j<=100000/\i.length<=100/\Q (.str (repS i j)) H):=OpR.or QT zo6
theorem zpQ:Gp2 X (fun x y H Q=>(rI CMul fun i j=>.int (i*j)) x y H Q\/∃i j,x=.str i/\y=.int j/\-100000<=j/\j<=100000/\i.length<=100/\Q (.str (repS i j)) H) Zt:=by
 intro hd O H x y t u Q R dom C v g G;unfold Zt at g;split at g
 ·rw[C.intI,v.intI];exact .inl ⟨_,_,rfl,rfl,g.1,G _ _ H g.2 (Same.refl _) (.int _)⟩
 ·rw[C.strI,v.intI];exact .inr ⟨_,_,rfl,rfl,g.1,g.2.1,g.2.2.1,G _ _ H g.2.2.2 (Same.refl _) (.str _)⟩
 ·exact g.elim
theorem zp6(x:DL X a da)(v:DL X b db):DE X (.BinOp a .Mult b pos) (dOp Zt da db):=QZ zo7 zpQ x v
end
def Its(z:Str):It:=⟨fun i _=>i<z.cps.size,fun i H x l=>l=H/\∃c,z.cps[i]?=some c/\x=.str ⟨#[c]⟩,fun i _=>z.cps.size<=i⟩
theorem zmA{P:aG}{w:aP}{K:qF}{tg:aO}(z:Str)(t:Tok)(it:ak)(T:String)(N:T = "str_ascii_iterator" \/ T = "str_iterator"):Turn P w K tg (Its z) [it] it (fun i h=>h.IsStrIter it T z t i) where
 mem:=by simp
 obj:=fun i h st b C=>by
  have e:b=it:=by simpa using C
  subst e;obtain⟨o,e,c,d⟩:=st;exact⟨o,e,fun v z=>by rw[d]at z;cases z⟩
 keep:=fun i h h' st k=>by
  obtain⟨o,e,r⟩:=st;exact⟨o,k it (by simp) o e,r⟩
 item:=by
  intro X U hw Z hc i pins s σ H E I hf st G;subst U hw Z;obtain⟨f0,f1,f2,R,f4,S⟩:=hf it (by simp)
  have G:i<z.cps.size:=G;have J:z.cps[i]?=some z.cps[i]:=by simp[G]
  have fin:∀h',h'.IsStrIter it T z t (i+1)->dJ it s.heap h'->∃u,some (iA ⟨#[z.cps[i]]⟩ s.toks)=some u /\
    wpAny (model X.prog X.w) X.A (letOwnedTupleGo tg (.ref it) u) (fun _ s2=>∃x Y,Inv X pins σ Y s2/\RelV x u/\(Its z).yld i H x Y/\s2.heap.IsStrIter it T z t (i+1)/\∀b∈[it],Y b=none) E { s with heap:=h',toks:=s.toks+1 }:=by
   intro h' L sb;have I1:Inv X pins σ H { s with heap:=h',toks:=s.toks+1 }:=I.turned (t':=s.toks+1) (fun b o C e=>(sb.2 b C).trans e) f0 f1 R f4 S
   obtain⟨o,e,c,d⟩:=id L;have ne:(T = "enumerate")=False:=by rcases N with rfl|rfl <;> decide
   refine⟨_,rfl,Zn (s:={ s with heap:=h',toks:=s.toks+1 }) (n:=T) e c d (by rcases N with rfl|rfl <;> decide) ⟨.str ⟨#[z.cps[i]]⟩,H,I1,⟨_,rfl⟩,⟨rfl,_,J,rfl⟩,L,fun b C=>(hf b C).1⟩⟩
  rcases N with rfl|rfl
  ·exact wpAny_pyNext_ascii_item st J fin
  ·exact wpAny_pyNext_wide_item st J fin
 done:=by
  intro X U hw Z hc i pins s σ H E I hf st G;subst U hw Z;obtain⟨f0,f1,f2,R,f4,S⟩:=hf it (by simp)
  have G:z.cps.size<=i:=G;have J:z.cps[i]?=none:=by simp[G]
  rcases N with rfl|rfl
  ·exact wpAny_pyNext_ascii_end (I.ok.hd hc) st J fun h' eb=>⟨rfl,I.turned (t':=s.toks) (fun b o C e=>eb b o C e) f0 f1 R f4 S⟩
  ·exact wpAny_pyNext_wide_end (I.ok.hd hc) st J fun h' eb=>⟨rfl,I.turned (t':=s.toks) (fun b o C e=>eb b o C e) f0 f1 R f4 S⟩
 self:=fun _ _ _ _ _ st h=>by
  rcases N with rfl|rfl
  ·exact wpAny_pyIter_striter_ascii st h
  ·exact wpAny_pyIter_striter_wide st h
section
variable{X:Cx}{tg iter:aO}{d:DTE}
def iStr(u:TE):TI:=fun σ H R=>u σ H fun x l=>∃z,x=.str z/\R (Its z) l
theorem zrm{l:aO}{C:TE}(S:PE X l C):PI X tg l (iStr C):=by
 intro pins s σ H R I h;refine thn (S pins s σ H _ I h) fun v s1 ⟨x,G,u,L,U⟩=>?_
 obtain⟨z,rfl,q⟩:=U;obtain⟨t,rfl⟩:=L;have key:∀T,(T = "str_ascii_iterator" \/ T = "str_iterator")->PIE X pins σ tg R (.ref s1.heap.objs.size) { s1 with heap:=s1.heap.push { cls:=.type T,data:=.fields #[.str z t,.int 0 0] } }:=by
  intro T J;refine⟨s1.heap.objs.size,[s1.heap.objs.size],_,_,G,rfl,u.kept (t':=s1.toks) fun b o e=>aq _ e,zmA z t _ T J,⟨_,ay _ rfl,rfl,rfl⟩,fun b N=>?_,q⟩
  have e:b=s1.heap.objs.size:=by simpa using N
  subst e;exact u.fpOk (az _) (u.hok.fresh (az _))
 cases ha:z.cps.all (·<128)
 ·exact wpAny_pyIter_wide ha (key _ (.inr rfl))
 ·exact wpAny_pyIter_ascii ha (key _ (.inl rfl))
def sgnD(z:Str):List af:=z.cps.toList.map fun c=>.str ⟨#[c]⟩
theorem zsD{K:qF}{hd:Option ak}{P O:ak->Prop}{H:Hp}{z:Str}:ItOk K hd P O H (Its z) (sgnD z):=by
 intro R N _ _ _;have sz:z.cps.toList.length=z.cps.size:=by simp
 refine⟨fun i t u=>?_,by show z.cps.size<=(sgnD z).length;unfold sgnD;rw[aL];lia⟩
 unfold sgnD at u;rw[aU]at u;cases ec:z.cps.toList[i]? with
 | none=>rw[ec]at u;cases u
 | some c =>
  rw[ec]at u;cases u;obtain⟨hi,I⟩:=aA.mp ec;have y:i<z.cps.size:=by lia
  have v:z.cps[i]?=some c:=by rw[<- Array.getElem?_toList];exact ec
  refine⟨y,fun x L G=>?_⟩
  obtain⟨rfl,J,C,rfl⟩:=G;rw[v]at C;cases C;exact⟨Same.refl _,.str _⟩
def lStr:af->(Str->Prop)->Prop
 | .str z,R=>R z
 | _,_=>False
def dItS(d:DTE):DTA:=fun l n R=>d l n fun t u=>lStr t fun z=>R (sgnD z) u
theorem ztl(h:DE X iter d):DI X tg iter (dItS d):=by
 obtain⟨J,pa,h⟩:=h;refine⟨_,zrm pa,fun C x σ H n Q R S hd u=>?_⟩
 refine h C x σ H n _ _ S hd fun t y v l r G I q=>?_
 cases t with
 | str z =>
  rw[q.strI];exact⟨z,rfl,u _ y _ l r G I zsD⟩
 | _=>exact r.elim
end
section
variable{X:Cx}{a b:aO}{rest:List aO}{ta tb:TE}{da db:DTE}{pos:Pos}
def tOrA(K:qF)(ta tb:TE):TE:=fun σ H Q=>ta σ H fun x l=>∃k,TruV K x l k/\if k=true then Q x l else tb σ l Q
theorem zrr(U:PE X a ta)(S:PE X (.BoolOp .Or (b::rest) pos) tb):PE X (.BoolOp .Or (a::b::rest) pos) (tOrA X.K ta tb):=by
 intro pins s σ H Q I h;refine BoolOp_or (thn (U pins s σ H _ I h) fun v s1 ⟨x,y,N,C,u⟩=>?_)
 obtain⟨k,e,u⟩:=u;refine thn (zn9 pins s1 σ y x v (fun c L=>c=k/\L=y) N C ⟨k,e,rfl,rfl⟩) fun c s2 R=>?_
 obtain⟨J,G,rfl,rfl⟩:=R;cases c with
 | false=>exact S pins s2 σ J Q G u
 | true=>exact⟨x,J,G,C,u⟩
def dOrA(da db:DTE):DTE:=fun u n R=>da u n fun t l=>truD t fun b=>if b=true then R t l else db u l R
theorem zto(h:DE X a da)(h':DE X (.BoolOp .Or (b::rest) pos) db):DE X (.BoolOp .Or (a::b::rest) pos) (dOrA da db):=by
 obtain⟨ta,pa,h⟩:=h;obtain⟨tb,pb,h'⟩:=h';refine⟨_,zrr pa pb,fun C I σ H n Q R S hd G=>?_⟩
 refine h C I σ H n _ _ S hd fun t N v u r x y L=>?_
 refine zn_ (Q:=fun k u=>if k=true then Q v u else tb σ u Q) (.inl L) r fun b J=>?_
 cases b with
 | true=>exact iteT (G _ N _ u J x y L)
 | false=>exact iteF (h' C I σ u N Q R (S.on x y) J fun t U v H2 r e2 Y Z=>G t U v H2 r (x.trans e2) Y Z)
end
section
variable{ρ:En}{n:Nat}{d da db:DTE}{dlo dhi:DTO}{R:qN}{Rl:List af->Nat->Prop}{Q:af->Prop}{xs:qD}{lo hi:Option Int}{x:Str}{i j:Int}{Ql:List af->Prop}
instance zwd:Stp (dOrA da db ρ n R) (da ρ n fun t n1=>truD t fun b=>if b=true then R t n1 else db ρ n1 R):=⟨fun h=>h⟩
instance zwa:Stp (dSlA d dlo dhi ρ n R) (d ρ n fun t n1=>dlo ρ n1 fun lo n2=>dhi ρ n2 fun hi n3=>oSlA t lo hi fun z=>R z n3):=⟨fun h=>h⟩
instance zvQ:Stp (oSlA (.tuple xs) lo hi Q) (Q (.tuple (cutD xs lo hi))):=⟨fun h=>h⟩
instance zvR:Stp (oSlA (.str x) lo hi Q) (x.length<=16777216/\Q (.str (cutS x lo hi))):=⟨fun h=>h⟩
instance zvX:Stp (Zt (.str x) (.int j) Q) (-100000<=j/\j<=100000/\x.length<=100/\Q (.str (repS x j))):=⟨fun h=>h⟩
instance zwe:Stp (dItS d ρ n Rl) (d ρ n fun t n'=>lStr t fun z=>Rl (sgnD z) n'):=⟨fun h=>h⟩
instance zvY {Rs:Str->Prop}:Stp (lStr (.str x) Rs) (Rs x):=⟨fun h=>h⟩
end
mutual
def plnD:af->Bool
 | .dict []=>true
 | .dict _=>false
 | .tuple ts=>decide (ts.length<=1000000)&&U0 ts
 | .list ts=>decide (ts.length<=1000000)&&U0 ts
 | .str x=>decide (x.length<=1000000)
 | _=>true
def U0:List af->Bool
 | []=>true
 | t::ts=>plnD t&&U0 ts
end
def PlnD(d:af):Prop:=plnD d=true
theorem zd4:∀{ts:qD},U0 ts=true↔∀t∈ts,PlnD t
 | []=>by simp[U0]
 | t::ts=>by
  rw[U0,aF,zd4 (ts:=ts)];constructor
  ·rintro⟨a,b⟩ u l;rcases aw.mp l with rfl|l
   ·exact a
   ·exact b u l
  ·intro h;exact⟨h t (by simp),fun u l=>h u (by simp[l])⟩
theorem PlnD.tup{ts:qD}(h:PlnD (.tuple ts)):ts.length<=1000000/\∀t∈ts,PlnD t:=by
 unfold PlnD plnD at h;rw[aF,decide_eq_true_iff,zd4]at h;exact h
theorem PlnD.str{x:Str}(h:PlnD (.str x)):x.length<=1000000:=by
 unfold PlnD plnD at h;exact decide_eq_true_iff.mp h
theorem zmV{ts:qD}(l:ts.length<=1000000)(h:∀t∈ts,PlnD t):PlnD (.tuple ts):=by
 unfold PlnD plnD;rw[aF,decide_eq_true_iff,zd4];exact⟨l,h⟩
theorem zir{x:Str}(h:x.length<=1000000):PlnD (.str x):=by unfold PlnD plnD;exact decide_eq_true h
theorem zmX{i:Int}:PlnD (.int i):=by unfold PlnD plnD;rfl
theorem zmW:∀t∈([]:qD),PlnD t:=fun t h=>nomatch h
theorem zd5{x:af}{xs:qD}(h:PlnD x)(h':∀t∈xs,PlnD t):∀t∈x::xs,PlnD t:=fun t l=>by
 rcases aw.mp l with rfl|l
 ·exact h
 ·exact h' t l
theorem PlnD.pln{d:af}(h:PlnD d):Pln d:=by
 cases d with
 | dict l =>
  cases l with
  | nil=>exact UU
  | cons a b=>cases a with|mk x y=>simp[PlnD,plnD]at h
 | none=>exact UW
 | bool=>exact Us
 | int=>exact Ut
 | str=>exact UN
 | list=>exact UV
 | tuple=>exact UR
def IsNm(s:Str):Prop:=1<=s.length/\s.length<=8/\∀c∈s.cps.toList,97<=c/\c<=122
def nmS(s:Str):Bool:=decide (1<=s.length)&&decide (s.length<=8)&&s.cps.toList.all fun c=>decide (97<=c)&&decide (c<=122)
theorem zpn{s:Str}:nmS s=true↔IsNm s:=by
 unfold nmS IsNm;simp only[aF,decide_eq_true_iff,bc,and_assoc]
def nmD:af->Bool
 | .str s=>nmS s
 | _=>false
theorem Qf(s:Str):s.cps.toList.length=s.length:=by simp[kG]
theorem zkQ{a b:Nat}:(([a]:List Nat)<[b])↔a<b:=by
 constructor
 ·intro h;cases h with
  | rel h=>exact h
  | cons h=>cases h
 ·intro h;exact .rel h
theorem zpu{a c:Nat}:(!decide (([c]:List Nat)<[a]))=decide (a<=c):=by
 rw[<- decide_not];exact decide_eq_decide.mpr (by rw[zkQ];lia)
theorem zia(a b:Str):(a++b).cps.toList=a.cps.toList++b.cps.toList:=by
 show(a.cps++b.cps).toList=_
 simp
theorem Str.ext'{a b:Str}(h:a.cps.toList=b.cps.toList):a=b:=by
 cases a with|mk a =>
 cases b with|mk b =>
 have:a=b:=nu.mp h;rw[this]
theorem zsr{x:Str}{i:Int}{k c:Nat}{R:af->Prop}(l:x.length<=16777216)(hi:i=(k:Int))(e:x.cps.toList[k]?=some c)(h:R (.str ⟨#[c]⟩)):oIx (.str x) (.int i) R:=by
 subst hi;have a:atI x.cps.toList (k:Int)=some c:=Bd.zeD (by lia) (by simpa using e)
 show x.length<=16777216/\(match atI x.cps.toList (k:Int) with|some c=>R (.str ⟨#[c]⟩)|none=>False)
 rw[a];exact⟨l,h⟩
theorem letters{k:Nat}(h:k<26):(ae "abcdefghijklmnopqrstuvwxyz").cps.toList[k]?=some (97+k):=by
 have:∀i:Fin 26,(ae "abcdefghijklmnopqrstuvwxyz").cps.toList[i.val]?=some (97+i.val):=by decide +kernel
 exact this ⟨k,h⟩
theorem zex{x:Str}{i:Int}{k:Nat}(h:i=(k:Int)):(cutS x none (some i)).cps.toList=x.cps.toList.take k:=by
 subst h;unfold cutS;rw[HT.zdy,HT.zhz];simp only[lD,mU];rw[<- Qf x];simp[kX]
theorem zg8{x:Str}{i:Int}{k:Nat}(h:i=(k:Int))(l:k<=x.length):(cutS x (some i) none).cps.toList=x.cps.toList.drop k:=by
 subst h;unfold cutS;rw[HT.zdy,HT.zhz,oa l];show(List.take _ (List.drop k x.cps.toList))=_
 rw[gG (by rw[dN,Qf];lia)]
def OkK(k:Nat)(t:af):Prop:=t.canLay0=true/\t.depth<=k
theorem OkK.okd{k:Nat}{t:af}(h:OkK k t)(l:k<=60:=by decide):Okd t:=⟨h.1,bG h.2 l⟩
theorem zpg{i:Int}:OkK 0 (.int i):=⟨by simp[bp],by simp[cC]⟩
theorem zm5:OkK 0 .none:=⟨by simp[bp],by simp[cC]⟩
theorem zpe{s:Str}(h:bp (.str s)=true):OkK 0 (.str s):=⟨h,by simp[cC]⟩
theorem OkK.mono{k u:Nat}{t:af}(h:OkK k t)(l:k<=u):OkK u t:=⟨h.1,bG h.2 l⟩
theorem zhK{k:Nat}:∀{ts:qD},(∀t∈ts,OkK k t)->aZ ts=true/\bN ts<=k
 | [],_=>⟨by simp[aZ],by simp[bN]⟩
 | t::ts,h=>by
  obtain⟨a,b⟩:=zhK (ts:=ts) fun u l=>h u (by simp[l])
  have c:=h t (by simp)
  refine⟨by simp[aZ,c.1,a],?_⟩
  have:=c.2;simp only[bN];lia
theorem zkW{k:Nat}{ts:qD}(h:∀t∈ts,OkK k t):OkK (k+1) (.tuple ts):=by
 obtain⟨a,b⟩:=zhK h;exact⟨by simpa only[bp] using a,by simp only[cC];lia⟩
theorem zpf{k:Nat}{ts:qD}(h:∀t∈ts,OkK k t):OkK (k+1) (.list ts):=by
 obtain⟨a,b⟩:=zhK h;exact⟨by simpa only[bp] using a,by simp only[cC];lia⟩
theorem zrP{b:Int×Int}:OkK 1 (prD b):=zkW fun t l=>by
 simp only[aw,aK,or_false]at l;rcases l with rfl|rfl <;> exact zpg
theorem YB{s:Str}(h:IsNm s):OkK 0 (.str s):=zpe (by
 simp only[bp];show(s.cps.all (·<0x110000))=true
 rw[<- Array.all_toList,bc];intro c hc;have:=h.2.2 c hc;exact decide_eq_true (by lia))
theorem znP{xs:qD}:dW (.list xs) (.list [])=xs.isEmpty:=by
 cases xs with
 | nil=>rfl
 | cons a b=>rfl
theorem UY{α:Type}{cs:List α}{D:α->af}{L:DTG}{tt:DTT}{d:DTE}{v:En}{n:Nat}{J:List af->Nat->Prop}(p:α->Bool)(F:α->af)(N:cs.length<=16777216)
  (step:∀b∈cs,∀(K:qN) (X:Nat->Prop),(p b=true->K (F b) n)->(p b=false->X n)->L (D b) v fun y=>tt y n fun c I=>if c=true then d y I K else X I) (fin:J ((cs.filter p).map F) n):JR L tt d v (cs.map D) [] n J:=by
 refine zlW (fun j u m=>m=n/\u=((cs.take j).filter p).map F) ⟨rfl,rfl⟩ ?_ ?_
 ·rintro j x u m K C ⟨rfl,rfl⟩ hK;rw[aU]at C;cases eb:cs[j]? with
  | none=>rw[eb]at C;cases C
  | some b =>
   rw[eb]at C;cases C;obtain⟨R,S⟩:=aA.mp eb;have tk:cs.take (j+1)=cs.take j++[b]:=by rw[dz,eb];rfl
   refine step b (aV eb) _ _ (fun G=>⟨?_,hK _ _ ⟨rfl,?_⟩⟩) (fun G=>hK _ _ ⟨rfl,?_⟩)
   ·have:=dY p (cs.take j);simp at this ⊢;lia
   ·rw[tk,mi,eu];simp[G]
   ·rw[tk,mi,eu];simp[G]
 ·rintro u m ⟨rfl,rfl⟩;rw[aL,cN];exact fin
theorem zmO{x:Str}{n:Int}:(repS x n).cps.toList=(bE n.toNat x.cps.toList).flatten:=rfl
theorem zss{xs:qD}{r:Int}{R:af->Prop}(v:0<=r)(y:r<xs.length)(h:∀x∈xs,R x):oIx (.list xs) (.int r) R:=by
 have u:r.toNat<xs.length:=by omega
 rw[Yz (Bd.zeD v (aI u))];exact h _ (cZ u)
theorem zn0{ts:qD}:cutD ts none (some (-1))=ts.take (ts.length - 1):=by
 unfold cutD;have e:HT.sIx ts.length ts.length (some (-1))=ts.length - 1:=by
  have:HT.sIx ts.length ts.length (some (-1))=if (-1:Int)<0 then((-1:Int)+(ts.length:Int)).toNat else min (-1:Int).toNat ts.length:=by
   first|rfl|(unfold HT.sIx;rfl)|(simp[HT.sIx];done)
  rw[this,if_pos (by decide)];omega
 rw[HT.zdy,e];simp
section
variable{prog:aG}{w:aP}{A:bo}{R:lY->au->Prop}{s:au}{elt tg1 it1 tg2 it2:aO}{EY EL:List aO}{scope:eU}{pos:Pos}{it acc:ah}{env:Env}
theorem zha(it acc:ah)(env:Env):compTurn (.ListComp elt [⟨tg1,it1,EY,0⟩,⟨tg2,it2,EL,0⟩] scope pos) 0 it acc env=(do
      standAt it1.pos
      match <- pyNext it with
      | none=>pure (.done .next)
      | some v =>
       letOwnedTupleGo tg1 it v
       assign tg1 env v
       let mut ok:=true
       for c in EY do
        if ok then ok <- isTrue c env (eval c env)
       if ok then
        let x <- eval it2 env
        standAt it2.pos
        let x <- foldedSetIterable it2 env x
        let _ <- runOwn (.compStart (.ListComp elt [⟨tg1,it1,EY,0⟩,⟨tg2,it2,EL,0⟩] scope pos) 1 (<- holding [x] (pyIter x)) acc env) env
       again (.compLoop (.ListComp elt [⟨tg1,it1,EY,0⟩,⟨tg2,it2,EL,0⟩] scope pos) 0 it acc env)):=by rfl
theorem zh1(it acc:ah)(env:Env):compTurn (.ListComp elt [⟨tg1,it1,EY,0⟩,⟨tg2,it2,EL,0⟩] scope pos) 1 it acc env=(do
      standAt it2.pos
      match <- pyNext it with
      | none=>pure (.done .next)
      | some v =>
       letOwnedTupleGo tg2 it v
       assign tg2 env v
       let mut ok:=true
       for c in EL do
        if ok then ok <- isTrue c env (eval c env)
       if ok then
        (do let _ <- call (.builtin "list.append") [acc,<- eval elt env])
       again (.compLoop (.ListComp elt [⟨tg1,it1,EY,0⟩,⟨tg2,it2,EL,0⟩] scope pos) 1 it acc env)):=by rfl
theorem zmy(I:Nat->au->Prop)
  (turn:∀n s,I n s->wpAny (model prog w) A (pyNext it) (fun r y=>match r with
   | none=>R (.ok .next) y
   | some v=>wpAny (model prog w) A (letOwnedTupleGo tg2 it v) (fun _ J=>wpAny (model prog w) A (assign tg2 env v) (fun _ U =>
     wpAny (model prog w) A (forIn EL true fun c r=>if r=true then do let ok <- isTrue c env (eval c env);pure (bX ok) else pure (bX r)) (fun ok G =>
      if ok=true then wpAny (model prog w) A (eval elt env) (fun x Y=>wpAny (model prog w) A (call (.builtin "list.append") [acc,x]) (fun _ S=>∃m,m<n/\I m S) NoX Y) NoX G
      else ∃m,m<n/\I m G) NoX U) NoX J) NoX y) NoX s) (n:Nat) (h:I n s) :
  codeAny (model prog w) A (.compLoop (.ListComp elt [⟨tg1,it1,EY,0⟩,⟨tg2,it2,EL,0⟩] scope pos) 1 it acc env) R s:=by
 refine mM rfl I (fun n s hI=>?_) n h
 show wpAny _ A ((compTurn (.ListComp elt [⟨tg1,it1,EY,0⟩,⟨tg2,it2,EL,0⟩] scope pos) 1 it acc env).onRaise (fun x=>do noteFrame x env;theTreesLotGoes x)) _ _ s
 refine nK (cE (E:=NoX) ?_ (fun _ _ q=>q) fun _ _ z=>bY z)
 rw[zh1];refine aa (c9 (aa (thn (turn n s hI) fun r y Z=>?_)))
 cases r with
 | none=>exact aj Z
 | some v =>
  refine aa (thn Z fun _ J h₂=>aa (thn h₂ fun _ U h₃=>aa (thn h₃ fun ok G N=>?_)))
  cases ok with
  | false=>exact aj ⟨rfl,N⟩
  | true =>
   refine aa (aa (thn N fun x Y h₅=>aa (thn h₅ fun _ S h₆=>?_)))
   exact aj (aj ⟨rfl,h₆⟩)
theorem zj_(hs:∀x,foldedSetIterable it2 env x=pure x)(I:Nat->au->Prop)
  (turn:∀n s,I n s->wpAny (model prog w) A (pyNext it) (fun r l=>match r with
   | none=>R (.ok .next) l
   | some v=>wpAny (model prog w) A (letOwnedTupleGo tg1 it v) (fun _ y=>wpAny (model prog w) A (assign tg1 env v) (fun _ N =>
     wpAny (model prog w) A (forIn EY true fun c r=>if r=true then do let ok <- isTrue c env (eval c env);pure (bX ok) else pure (bX r)) (fun ok u =>
      if ok=true then wpAny (model prog w) A (eval it2 env) (fun x U=>wpAny (model prog w) A (pyIter x) (fun itv J =>
       codeAny (model prog w) A (.compStart (.ListComp elt [⟨tg1,it1,EY,0⟩,⟨tg2,it2,EL,0⟩] scope pos) 1 itv acc env) (fun r Z=>r=.ok .next/\∃m,m<n/\I m Z) J) NoX U) NoX u
      else ∃m,m<n/\I m u) NoX N) NoX y) NoX l) NoX s) (n:Nat) (h:I n s) :
  codeAny (model prog w) A (.compLoop (.ListComp elt [⟨tg1,it1,EY,0⟩,⟨tg2,it2,EL,0⟩] scope pos) 0 it acc env) R s:=by
 refine mM rfl I (fun n s hI=>?_) n h
 show wpAny _ A ((compTurn (.ListComp elt [⟨tg1,it1,EY,0⟩,⟨tg2,it2,EL,0⟩] scope pos) 0 it acc env).onRaise (fun x=>do noteFrame x env;theTreesLotGoes x)) _ _ s
 refine nK (cE (E:=NoX) ?_ (fun _ _ q=>q) fun _ _ z=>bY z)
 rw[zha];refine aa (c9 (aa (thn (turn n s hI) fun r l Y=>?_)))
 cases r with
 | none=>exact aj Y
 | some v =>
  refine aa (thn Y fun _ y h₂=>aa (thn h₂ fun _ N h₃=>aa (thn h₃ fun ok u G=>?_)))
  cases ok with
  | false=>exact aj ⟨rfl,G⟩
  | true =>
   refine aa (thn G fun x U h₅=>aa (c9 (aa (nM (hs x) (aa (bz (thn h₅ fun itv J h₆=>?_)))))))
   refine aa (wpAny_runOwn (gp h₆ fun r Z h₇=>?_))
   obtain⟨rfl,m,hm,hI'⟩:=h₇;exact aj ⟨rfl,m,hm,hI'⟩
theorem zmC
  (h0:codeAny (model prog w) A (.compLoop (.ListComp elt [⟨tg1,it1,EY,0⟩,⟨tg2,it2,EL,0⟩] scope pos) 1 it acc env) R s)
  (h:wpAny (model prog w) A (pyIter it) (fun l s'=>codeAny (model prog w) A (.compLoop (.ListComp elt [⟨tg1,it1,EY,0⟩,⟨tg2,it2,EL,0⟩] scope pos) 1 l acc env) R s')
   (notedBy (model prog w) A env fun x s'=>R (.error x) s') s) :
  codeAny (model prog w) A (.compStart (.ListComp elt [⟨tg1,it1,EY,0⟩,⟨tg2,it2,EL,0⟩] scope pos) 1 it acc env) R s:=by
 refine codeAny_of_tree ?_;show wpAny _ _ ((compStart (.ListComp elt [⟨tg1,it1,EY,0⟩,⟨tg2,it2,EL,0⟩] scope pos) 1 it acc env).onRaise (fun x=>do noteFrame x env;standAt theWindowsPlace)) _ _ s
 refine wpAny_notedAt ?_;unfold compStart;show wpAny _ _ (PySem.ask >>= _) _ _ s
 refine aa (wpAny_askSetting (wpAny_ite ?_));split
 ·first
   | exact aa (aj (aj (lI rfl h0)))
   | exact aj (lI rfl h0)
 ·first
   | exact aa (eI (aa (c9 (aa (cE h (fun l s' h'=>aj (lI rfl h')) fun _ _ x=>x)))))
   | (refine aa (eI ?_);show wpAny _ _ (standAt it2.pos >>= _) _ _ s;exact aa (c9 (aa (cE h (fun l s' h'=>aj (lI rfl h')) fun _ _ x=>x))))
end
def YE(g:TG)(tt:TT)(S:TE)(σ:St)(J:It)(Y:Hp)(D:ak)(Q:Hp->Prop):Prop:=∃W:Nat->Nat->Hp->Prop,(∃m,W 0 m Y)/\∀i m G,W i m G ->
 (J.stop i G/\Q G)\/(J.go i G/\∃(N:V->Hp->Prop) (R:Hp->Prop),(∀v I,N v I->∃ys,I D=some (.lst ys)/\ys.length<sizeLine/\∃y,y<m/\W (i+1) y (upd I D (.lst (ys++[v]))))/\(∀C,R C->∃y,y<m/\W (i+1) y C) /\
  ∀x L,J.yld i G x L->g x σ L fun u U=>Wk σ u/\tt u U fun b C=>if b=true then S u C N else R C)
section
variable{Y:Cx}{elt tg1 it1 tg2 it2:aO}{EY EL:List aO}{scope:eU}{pos:Pos}{g:TG}{tt:TT}{te:TE}
theorem zln(u:Y.xe=NoX)(hc:Y.calm=true)(hg:PG Y tg2 g)(ht:PTs Y EL tt)(he:PE Y elt te){pins:qO}{σ:St}{D:ak}{G:ah}{s:au}{Q:Hp->Prop}{R:lY->au->Prop}
  (h:PIE Y pins σ tg2 (fun J H1=>YE g tt te σ J H1 D Q) G s) (hR:∀s' U,Inv Y pins σ U s'->Q U->R (.ok .next) s') :
  codeAny (model Y.prog Y.w) Y.A (.compStart (.ListComp elt [⟨tg1,it1,EY,0⟩,⟨tg2,it2,EL,0⟩] scope pos) 1 G (.ref D) Y.env) R s:=by
 obtain⟨it,fp,tn,J,H2,e,I2,T,I,f2,W,⟨m0,w0⟩,turn⟩:=h;subst e;have loop:codeAny (model Y.prog Y.w) Y.A (.compLoop (.ListComp elt [⟨tg1,it1,EY,0⟩,⟨tg2,it2,EL,0⟩] scope pos) 1 (.ref it) (.ref D) Y.env) R s:=by
  refine zmy (CompI Y pins σ fp tn W) ?_ m0 ⟨0,_,I2,I,fun b Z=>(f2 b Z).1,w0⟩
  rintro n s4 ⟨i,H4,I4,st4,fr4,w4⟩;refine zfh u hc hg ht T (fun hn b Z=>⟨hn b Z,(f2 b Z).2⟩) I4 st4 fr4 ?_
  rcases turn i n H4 w4 with⟨stop,qn⟩|⟨go,N,N',hN,hN',step⟩
  ·exact .inl ⟨stop,fun s5 I5=>hR _ _ I5 qn⟩
  ·refine .inr ⟨go,fun σ4 H5=>te σ4 H5 N,N',fun {p6 σ7 H8 s8} I8 q8 again=>?_,hN',step⟩
   have a3:=he _ s8 σ7 H8 N I8 q8;rw[u]at a3;refine thn a3 fun y s9 ⟨v,H9,I9,r9,q9⟩=>?_
   obtain⟨ys,hD,hl,m',hm,w9⟩:=hN v H9 q9;have a4:=zd9 (X:=Y) _ s9 σ7 H9 (.ref D) [v] _ [y] (fun _ U=>U=upd H9 D (.lst (ys++[v]))) I9 rfl (.cons r9 .nil) ⟨_,ys,v,rfl,rfl,hD,hl,rfl⟩
   rw[u]at a4;refine thn a4 fun _ s10 ⟨_,H10,I10,_,q10⟩=>?_
   subst q10;exact again I10 hm w9
 exact zmC loop (T.self Y.A 0 _ _ _ I loop)
end
def zmf(own:List Str)(capt:List Nat)(g:TG)(tt:TT)(L:TI)(g2:TG)(I:TT)(U:TE)(σ:St)(J:It)(Z:Hp)(D:ak)(Q:VK):Prop:=∃W:Nat->Nat->Hp->Prop,(∃m,W 0 m (upd Z D (.lst [])))/\∀i m C,W i m C ->
 (J.stop i C/\Q (.ref D) C)\/(J.go i C/\∃(N S:Hp->Prop),(∀G,N G->∃v,v<m/\W (i+1) v G)/\(∀y,S y->∃v,v<m/\W (i+1) v y) /\
  ∀x R,J.yld i C x R->g x (Jx own++capS capt σ) R fun u Y=>Wk (Jx own++capS capt σ) u/\tt u Y fun b y=>if b=true then L u y (fun J2 G=>YE g2 I U u J2 G D N) else S y)
def zqF(own:List Str)(capt:List Nat)(y:TI)(g:TG)(tt:TT)(l:TI)(g2:TG)(u:TT)(x:TE):TE:=fun σ H Q=>y σ H fun J v=>∀D,v D=none->zmf own capt g tt l g2 u x σ J v D Q
section
variable{X:Cx}{scope:eU}{own:List Str}{capt:List Nat}{elt tg iter tg2 it2:aO}{ifs EL:List aO}{pos:Pos}{wi wi2:TI}{g g2:TG}{tt tt2:TT}{te:TE}
theorem zlT(hc:X.calm=true)(S:JG scope own capt X)
  (hg:∀C s₀ H₀ v,PG (Jf X scope own capt C s₀ H₀ v) tg g) (ht:∀C s₀ H₀ v,PTs (Jf X scope own capt C s₀ H₀ v) ifs tt) (hi2:∀C s₀ H₀ v,PI (Jf X scope own capt C s₀ H₀ v) tg2 it2 wi2)
  (hg2:∀C s₀ H₀ v,PG (Jf X scope own capt C s₀ H₀ v) tg2 g2) (ht2:∀C s₀ H₀ v,PTs (Jf X scope own capt C s₀ H₀ v) EL tt2) (he:∀C s₀ H₀ v,PE (Jf X scope own capt C s₀ H₀ v) elt te)
  (hs2:∀(C:ak) (x:ah),foldedSetIterable it2 (compEnvC scope (closed X.env scope.names []) C X.env) x=pure x)
  {pins:qO} {σ:St} {Q:VK} {R:ah} {s2:au} {E:qV} {RR:ah->ak->lY->au->Prop}
  (h2:PIE X pins σ tg (fun J H1=>∀D,H1 D=none->zmf own capt g tt wi2 g2 tt2 te σ J H1 D Q) R s2)
  (hR:∀D C s' U,(∃m,s'.heap.Ns C m)->(∀h'',dJ C s'.heap h''->Inv X pins σ U { s' with heap:=h'' })->U C=none->FpOk X pins U C->Q (.ref D) U->RR (.ref D) C (.ok .next) s') :
  wpAny (model X.prog X.w) X.A (newList []) (fun I Z=>wpAny (model X.prog X.w) X.A (newFunctionEnv scope X.env.globals (closed X.env scope.names []) [] X.env.qual none .none (some X.env)) (fun u G =>
   codeAny (model X.prog X.w) X.A (.compStart (.ListComp elt [⟨tg,iter,ifs,0⟩,⟨tg2,it2,EL,0⟩] scope pos) 0 R I { u with scope:=relabel scope X.env }) (RR I u.locals) G) E Z) E s2:=by
 refine zg_ (CA:=fun I u G=>codeAny (model X.prog X.w) X.A (.compStart (.ListComp elt [⟨tg,iter,ifs,0⟩,⟨tg2,it2,EL,0⟩] scope pos) 0 R I u) (RR I u.locals) G) S h2 fun it v tn J H2 D C h₁ e T rd hnD st1 fr0 J0 HC out=>?_
 subst e;obtain⟨W,⟨m0,w0⟩,turn⟩:=rd _ hnD;have loop:∀tk:Tok,codeAny (model X.prog X.w) X.A (.compLoop (.ListComp elt [⟨tg,iter,ifs,0⟩,⟨tg2,it2,EL,0⟩] scope pos) 0 (.ref it) (.ref D) (compEnvC scope (closed X.env scope.names []) C X.env)) (RR (.ref D) C) { s2 with heap:=h₁,toks:=tk }:=fun tk=>by
  refine zj_ (hs2 _) (CompI (Jf X scope own capt C s2 H2 v) [] (Jx own++capS capt σ) v tn W) ?_ m0 ⟨0,_,J0 tk,st1,fr0,w0⟩;rintro n s4 ⟨i,H4,I4,st4,fr4,w4⟩;refine zfh (Y:=Jf X scope own capt C s2 H2 v) rfl hc (hg _ _ _ _) (ht _ _ _ _) T HC I4 st4 fr4 ?_;rcases turn i n H4 w4 with⟨stop,qn⟩|⟨go,N,N',hN,hN',step⟩
  ·exact .inl ⟨stop,fun s5 I5=>let ⟨o1,o2,o3,o4⟩:=out s5 H4 I5;hR _ _ s5 H4 o1 o2 o3 o4 qn⟩
  ·refine .inr ⟨go,fun σ4 H5=>wi2 σ4 H5 (fun J2 H6=>YE g2 tt2 te σ4 J2 H6 D N),N',fun {p6 σ7 H8 s8} I8 q8 again=>?_,hN',step⟩
   refine thn (hi2 _ _ _ _ _ s8 σ7 H8 _ I8 q8) fun y s9 h9=>thn h9 fun itv2 s10 h10=>?_
   refine zln (Y:=Jf X scope own capt C s2 H2 v) rfl hc (hg2 _ _ _ _) (ht2 _ _ _ _) (he _ _ _ _) h10 fun s' U I' q'=>⟨rfl,?_⟩
   obtain⟨m',hm,w9⟩:=hN U q';exact again I' hm w9
 exact kI (loop _) (T.self X.A 0 _ _ _ st1 (loop _))
theorem zkG(hc:X.calm=true)(S:JG scope own capt X)(hi:PI X tg iter wi)
  (hg:∀C s₀ H₀ l,PG (Jf X scope own capt C s₀ H₀ l) tg g) (Z:∀C s₀ H₀ l,PTs (Jf X scope own capt C s₀ H₀ l) ifs tt) (R:∀C s₀ H₀ l,PI (Jf X scope own capt C s₀ H₀ l) tg2 it2 wi2)
  (u:∀C s₀ H₀ l,PG (Jf X scope own capt C s₀ H₀ l) tg2 g2) (U:∀C s₀ H₀ l,PTs (Jf X scope own capt C s₀ H₀ l) EL tt2) (he:∀C s₀ H₀ l,PE (Jf X scope own capt C s₀ H₀ l) elt te)
  (hs:∀x,foldedSetIterable iter X.env x=pure x:=by intro _;rfl) (N:∀(C:ak) (x:ah),foldedSetIterable it2 (compEnvC scope (closed X.env scope.names []) C X.env) x=pure x:=by intro _ _;rfl) :
  PE X (.ListComp elt [⟨tg,iter,ifs,0⟩,⟨tg2,it2,EL,0⟩] scope pos) (zqF own capt wi g tt wi2 g2 tt2 te):=by
 intro pins s σ H Q I h;rw[eval_ListComp];refine fV (use:=none) rfl hs (zbf (S.cells I.ok)) S.kind S.names (thn (hi pins s σ H _ I h) fun v s1 h1=>thn h1 fun Y s2 h2=>?_)
 refine zlT (RR:=fun y C=>compPost (model X.prog X.w) X.A X.xe none (EP X pins σ Q) y C) hc S hg Z R u U he N h2 fun D C s' H' G J _ _ q=>?_
 obtain⟨m,G⟩:=G;exact⟨m,G,fun h'' sb=>⟨.ref D,H',J h'' sb,rfl,q⟩⟩
end
theorem zjM{J:It}{n:Nat}{g:TG}{tt:TT}{N:TE}{σ:St}{I:Hp}{D:ak}{Q:Hp->Prop}(C:Nat->List V->Hp->Prop)(h0:∃ys,I D=some (.lst ys)/\C 0 ys I)
  (turn:∀i ys u,i<n->u D=some (.lst ys)->C i ys u->J.go i u/\∀x R,J.yld i u x R->g x σ R fun y U=>Wk σ y/\tt y U fun b G =>
   if b=true then N y G (fun v L=>∃zs,L D=some (.lst zs)/\zs.length<sizeLine/\C (i+1) (zs++[v]) (upd L D (.lst (zs++[v])))) else ∃zs,G D=some (.lst zs)/\C (i+1) zs G)
  (stop:∀ys u,u D=some (.lst ys)->C n ys u->J.stop n u/\Q u):YE g tt N σ J I D Q:=by
 refine⟨fun i m H=>m=n - i/\i<=n/\∃ys,H D=some (.lst ys)/\C i ys H,⟨n,rfl,eF _,h0⟩,?_⟩
 rintro i m u ⟨rfl,hi,ys,S,p⟩
 by_cases hlt:i<n
 ·obtain⟨go,st⟩:=turn i ys u hlt S p;refine .inr ⟨go,_,_,?_,?_,st⟩
  ·rintro v L ⟨zs,e,l,q⟩;exact⟨zs,e,l,n - (i+1),by omega,rfl,hlt,_,JM,q⟩
  ·rintro G ⟨zs,e,q⟩;exact⟨n - (i+1),by omega,rfl,hlt,zs,e,q⟩
 ·have e:i=n:=by omega
  subst e;exact .inl (stop ys u S p)
theorem zjR{J:It}{n:Nat}{own:List Str}{capt:List Nat}{g g2:TG}{tt C:TT}{G:TI}{L:TE}{σ:St}{N:Hp}{D:ak}{Q:VK}(y:Nat->List V->Hp->Prop)(h0:y 0 [] (upd N D (.lst [])))
  (turn:∀i ys u,i<n->u D=some (.lst ys)->y i ys u->J.go i u/\∀x U,J.yld i u x U->g x (Jx own++capS capt σ) U fun v Z=>Wk (Jx own++capS capt σ) v/\tt v Z fun b I =>
   if b=true then G v I (fun J2 S=>YE g2 C L v J2 S D fun R=>∃zs,R D=some (.lst zs)/\y (i+1) zs R) else ∃zs,I D=some (.lst zs)/\y (i+1) zs I)
  (stop:∀ys u,u D=some (.lst ys)->y n ys u->J.stop n u/\Q (.ref D) u) :
  zmf own capt g tt G g2 C L σ J N D Q:=by
 refine⟨fun i m H=>m=n - i/\i<=n/\∃ys,H D=some (.lst ys)/\y i ys H,⟨n,rfl,eF _,[],JM,h0⟩,?_⟩
 rintro i m u ⟨rfl,hi,ys,Y,p⟩
 by_cases hlt:i<n
 ·obtain⟨go,st⟩:=turn i ys u hlt Y p;refine .inr ⟨go,_,_,?_,?_,st⟩
  ·rintro S ⟨zs,e,q⟩;exact⟨n - (i+1),by omega,rfl,hlt,zs,e,q⟩
  ·rintro I ⟨zs,e,q⟩;exact⟨n - (i+1),by omega,rfl,hlt,zs,e,q⟩
 ·have e:i=n:=by omega
  subst e;exact .inl (stop ys u Y p)
theorem DI.uni{L:Type}{Xf:L->Cx}{K:qF}(y:∀i,(Xf i).K=K){x e:aO}{d:DTA}(h:∀i,DI (Xf i) x e d):∃G:TI,(∀i,PI (Xf i) x e G)/\∀(C:Ctx) (u:En) (σ:St) (H:Hp) (n:Nat) (Q:It->Hp->Prop) (R:List af->Nat->Prop),Stt K C u σ H n->d u n R ->
  (∀ts v J l,R ts v->ExtE C.hd H l->Hn C.hd l v->ItOk K C.hd (fun a=>¬Own C u σ a) (Own C u σ) l J ts->Q J l)->G σ H Q:=by
 refine⟨fun σ H Q=>∀i,(gP (h i)) σ H Q,fun i pins s σ H R I hw=>(cw (h i)).1 pins s σ H R I (hw i),fun C u σ H n Q R S hd N i=>?_⟩
 have:=(cw (h i)).2 C u σ H n Q R;exact this (by rw[y i];exact S) hd fun t v J l r e h q=>N t v J l r e h (by rw[<- y i];exact q)
theorem Stt.onX{K:qF}{C:Ctx}{N:En}{σ:St}{H J:Hp}{n R:Nat}(S:Stt K C N σ H n)(k:∀a o,H a=some o->¬C.ext a->J a=some o)(hl:∀a,C.ext a->MutO (J a))(Z:∀a L,H a=some (.dK L)->C.ext a->C.hd≠some a->J a=some (.dK L))(hn:Hn C.hd J R):Stt K C N σ J R where
 len:=S.len
 val:=fun i d hi=>by
  obtain⟨v,x,y⟩:=S.val i d hi;exact⟨v,x,y.mono (fun _ _ _ z=>z) fun a o no h=>k a o h fun z=>no (.inl z)⟩
 own:=fun i ds hi=>by
  obtain⟨a,G,x,y,I,u⟩:=S.own i ds hi;exact⟨a,G,x,k a _ y u,I.mono (fun _ _ _ z=>z) (fun a o no h=>k a o h fun z=>no (.inl z)),u⟩
 dct:=fun i ds hi=>by
  obtain⟨a,G,x,y,I,u⟩:=S.dct i ds hi;exact⟨a,G,x,k a _ y u,I.mono (fun _ _ _ z=>z) (fun a o no h=>k a o h fun z=>no (.inl z)),u⟩
 rdo:=fun i ds hi=>by
  obtain⟨a,G,x,y,I,u,U⟩:=S.rdo i ds hi;exact⟨a,G,x,Z a _ y u U,I.mono (fun _ _ _ z=>z) (fun a o no h=>k a o h fun z=>no (.inl z)),u,U⟩
 dtt:=fun i ds hi=>by
  obtain⟨a,G,Y,x,y,I,u⟩:=S.dtt i ds hi;exact⟨a,G,Y,x,k a _ y u,I.mono (fun _ _ _ z=>z) (fun a o no h=>k a o h fun z=>no (.inl z)),u⟩
 dif:=S.dif
 hnd:=hn
 ext:=hl
 hx:=S.hx
def Uu(g:DTG)(tt:DTT)(u:DTA)(g2:DTG)(v:DTT)(G:DTE)(l:En):List af->List af->Nat->(List af->Nat->Prop)->Prop
 | [],acc,n,R=>R acc n
 | x::xs,acc,n,R=>g x l fun y=>tt y n fun b I=>if b=true then u y I fun ts L=>JR g2 v G y ts acc L fun C J=>Uu g tt u g2 v G l xs C J R else Uu g tt u g2 v G l xs acc I R
def zlN(m:Nat)(capt:List Nat)(y:DTA)(g:DTG)(tt:DTT)(l:DTA)(g2:DTG)(u:DTT)(C:DTE):DTA:=fun v n R=>y v n fun ts x=>Uu g tt l g2 u C (JC m capt v) ts [] x R
section
variable{X:Cx}{scope:eU}{own:List Str}{capt:List Nat}{elt tg iter tg2 it2:aO}{ifs EL:List aO}{pos:Pos}{di di2:DTA}{is is2:List Nat}{g g2:DTG}{tt tt2:DTT}{te:DTE}
theorem znV(hc:X.calm=true)(S:JG scope own capt X)(hi:DIL X tg iter di)
  (hg:∀C s₀ H₀ I,DG (Jf X scope own capt C s₀ H₀ I) tg is g) (hin:∀i∈is,i<own.length) (ht:∀C s₀ H₀ I,DTs (Jf X scope own capt C s₀ H₀ I) ifs tt)
  (hi2:∀C s₀ H₀ I,DI (Jf X scope own capt C s₀ H₀ I) tg2 it2 di2) (hg2:∀C s₀ H₀ I,DG (Jf X scope own capt C s₀ H₀ I) tg2 is2 g2) (hin2:∀i∈is2,i<own.length/\i∉is) (ht2:∀C s₀ H₀ I,DTs (Jf X scope own capt C s₀ H₀ I) EL tt2)
  (he:∀C s₀ H₀ I,DE (Jf X scope own capt C s₀ H₀ I) elt te)
  (hs:∀x,foldedSetIterable iter X.env x=pure x:=by intro _;rfl) (hs2:∀(C:ak) (x:ah),foldedSetIterable it2 (compEnvC scope (closed X.env scope.names []) C X.env) x=pure x:=by intro _ _;rfl) :
  DN X (.ListComp elt [⟨tg,iter,ifs,0⟩,⟨tg2,it2,EL,0⟩] scope pos) (zlN own.length capt di g tt di2 g2 tt2 te):=by
 obtain⟨wi,pi,hi⟩:=hi
 let Xf:(ak×au×Hp×List ak)->Cx:=fun q=>Jf X scope own capt q.1 q.2.1 q.2.2.1 q.2.2.2
 have hK:∀q,(Xf q).K=X.K:=fun _=>rfl
 have hne:Nonempty (ak×au×Hp×List ak):=⟨(0,X.s₀,X.H₀,[])⟩;obtain⟨gg,pg,hgg⟩:=DG.uni (Xf:=Xf) hK fun q=>hg q.1 q.2.1 q.2.2.1 q.2.2.2
 obtain⟨gt,pt,hgt⟩:=DTs.uni (Xf:=Xf) hK fun q=>ht q.1 q.2.1 q.2.2.1 q.2.2.2
 obtain⟨wi2,pi2,hwi2⟩:=DI.uni (Xf:=Xf) hK fun q=>hi2 q.1 q.2.1 q.2.2.1 q.2.2.2
 obtain⟨gg2,pg2,hgg2⟩:=DG.uni (Xf:=Xf) hK fun q=>hg2 q.1 q.2.1 q.2.2.1 q.2.2.2
 obtain⟨gt2,pt2,hgt2⟩:=DTs.uni (Xf:=Xf) hK fun q=>ht2 q.1 q.2.1 q.2.2.1 q.2.2.2
 obtain⟨ge,pe,hge⟩:=DE.uni (Xf:=Xf) hK fun q=>he q.1 q.2.1 q.2.2.1 q.2.2.2
 refine⟨_,zkG hc S pi (fun C s₀ H₀ I=>pg (C,s₀,H₀,I)) (fun C s₀ H₀ I=>pt (C,s₀,H₀,I)) (fun C s₀ H₀ I=>pi2 (C,s₀,H₀,I)) (fun C s₀ H₀ I=>pg2 (C,s₀,H₀,I)) (fun C s₀ H₀ I=>pt2 (C,s₀,H₀,I)) (fun C s₀ H₀ I=>pe (C,s₀,H₀,I)) hs hs2,fun C N σ H n Q R St hd hq=>?_⟩
 refine hi C N σ H n _ _ St hd fun ts n1 J H1 r e1 hn it=>fun D hD1=>?_
 have St1:=St.on e1 hn;have hD:H D=none:=Vc e1 hn hD1;have nhd:C.hd≠some D:=fun z=>St.dom (.inl (St.hx D z)) hD
 refine zjR (n:=ts.length) (fun i ys H2=>∃Y n2,Uu g tt di2 g2 tt2 te (JC own.length capt N) (ts.drop i) Y n2 R/\Reps X.K C.hd (fun a=>Own C N σ a\/a=D) H2 ys Y/\ExtE C.hd H1 H2/\Hn C.hd H2 n2)
  ⟨[],n1,by simpa using r,.nil,ExtE.new hD1,hn.same (JS hD1)⟩ ?_ ?_
 ·rintro i ys H2 hlt hy ⟨Y,n2,c2,r2,e2,hn2⟩;have et:ts[i]?=some ts[i]:=aI hlt;rw[cf hlt]at c2;have itq:=it (fun a=>Own C N σ a\/a=D) H2 (fun a o u nh=>e2 a o u nh) (fun a o u no z=>z.elim no fun z=>by subst z;rw[hD1]at u;cases u) (fun a z=>z.elim (fun z=>(St1.on e2 hn2).dom z) fun z=>by subst z;rw[hy];exact fun z=>by cases z)
  obtain⟨go,yl⟩:=itq.1 i _ et;refine⟨go,fun x H3 hyd=>?_⟩
  obtain⟨sm,rx⟩:=yl x H3 hyd;have hn3:=hn2.same sm;have e3:ExtE C.hd H1 H3:=e2.trans sm.ext;obtain⟨I3,no3⟩:=zjd (own:=own) (capt:=capt) (D:=D) (ys:=ys) St (e1.trans e3) hn3 hD (sm _ _ hy);have rx':Rep X.K C.hd (Own ⟨C.hd,fun a=>Own C N σ a\/a=D⟩ (JC own.length capt N) (Jx own++capS capt σ)) H3 x ts[i]:=rx.mono (fun a o _ z=>z.elim id fun z=>absurd z (no3 a)) fun _ _ _ z=>z
  refine hgg ⟨C.hd,fun a=>Own C N σ a\/a=D⟩ (JC own.length capt N) (Jx own++capS capt σ) H3 n2 x ts[i] _ _ I3 rx' c2 fun U σ4 r4 S4 k4 hj hl=>⟨Wk.of hl.symm fun j v ej=>zn7 hin hj ej,?_⟩
  ·refine hgt _ U σ4 H3 n2 _ _ S4 r4 fun b n5 H5 r5 e5 hn5=>?_
   have S5:=S4.on e5 hn5;have hy5:H5 D=some (.lst ys):=e5 D _ (sm _ _ hy) nhd;have r25:∀{H6},ExtE C.hd H2 H6->Reps X.K C.hd (fun a=>Own C N σ a\/a=D) H6 ys Y:=fun e=>r2.mono (fun _ _ _ z=>z) fun a o no u=>e a o u fun z=>no (.inl (.inl (St.hx a z)))
   cases b with
   | false =>
    refine iteF ⟨ys,hy5,Y,n5,by simpa using r5,r25 ((Same.ext sm).trans e5),e3.trans e5,hn5⟩
   | true =>
    refine iteT (hwi2 ⟨C.hd,fun a=>Own C N σ a\/a=D⟩ U σ4 H5 n5 _ _ S5 (by simpa using r5) fun us n6 J2 H6 r6 e6 hn6 it6=>?_)
    have S6:=S5.on e6 hn6;have hy6:H6 D=some (.lst ys):=e6 D _ hy5 nhd;refine zjM (n:=us.length) (fun k zs H7=>∃G n7,JR g2 tt2 te U (us.drop k) G n7 (fun G n4=>Uu g tt di2 g2 tt2 te (JC own.length capt N) (ts.drop (i+1)) G n4 R)/\Reps X.K C.hd (fun a=>Own C N σ a\/a=D) H7 zs G/\ExtE C.hd H1 H7/\Hn C.hd H7 n7/\∀a o,H6 a=some o->¬(Own C N σ a\/a=D)->H7 a=some o)
     ⟨ys,hy6,Y,n6,by simpa using r6,r25 ((Same.ext sm).trans (e5.trans e6)),e3.trans (e5.trans e6),hn6,fun _ _ h _=>h⟩ ?_ ?_
    ·rintro k zs H7 hk hz ⟨G,n7,c7,r7,e7,hn7,k7⟩;have et2:us[k]?=some us[k]:=aI hk;rw[cf hk]at c7;have S7:Stt X.K ⟨C.hd,fun a=>Own C N σ a\/a=D⟩ U σ4 H7 n7:=S6.onX k7 (fun a z=>z.elim (fun z=>(St1.on e7 hn7).lst z) fun z=>by subst z;exact .inl ⟨_,hz⟩) (fun a ks u z nh=>z.elim (fun z=>by
      have e16:ExtE C.hd H1 H6:=e3.trans (e5.trans e6);rcases St1.lst z with⟨xs,q⟩|⟨xs,q⟩|⟨b,xs,ep,q⟩
      ·rw[e16 a _ q nh]at u;cases u
      ·rw[e16 a _ q nh]at u;cases u;exact e7 a _ q nh
      ·rw[e16 a _ q nh]at u;cases u) (fun z=>by subst z;rw[hy6]at u;cases u)) hn7
     have Ij:=it6 (Own ⟨C.hd,fun a=>Own C N σ a\/a=D⟩ U σ4) H7 (fun a o u no=>k7 a o u fun z=>no (.inl z)) (fun a o u no=>no) (fun a z=>S7.dom z)
     obtain⟨go2,yl2⟩:=Ij.1 k _ et2;refine⟨go2,fun y H8 hyd2=>?_⟩
     obtain⟨Z,ry⟩:=yl2 y H8 hyd2;have hn8:=hn7.same Z;have S8:=S7.on (Same.ext Z) hn8;refine hgg2 _ U σ4 H8 n7 y us[k] _ _ S8 ry c7 fun ρ9 σ9 r9 S9 k9 hj9 hl9=>⟨Wk.of hl9.symm fun j v ej=>?_,?_⟩
     ·by_cases hjo:j∈is2
      ·exfalso;obtain⟨lo,nis⟩:=hin2 j hjo;rw[hj j nis,cc (by simpa using lo),aU]at ej
       cases z:own[j]? with
       | none=>rw[z]at ej;cases ej
       | some q=>rw[z]at ej;cases ej
      ·rw[hj9 j hjo];exact ej
     ·refine hgt2 _ ρ9 σ9 H8 n7 _ _ S9 r9 fun b n10 H10 r10 e10 hn10=>?_
      have S10:=S9.on e10 hn10;have Iv:H10 D=some (.lst zs):=e10 D _ (Z _ _ hz) nhd;have Ik:∀{H'},ExtE C.hd H7 H'->Reps X.K C.hd (fun a=>Own C N σ a\/a=D) H' zs G:=fun e=>r7.mono (fun _ _ _ z=>z) fun a o no u=>e a o u fun z=>no (.inl (.inl (St.hx a z)))
      have kk:∀{H'},ExtE C.hd H7 H'->∀a o,H6 a=some o->¬(Own C N σ a\/a=D)->H' a=some o:=fun e a o u no=>e a o (k7 a o u no) fun z=>no (.inl (.inl (St.hx a z)))
      cases b with
      | false=>exact iteF ⟨zs,Iv,G,n10,by simpa using r10,Ik ((Same.ext Z).trans e10),e7.trans ((Same.ext Z).trans e10),hn10,kk ((Same.ext Z).trans e10)⟩
      | true =>
       refine iteT (hge _ ρ9 σ9 H10 n10 _ _ S10 (by simpa using r10) fun t n11 v H11 r11 e11 hn11 q11=>?_)
       have hz11:H11 D=some (.lst zs):=e11 D _ Iv nhd;have Ia:ExtE C.hd H7 H11:=(Same.ext Z).trans (e10.trans e11);have rl:=(Ik Ia).length;refine⟨zs,hz11,by rw[rl];exact r11.1,G++[t],n11,r11.2,?_,?_,?_,?_⟩
       ·have q11':Rep X.K C.hd (fun a=>Own C N σ a\/a=D) H11 v t:=q11.mono (fun _ _ _ z=>.inl z) fun _ _ _ z=>z
        have all:=(Ik Ia).append (Reps.cons q11' .nil);exact all.mono (fun _ _ _ z=>z) fun a o no u=>by rw[Jn (show a≠D from fun z=>no (.inr z))];exact u
       ·exact ExtE.updR hD1 (e7.trans Ia)
       ·exact Hn.updR nhd hn11
       ·exact fun a o u no=>by
         rw[Jn (show a≠D from fun z=>no (.inr z))]
         exact kk Ia a o u no
    ·rintro zs H7 hz ⟨G,n7,c7,r7,e7,hn7,k7⟩;rw[gO]at c7;have S7:Stt X.K ⟨C.hd,fun a=>Own C N σ a\/a=D⟩ U σ4 H7 n7:=S6.onX k7 (fun a z=>z.elim (fun z=>(St1.on e7 hn7).lst z) fun z=>by subst z;exact .inl ⟨_,hz⟩) (fun a ks u z nh=>z.elim (fun z=>by
      have e16:ExtE C.hd H1 H6:=e3.trans (e5.trans e6);rcases St1.lst z with⟨xs,q⟩|⟨xs,q⟩|⟨b,xs,ep,q⟩
      ·rw[e16 a _ q nh]at u;cases u
      ·rw[e16 a _ q nh]at u;cases u;exact e7 a _ q nh
      ·rw[e16 a _ q nh]at u;cases u) (fun z=>by subst z;rw[hy6]at u;cases u)) hn7
     have Ij:=it6 (Own ⟨C.hd,fun a=>Own C N σ a\/a=D⟩ U σ4) H7 (fun a o u no=>k7 a o u fun z=>no (.inl z)) (fun a o u no=>no) (fun a z=>S7.dom z)
     exact⟨Ij.2,zs,hz,G,n7,c7,r7,e7,hn7⟩
 ·rintro ys H2 hy ⟨Y,n2,c2,r2,e2,hn2⟩;rw[gO]at c2;have itq:=it (fun a=>Own C N σ a\/a=D) H2 (fun a o u nh=>e2 a o u nh) (fun a o u no z=>z.elim no fun z=>by subst z;rw[hD1]at u;cases u) (fun a z=>z.elim (fun z=>(St1.on e2 hn2).dom z) fun z=>by subst z;rw[hy];exact fun z=>by cases z)
  exact⟨itq.2,hq Y n2 D ys H2 c2 (e1.trans e2) hn2 hD hy r2⟩
end
section
variable{ρ ρ0:En}{n m:Nat}{di di2:DTA}{g g2:DTG}{tt tt2:DTT}{te:DTE}{capt:List Nat}{Rl:List af->Nat->Prop}
instance zuX [h:CompN m capt ρ ρ0]:Stp (zlN m capt di g tt di2 g2 tt2 te ρ n Rl) (di ρ n fun ts n1=>Uu g tt di2 g2 tt2 te ρ0 ts [] n1 Rl):=⟨fun k=>by unfold zlN;rw[h.e];exact k⟩
end
abbrev Run:=Int×Int
def NR(rs:List Run):Prop:=(∀r∈rs,r.1<r.2)/\rs.Pairwise fun a b=>a.2<b.1
def mR(x:Int)(rs:List Run):Prop:=∃r∈rs,r.1<=x/\x<r.2
def mB(x:Int)(bs:qB):Prop:=∃b∈bs,b.1<=x/\x<eB b
theorem JQ{x:Int}{r:Run}{rs:List Run}:mR x (r::rs)↔(r.1<=x/\x<r.2)\/mR x rs:=by
 unfold mR;constructor
 ·rintro⟨s,u,h⟩;rcases aw.mp u with rfl|u
  ·exact .inl h
  ·exact .inr ⟨s,u,h⟩
 ·rintro(h|⟨s,u,h⟩)
  ·exact⟨r,by simp,h⟩
  ·exact⟨s,by simp[u],h⟩
theorem Qn{x:Int}:¬mR x []:=fun⟨_,h,_⟩=>nomatch h
theorem Ul{x:Int}{rs ss:List Run}:mR x (rs++ss)↔mR x rs\/mR x ss:=by
 unfold mR;constructor
 ·rintro⟨s,u,h⟩;rcases aE.mp u with u|u
  ·exact .inl ⟨s,u,h⟩
  ·exact .inr ⟨s,u,h⟩
 ·rintro(⟨s,u,h⟩|⟨s,u,h⟩)
  ·exact⟨s,by simp[u],h⟩
  ·exact⟨s,by simp[u],h⟩
theorem zhM{x:Int}{b:Int×Int}{bs:qB}:mB x (b::bs)↔(b.1<=x/\x<eB b)\/mB x bs:=by
 unfold mB;constructor
 ·rintro⟨s,u,h⟩;rcases aw.mp u with rfl|u
  ·exact .inl h
  ·exact .inr ⟨s,u,h⟩
 ·rintro(h|⟨s,u,h⟩)
  ·exact⟨b,by simp,h⟩
  ·exact⟨s,by simp[u],h⟩
theorem YQ{x:Int}:¬mB x []:=fun⟨_,h,_⟩=>nomatch h
theorem YO{x:Int}{bs cs:qB}:mB x (bs++cs)↔mB x bs\/mB x cs:=by
 unfold mB;constructor
 ·rintro⟨s,u,h⟩;rcases aE.mp u with u|u
  ·exact .inl ⟨s,u,h⟩
  ·exact .inr ⟨s,u,h⟩
 ·rintro(⟨s,u,h⟩|⟨s,u,h⟩)
  ·exact⟨s,by simp[u],h⟩
  ·exact⟨s,by simp[u],h⟩
theorem zk5{x:Int}{bs cs:qB}(h:bs.Perm cs):mB x bs↔mB x cs:=by
 unfold mB;constructor
 ·rintro⟨s,l,q⟩;exact⟨s,h.mem_iff.mp l,q⟩
 ·rintro⟨s,l,q⟩;exact⟨s,h.mem_iff.mpr l,q⟩
theorem NR.tail{r:Run}{rs:List Run}(h:NR (r::rs)):NR rs:=⟨fun s l=>h.1 s (by simp[l]),(c8.mp h.2).2⟩
theorem NR.ahead{r:Run}{rs:List Run}(h:NR (r::rs)){x:Int}(hx:mR x rs):r.2<x:=by
 obtain⟨s,l,u,v⟩:=hx;have:=(c8.mp h.2).1 s l;lia
theorem NR.uniq:∀{rs ss:List Run},NR rs->NR ss->(∀x,mR x rs↔mR x ss)->rs=ss
 | [],[],_,_,_=>rfl
 | [],s::ss,_,h,e=>by
  exfalso;have:=h.1 s (by simp)
  exact Qn ((e s.1).mpr (JQ.mpr (.inl ⟨aX _,this⟩)))
 | r::rs,[],h,_,e=>by
  exfalso;have:=h.1 r (by simp)
  exact Qn ((e r.1).mp (JQ.mpr (.inl ⟨aX _,this⟩)))
 | r::rs,s::ss,hr,hs,e=>by
  have G:=hr.1 r (by simp)
  have s1:=hs.1 s (by simp)
  have a:∀x,mR x (r::rs)->r.1<=x:=fun x hx=>by
   rcases JQ.mp hx with z|z
   ·exact z.1
   ·have:=hr.ahead z;lia
  have b:∀x,mR x (s::ss)->s.1<=x:=fun x hx=>by
   rcases JQ.mp hx with z|z
   ·exact z.1
   ·have:=hs.ahead z;lia
  have u:r.1=s.1:=by
   have:=b r.1 ((e r.1).mp (JQ.mpr (.inl ⟨aX _,G⟩)));have:=a s.1 ((e s.1).mpr (JQ.mpr (.inl ⟨aX _,s1⟩)));lia
  have v:¬mR r.2 (r::rs):=fun z=>by
   rcases JQ.mp z with y|y
   ·lia
   ·have:=hr.ahead y;lia
  have ns:¬mR s.2 (s::ss):=fun z=>by
   rcases JQ.mp z with y|y
   ·lia
   ·have:=hs.ahead y;lia
  have C:r.2=s.2:=by
   rcases fw r.2 s.2 with z|z|z
   ·exact absurd ((e r.2).mpr (JQ.mpr (.inl ⟨by lia,z⟩))) v
   ·exact z
   ·exact absurd ((e s.2).mp (JQ.mpr (.inl ⟨by lia,z⟩))) ns
  have I:r=s:=fU u C;subst I;rw[NR.uniq hr.tail hs.tail fun x=>?_]
  have ex:=e x;rw[JQ,JQ]at ex;constructor
  ·intro z;have:=hr.ahead z;rcases ex.mp (oU z) with y|y
   ·lia
   ·exact y
  ·intro z;have:=hs.ahead z;rcases ex.mpr (oU z) with y|y
   ·lia
   ·exact y
def QD(lo hi:Int)(h:Nat):Prop:=lo % 2 ^ h=0/\(2:Int) ^ h<=hi - lo/\¬(lo % 2 ^ (h+1)=0/\(2:Int) ^ (h+1)<=hi - lo)
theorem zcY{a b:Nat}(h:a<=b):((2:Int) ^ a)∣2 ^ b:=⟨2 ^ (b - a),by rw[<- g8];congr 1;lia⟩
theorem QW{a b:Nat}(h:a<=b):(2:Int) ^ a<=2 ^ b:=by
 obtain⟨c,e⟩:=zcY h;have pa:=Bd.QB a;have l:=Bd.QB b;have pc:0<c:=by
  rcases fw c 0 with z|z|z
  ·have:=fQ pa z;lia
  ·subst z;lia
  ·exact z
 rw[e];have:=eW (show(1:Int)<=c by lia) (show(0:Int)<=2 ^ a by lia)
 lia
theorem US{lo:Int}{a b:Nat}(h:a<=b)(e:lo % 2 ^ b=0):lo % 2 ^ a=0:=by
 have d:((2:Int) ^ b)∣lo:=aW e;exact cO (Int.dvd_trans (zcY h) d)
theorem QD.uniq{lo hi:Int}{h g:Nat}(a:QD lo hi h)(b:QD lo hi g):h=g:=by
 rcases eG h g with z|z|z
 ·exfalso;exact a.2.2 ⟨US (show h+1<=g by lia) b.1,mX (QW (show h+1<=g by lia)) b.2.1⟩
 ·exact z
 ·exfalso;exact b.2.2 ⟨US (show g+1<=h by lia) a.1,mX (QW (show g+1<=h by lia)) a.2.1⟩
def Jq:Int->Int->List (Int×Int)->Prop
 | lo,hi,[]=>lo=hi
 | lo,hi,b::r=>lo<hi/\b.1=lo/\0<=b.2/\QD lo hi b.2.toNat/\Jq (lo+2 ^ b.2.toNat) hi r
theorem Jq.le:∀{bs:qB}{lo hi:Int},Jq lo hi bs->lo<=hi
 | [],_,_,h=>by have:_=_:=h;lia
 | b::r,lo,hi,h=>by have:=h.1;lia
theorem Jq.uniq:∀{bs cs:qB}{lo hi:Int},Jq lo hi bs->Jq lo hi cs->bs=cs
 | [],[],_,_,_,_=>rfl
 | [],c::cs,lo,hi,h,k=>by have:lo=hi:=h;have:=k.1;lia
 | b::bs,[],lo,hi,h,k=>by have:lo=hi:=k;have:=h.1;lia
 | b::bs,c::cs,lo,hi,h,k=>by
  obtain⟨C,I,G,v,l⟩:=h;obtain⟨k1,k2,k3,u,k5⟩:=k;have e:=v.uniq u;have y:b.2=c.2:=by lia
  have x:b=c:=fU (by lia) y
  subst x;rw[Jq.uniq l k5]
theorem Jq.mem:∀{bs:qB}{lo hi:Int},Jq lo hi bs->∀x,mB x bs↔lo<=x/\x<hi
 | [],lo,hi,h,x=>by
  have:lo=hi:=h;exact⟨fun z=>absurd z YQ,fun z=>by lia⟩
 | b::r,lo,hi,h,x=>by
  obtain⟨y,v,C,G,u⟩:=h;have:=Jq.mem u x;have l:=Jq.le u;have p:=Bd.QB b.2.toNat;rw[zhM,this];unfold eB;rw[v];lia
theorem Jq.blk{bits:Int}(I:0<=bits):∀{bs:qB}{lo hi:Int},Jq lo hi bs->0<=lo->hi<=2 ^ bits.toNat->Bks bits bs
 | [],_,_,_,_,_=>fun b u=>nomatch u
 | b::r,lo,hi,h,l0,l1=>by
  obtain⟨L,C,G,v,x⟩:=h;have p:=Bd.QB b.2.toNat;have l:=Jq.le x;have J:=Jq.blk I x (by lia) l1
  intro c hc;rcases aw.mp hc with rfl|hc
  ·have u:c.2.toNat<=bits.toNat:=by
    rcases br bits.toNat c.2.toNat with z|z
    ·exfalso;have:=QW (show bits.toNat+1<=c.2.toNat by lia)
     have p2:=Bd.QB bits.toNat;rw[bV]at this;have:=v.2.1;lia
    ·exact z
   obtain⟨k,y⟩:=aW v.1;have k0:0<=k:=by
    rcases iw k 0 with z|z
    ·have:=fQ p z;lia
    ·exact z
   refine⟨G,by lia,k,k0,by rw[C,y,dg],?_⟩
   have e:(2:Int) ^ bits.toNat=2 ^ (bits - c.2).toNat*2 ^ c.2.toNat:=by rw[<- g8];congr 1;lia
   have up:k*2 ^ c.2.toNat<2 ^ (bits - c.2).toNat*2 ^ c.2.toNat:=by
    rw[<- e,dg,<- y];lia
   exact iM up (by lia)
  ·exact J c hc
theorem Jq.in:∀{bs:qB}{lo hi:Int},Jq lo hi bs->∀b∈bs,lo<=b.1/\eB b<=hi
 | [],_,_,_=>fun b v=>nomatch v
 | b::r,lo,hi,h=>by
  obtain⟨C,x,G,I,u⟩:=h;have p:=Bd.QB b.2.toNat;have y:=Jq.in u;have l:=Jq.le u;intro c hc;rcases aw.mp hc with rfl|hc
  ·unfold eB;rw[x];lia
  ·have:=y c hc;lia
theorem Jq.pw:∀{bs:qB}{lo hi:Int},Jq lo hi bs->bs.Pairwise fun a b=>eB a<=b.1
 | [],_,_,_=>.nil
 | b::r,lo,hi,h=>by
  obtain⟨x,v,y,C,u⟩:=h;refine .cons (fun c hc=>?_) (Jq.pw u)
  have:=Jq.in u c hc;unfold eB;rw[v];lia
theorem zf6:∀{bs:qB}{lo hi:Int}{k:Nat},Jq lo hi bs->lo % 2 ^ k=0->hi - lo<2 ^ k->bs.length<=k
 | [],_,_,_,_,_,_=>eF _
 | b::r,lo,hi,k,h,d,l=>by
  obtain⟨x,C,y,u,v⟩:=h;have G:b.2.toNat<k:=by
   rcases br b.2.toNat k with z|z
   ·exact z
   ·have:=QW z;have:=u.2.1;lia
  have up:¬(2:Int) ^ (b.2.toNat+1)<=hi - lo:=fun z=>u.2.2 ⟨US (show b.2.toNat+1<=k by lia) d,z⟩
  rw[bV]at up;have:=zf6 (k:=b.2.toNat) v (by rw[mY,u.1];simp) (by lia)
  rw[aR];lia
theorem zf5{K:Nat}:∀{bs:qB}{lo hi:Int}{k:Nat},Jq lo hi bs->lo % 2 ^ k=0->hi - lo<2 ^ K->k<=K->bs.length<=(K - k)+K
 | [],_,_,_,_,_,_,_=>eF _
 | b::r,lo,hi,k,h,d,l,hkK=>by
  obtain⟨C,G,L,u,v⟩:=h;have p:=Bd.QB b.2.toNat;have J:b.2.toNat<K:=by
   rcases br b.2.toNat K with z|z
   ·exact z
   ·have:=QW z;have:=u.2.1;lia
  rw[aR]
  by_cases up:(2:Int) ^ (b.2.toNat+1)<=hi - lo
  ·have nd:¬lo % 2 ^ (b.2.toNat+1)=0:=fun z=>u.2.2 ⟨z,up⟩
   have I:k<=b.2.toNat:=by
    rcases br b.2.toNat k with z|z
    ·exact absurd (US (show b.2.toNat+1<=k by lia) d) nd
    ·exact z
   have d':(lo+2 ^ b.2.toNat) % 2 ^ (b.2.toNat+1)=0:=by
    obtain⟨q,eq⟩:=aW u.1;have y:(2:Int) ^ (b.2.toNat+1)=2 ^ b.2.toNat*2:=bV _ _;rw[y]at nd ⊢;have odd:q % 2=1:=by
     rcases og q with z|z
     ·exfalso;obtain⟨t,x⟩:=aW z;apply nd;apply cO;exact⟨t,by rw[eq,x,eM]⟩
     ·exact z
    apply cO;refine⟨(q+1) / 2,?_⟩;have:q+1=2*((q+1) / 2):=by lia
    rw[eq,eM,<- this,nQ,iW]
   have:=zf5 (K:=K) (k:=b.2.toNat+1) v d' (by lia) (by lia)
   lia
  ·rw[bV]at up;have:=zf6 (k:=b.2.toNat) v (by rw[mY,u.1];simp) (by lia)
   lia
theorem Jq.len{bs:qB}{lo hi:Int}(h:Jq lo hi bs)(l:0<=lo)(u:hi<=2 ^ 64):bs.length<=130:=by
 have:=zf5 (K:=65) (k:=0) h (by simp) (by have e:(2:Int) ^ 65=2*2 ^ 64:=(by decide);lia) (by decide)
 lia
theorem ziZ{lo hi:Int}(h:lo<hi):∃g,QD lo hi g:=by
 have key:∀(d k:Nat),lo % 2 ^ k=0->(2:Int) ^ k<=hi - lo->(hi - lo).toNat<2 ^ (k+d)->∃g,QD lo hi g:=by
  intro d;induction d with
  | zero =>
   intro k _ b c;exfalso;have:((2 ^ k:Nat):Int)=(2:Int) ^ k:=by rw[fg];rfl
   rw[Nat.add_zero]at c;lia
  | succ d l =>
   intro k a b c
   by_cases z:lo % 2 ^ (k+1)=0/\(2:Int) ^ (k+1)<=hi - lo
   ·exact l (k+1) z.1 z.2 (by rw[show k+1+d=k+(d+1) by lia];exact c)
   ·exact⟨k,a,b,z⟩
 refine key (hi - lo).toNat 0 (by simp) (by simp;lia) ?_
 rw[gA];exact Nat.lt_two_pow_self
theorem zhy:∀(n:Nat) (lo hi:Int),(hi - lo).toNat<=n->lo<=hi->∃bs,Jq lo hi bs:=by
 intro n;induction n with
 | zero =>
  intro lo hi h l;exact⟨[],by show lo=hi;lia⟩
 | succ n u =>
  intro lo hi h l
  by_cases z:lo<hi
  ·obtain⟨g,G⟩:=ziZ z;have p:=Bd.QB g;have:=G.2.1;obtain⟨bs,B⟩:=u (lo+2 ^ g) hi (by lia) (by lia)
   exact⟨(lo,(g:Int))::bs,z,rfl,by show(0:Int)<=(g:Int);lia,by simpa using G,by simpa using B⟩
  ·exact⟨[],by show lo=hi;lia⟩
def PatS:List Run->List (Int×Int)->Prop
 | [],ps=>ps=[]
 | r::rs,ps=>∃a b,ps=a++b/\Jq r.1 r.2 a/\PatS rs b
theorem PatS.uniq:∀{rs:List Run}{ps l:qB},PatS rs ps->PatS rs l->ps=l
 | [],_,_,h,k=>by rw[show _=[] from h,show _=[] from k]
 | r::rs,_,_,h,k=>by
  obtain⟨a,b,rfl,u,v⟩:=h;obtain⟨c,d,rfl,k1,k2⟩:=k;rw[u.uniq k1,PatS.uniq v k2]
theorem PatS.mem:∀{rs:List Run}{ps:qB},PatS rs ps->∀x,mB x ps↔mR x rs
 | [],_,h,x=>by
  cases(show _=[] from h)
  exact⟨fun z=>absurd z YQ,fun z=>absurd z Qn⟩
 | r::rs,_,h,x=>by
  obtain⟨a,b,rfl,l,u⟩:=h;rw[YO,JQ,l.mem x,PatS.mem u x]
theorem PatS.blk{bits:Int}(l:0<=bits):∀{rs:List Run}{ps:qB},PatS rs ps->(∀r∈rs,0<=r.1/\r.2<=2 ^ bits.toNat)->Bks bits ps
 | [],_,h,_=>by cases(show _=[] from h);exact fun b v=>nomatch v
 | r::rs,_,h,w=>by
  obtain⟨a,b,rfl,y,C⟩:=h;have u:=w r (by simp)
  intro c hc;rcases aE.mp hc with hc|hc
  ·exact y.blk l u.1 u.2 c hc
  ·exact PatS.blk l C (fun s x=>w s (by simp[x])) c hc
theorem PatS.in:∀{rs:List Run}{ps:qB},PatS rs ps->∀b∈ps,∃r∈rs,r.1<=b.1/\eB b<=r.2
 | [],_,h=>by cases(show _=[] from h);exact fun b l=>nomatch l
 | r::rs,_,h=>by
  obtain⟨a,b,rfl,u,x⟩:=h;intro c hc;rcases aE.mp hc with hc|hc
  ·exact⟨r,by simp,u.in c hc⟩
  ·obtain⟨s,v,q⟩:=PatS.in x c hc;exact⟨s,by simp[v],q⟩
theorem PatS.pw:∀{rs:List Run}{ps:qB},PatS rs ps->NR rs->ps.Pairwise fun a b=>eB a<=b.1
 | [],_,h,_=>by cases(show _=[] from h);exact .nil
 | r::rs,_,h,nr=>by
  obtain⟨a,b,rfl,u,v⟩:=h;rw[bR];refine⟨u.pw,PatS.pw v nr.tail,fun x hx y C=>?_⟩
  have:=u.in x hx;obtain⟨s,G,q⟩:=PatS.in v y C;have:=(c8.mp nr.2).1 s G;lia
theorem PatS.len:∀{rs:List Run}{ps:qB},PatS rs ps->(∀r∈rs,0<=r.1/\r.2<=2 ^ 64)->ps.length<=130*rs.length
 | [],_,h,_=>by cases(show _=[] from h);simp
 | r::rs,_,h,w=>by
  obtain⟨a,b,rfl,v,x⟩:=h;have l:=w r (by simp)
  have:=v.len l.1 l.2;have:=PatS.len x fun s u=>w s (by simp[u])
  rw[bw,aR];lia
def CanP(S:Int->Prop)(ps:qB):Prop:=∃rs,NR rs/\(∀x,mR x rs↔S x)/\PatS rs ps
theorem CanP.uniq{S T:Int->Prop}{ps l:qB}(h:CanP S ps)(k:CanP T l)(e:∀x,S x↔T x):ps=l:=by
 obtain⟨rs,u,y,v⟩:=h;obtain⟨ss,k1,k2,k3⟩:=k;have:rs=ss:=u.uniq k1 fun x=>by rw[y,k2,e]
 subst this;exact v.uniq k3
theorem CanP.mem{S:Int->Prop}{ps:qB}(h:CanP S ps)(x:Int):mB x ps↔S x:=by
 obtain⟨rs,v,u,l⟩:=h;rw[l.mem,u]
theorem CanP.ptc{S:Int->Prop}{ps:qB}{bits:Int}(C:0<=bits)(h:CanP S ps)(w:∀x,S x->0<=x/\x<2 ^ bits.toNat):Ptc bits ps:=by
 obtain⟨rs,u,v,y⟩:=h;refine⟨y.blk C fun r l=>?_,y.pw u⟩
 have lt:=u.1 r l;have a:=w r.1 ((v _).mp ⟨r,l,aX _,lt⟩);have b:=w (r.2 - 1) ((v _).mp ⟨r,l,by lia,by lia⟩)
 lia
section
variable{X:Cx}{a:aO}{da:DTE}{ρ:En}{n:Nat}{R:qN}
theorem zk1:MtR X "int.bit_length" (fun x xs H Q=>∃i,x=.int i/\xs=[]/\Q (.int (eO i)) H):=by
 intro pins s σ H x xs v u Q I l rs h;obtain⟨i,rfl,rfl,q⟩:=h;obtain⟨t,rfl⟩:=l;cases rs;exact call_int_bit_length ⟨.int _,H,I.tok _,⟨_,rfl⟩,q⟩
def zlO(d:DTE):DTE:=fun ρ n R=>d ρ n fun t l=>lInt t fun i=>R (.int (eO i)) l
theorem zg5{p2 x:Pos}(h:DL X a da)(y:attributeBase a "bit_length" X.env (eval a X.env)=eval a X.env:=by rfl) (Y:(p2.endLine == x.line)=true:=by rfl):DE X (.Call (.Attribute a "bit_length" p2) [] [] x) (zlO da):=by
 obtain⟨Z,pa,h⟩:=h;refine⟨_,zrx PySem.F.plainAttrs_int slot_int_bit_length type_int_bit_length zk1 pa y Y,fun C ρ σ H n Q R S hd J=>?_⟩
 refine h C ρ σ H n _ _ S hd fun t N v G r U I L=>?_
 cases t with
 | int i =>
  rw[L.intI];exact⟨rfl,i,rfl,rfl,J _ N _ G r U I (.int _)⟩
 | _=>exact r.elim
instance zug:Stp (zlO da ρ n R) (da ρ n fun t n1=>lInt t fun i=>R (.int (eO i)) n1):=⟨fun h=>h⟩
end
theorem zed{i:Int}(h:0<i):(eO i:Int) - 1=(i.toNat.log2:Int):=by
 unfold eO;have:(i == 0)=false:=by simp;lia
 rw[this];have e:i.natAbs=i.toNat:=by lia
 rw[e];simp
theorem zk_{i:Int}(h:0<i):(2:Int) ^ i.toNat.log2<=i:=by
 have:=Nat.log2_self_le (n:=i.toNat) (by lia)
 have e:((2 ^ i.toNat.log2:Nat):Int)=(2:Int) ^ i.toNat.log2:=by rw[fg];rfl
 lia
theorem zk6{i:Int}(h:0<i):i<(2:Int) ^ (i.toNat.log2+1):=by
 have:=Nat.lt_log2_self (n:=i.toNat);have e:((2 ^ (i.toNat.log2+1):Nat):Int)=(2:Int) ^ (i.toNat.log2+1):=by rw[fg];rfl
 lia
theorem zlb(t:Nat):∀x:Nat,x % 2 ^ t=0->¬x % 2 ^ (t+1)=0->x - (x &&& (x - 1))=2 ^ t:=by
 induction t with
 | zero =>
  intro x _ h;have G:x % 2=1:=by
   have:¬x % 2=0:=by simpa using h
   lia
  have e:x &&& (x - 1)=x - 1:=by
   apply lE;intro i;rw[kT];cases i with
   | zero =>
    have:(x - 1).testBit 0=false:=by rw[ko];simp;lia
    rw[this,gH]
   | succ i =>
    have:x / 2=(x - 1) / 2:=by lia
    rw[fM,fM,this,Bool.and_self]
  rw[e];simp;lia
 | succ t y =>
  intro x l u;have ev:x % 2=0:=by
   have:2∣2 ^ (t+1):=⟨2 ^ t,by rw[kM,kL]⟩
   exact gJ (Nat.dvd_trans this (gK l))
  have hx:x=2*(x / 2):=by lia
  have v:(x / 2) % 2 ^ t=0:=by
   obtain⟨q,e⟩:=gK l;apply gJ;refine⟨q,?_⟩;rw[kM]at e;have:x=2*(2 ^ t*q):=by rw[e];rw[kL (2 ^ t) 2,rC]
   lia
  have p2:¬(x / 2) % 2 ^ (t+1)=0:=fun z=>by
   obtain⟨q,e⟩:=gK z;apply u;apply gJ;refine⟨q,?_⟩;rw[kM,kL (2 ^ (t+1)) 2,rC,<- e];exact hx
  have:=y (x / 2) v p2;have e:x &&& (x - 1)=2*(x / 2 &&& (x / 2 - 1)):=by
   apply lE;intro i;rw[kT];cases i with
   | zero =>
    have a:x.testBit 0=false:=by rw[ko];simp;lia
    rw[a,cj,ko];simp
   | succ i =>
    have C:0<x / 2:=by
     rcases l9 (x / 2) with z|z
     ·rw[z]at p2;simp at p2
     ·exact z
    have b:(x - 1) / 2=x / 2 - 1:=by lia
    rw[fM,fM,fM,b,Nat.mul_div_cancel_left _ (by decide:0<2),kT]
  rw[e,kM];have le:(x / 2 &&& (x / 2 - 1))<=x / 2:=oh;lia
theorem zqn{b:Int}(h:0<b){t:Nat}(l:b % 2 ^ t=0)(v:¬b % 2 ^ (t+1)=0):fB b (-b)=2 ^ t:=by
 have e:fB b (-b)=b - ((b.toNat &&& (b.toNat - 1):Nat):Int):=by
  have h0:decide (0<=b)=true:=decide_eq_true (by lia)
  have u:decide (0<=-b)=false:=decide_eq_false (by lia)
  show(match decide (0<=b),decide (0<=-b) with
   | true,true=>((b.toNat &&& (-b).toNat:Nat):Int)
   | true,false=>b - ((b.toNat &&& (eT (-b)).toNat:Nat):Int)
   | false,true=>(-b) - (((-b).toNat &&& (eT b).toNat:Nat):Int)
   | false,false=>eT (((eT b).toNat|||(eT (-b)).toNat:Nat):Int))=_
  rw[h0,u];have:(eT (-b)).toNat=b.toNat - 1:=by
   have:eT (-b)=b - 1:=by show -(-b) - 1=b - 1;lia
   rw[this];lia
  rw[this]
 have cast:∀k:Nat,b % (2:Int) ^ k=((b.toNat % 2 ^ k:Nat):Int):=fun k=>by
  rw[Int.natCast_emod,fg,Int.toNat_of_nonneg (by lia)];rfl
 rw[cast]at l v;have:=zlb t b.toNat (by lia) (by lia)
 have le:(b.toNat &&& (b.toNat - 1))<=b.toNat:=oh;rw[e];have x:((2 ^ t:Nat):Int)=(2:Int) ^ t:=by rw[fg];rfl
 lia
theorem zuj{b:Int}(h:0<b):∃t:Nat,b % 2 ^ t=0/\¬b % 2 ^ (t+1)=0:=by
 obtain⟨g,G⟩:=ziZ (lo:=b) (hi:=b+b+1) (by lia)
 refine⟨g,G.1,fun z=>?_⟩
 have d:=aW z;have:=Int.le_of_dvd h d;exact G.2.2 ⟨z,by lia⟩
theorem ziR{xs:qD}{x:af}:ixN (xs++[x]).length (-1)=some xs.length:=by
 unfold ixN;simp;lia
theorem znz{xs:qD}{x:af}{Q:af->Prop}(h:Q x):oIx (.list (xs++[x])) (.int (-1)) Q:=by
 have e:atI (xs++[x]) (-1)=some x:=by
  unfold atI;rw[ziR];simp
 rw[Yz e];exact h
end L2
namespace Bd
open PySem L2
def ppD(xs:List (af×af)):List af:=xs.map fun p=>.tuple [p.1,p.2]
def oD(os:List ((Int×Int)×Str)):List af:=os.map fun p=>.tuple [prD p.1,.str p.2]
theorem ziy{os:List ((Int×Int)×Str)}:(oD os).length=os.length:=by simp[oD]
def Shr(bits:Int)(os:List ((Int×Int)×Str)):Prop:=Ptc bits (os.map (·.1))/\∀p∈os,IsNm p.2
theorem zu8(os:List ((Int×Int)×Str)):oD os=ppD (os.map fun p=>(prD p.1,.str p.2)):=by
 unfold oD ppD;rw[cB];rfl
def apB(a b:Int×Int):Prop:=eB a<=b.1\/eB b<=a.1
def okPr(p q:(Int×Int)×Str):Prop:=p.2=q.2\/apB p.1 q.1
def Agr(os l:List ((Int×Int)×Str)):Prop:=∀p∈os,∀q∈l,okPr p q
abbrev Deal:=Int×List ((Int×Int)×Str)×List ((Int×Int)×Str)
def dlD(d:Deal):af:=.tuple [.int d.1,.tuple (oD d.2.1),.tuple (oD d.2.2)]
def Dl(d:Deal):Prop:=1<=d.1/\d.1<=64/\Shr d.1 d.2.1/\Shr d.1 d.2.2/\Agr d.2.1 d.2.2
def nD(l:List Str):List af:=l.map .str
theorem zrT{u:List Str}:(nD u).length=u.length:=by simp[nD]
end Bd
namespace L2
open PySem PySem.Spec PyProof.Rows
section
variable{X:Cx}{tg iter:aO}{d:DTE}
def iSeq(K:qF)(u:TE):TI:=fun σ H R=>u σ H fun x l=>∃a,x=.ref a/\(((∃xs,SqL K l a xs)/\R (Itl K a) l)\/((∃xs,SqT K l a xs)/\R (Itt K a) l))
theorem zrn{l:aO}{N:TE}(Y:PE X l N):PI X tg l (iSeq X.K N):=by
 intro pins s σ H R I h;refine thn (Y pins s σ H _ I h) fun v s1 ⟨x,L,u,U,J⟩=>?_
 obtain⟨a,e,J⟩:=J;subst e;cases U;rcases J with⟨⟨xs,C⟩,q⟩|⟨⟨xs,C⟩,q⟩
 ·obtain⟨y,S,p,Z⟩:=u.list C;refine fq p.isList ?_;refine⟨s1.heap.objs.size,[s1.heap.objs.size],_,_,L,rfl,u.kept (t':=s1.toks) fun b o e=>aq _ e,zfZ a _,⟨_,ay _ rfl,rfl,rfl⟩,fun b G=>?_,q⟩
  have e:b=s1.heap.objs.size:=by simpa using G
  subst e;exact u.fpOk (az _) (u.hok.fresh (az _))
 ·obtain⟨y,S,p,Z⟩:=u.tuple C;refine iE (show s1.heap.IsTuple a y.toArray from p) ?_
  refine⟨s1.heap.objs.size,[s1.heap.objs.size],_,_,L,rfl,u.kept (t':=s1.toks) fun b o e=>aq _ e,zeO a _,⟨_,ay _ rfl,rfl,rfl⟩,fun b G=>?_,q⟩
  have e:b=s1.heap.objs.size:=by simpa using G
  subst e;exact u.fpOk (az _) (u.hok.fresh (az _))
def dItA(d:DTE):DTA:=fun l n R=>d l n fun t u=>JW t fun ts=>R ts u
theorem zot(h:DE X iter d):DI X tg iter (dItA d):=by
 obtain⟨Y,pa,h⟩:=h;refine⟨_,zrn pa,fun C I σ H n Q R S hd G=>?_⟩
 refine h C I σ H n _ _ S hd fun t J v y r L N q=>?_
 cases t with
 | tuple ts =>
  obtain⟨p,x,rfl,u,it⟩:=zon (P:=fun a=>¬Own C I σ a) (fun _ z=>z) q
  exact⟨p,rfl,.inr ⟨⟨x,u⟩,G ts J _ y r L N it⟩⟩
 | list ts =>
  obtain⟨p,x,rfl,u,no,U⟩:=q.lstI;exact⟨p,rfl,.inl ⟨⟨x,SqL.of u⟩,G ts J _ y r L N (Vd u no (fun _ z=>z) U)⟩⟩
 | _=>exact r.elim
end
section
variable{ρ:En}{n:Nat}{d:DTE}{Rl:List af->Nat->Prop}
instance zwf:Stp (dItA d ρ n Rl) (d ρ n fun t n'=>JW t fun ts=>Rl ts n'):=⟨fun h=>h⟩
end
theorem zfX{bits:Int}{p q:Int×Int}(P:IsBk bits p.1 p.2)(Q:IsBk bits q.1 q.2){x:Int}(u:p.1<=x/\x<eB p)(v:q.1<=x/\x<eB q):(p.1<=q.1/\eB q<=eB p/\q.2<=p.2)\/(q.1<=p.1/\eB p<=eB q/\p.2<=q.2):=by
 unfold eB at *;rcases sX q.2.toNat p.2.toNat with l|l
 ·rcases zhm P.n Q.n l with z|z|z
  ·left
   have:=(zlq P.n Q.n).mp z;have:=P.1;have:=Q.1;lia
  ·lia
  ·lia
 ·rcases zhm Q.n P.n l with z|z|z
  ·right
   have:=(zlq Q.n P.n).mp z;have:=P.1;have:=Q.1;lia
  ·lia
  ·lia
theorem zma{bits i h:Int}(B:IsBk bits i h):i % 2 ^ h.toNat=0:=by
 obtain⟨_,_,k,_,rfl,_⟩:=B;exact Int.mul_emod_left _ _
theorem Jq.great:∀{bs:qB}{lo hi:Int},Jq lo hi bs->∀b∈bs,QD b.1 hi b.2.toNat/\lo<=b.1
 | [],_,_,_=>fun b l=>nomatch l
 | b::r,lo,hi,h=>by
  obtain⟨y,u,C,x,v⟩:=h;have p:=Bd.QB b.2.toNat;intro c hc;rcases aw.mp hc with rfl|hc
  ·rw[u];exact⟨x,aX _⟩
  ·have:=Jq.great v c hc;exact⟨this.1,by lia⟩
theorem Jq.max{bits:Int}(Z:0<=bits){bs:qB}{lo hi:Int}(S:Jq lo hi bs)(l0:0<=lo)(l1:hi<=2 ^ bits.toNat){p q:Int×Int}(I:p∈bs)(Q:IsBk bits q.1 q.2)(w:lo<=q.1/\eB q<=hi)(i:q.1<=p.1/\eB p<=eB q):q=p:=by
 have B:=S.blk Z l0 l1;have P:=B p I;have pp:=Bd.QB p.2.toNat;have pq:=Bd.QB q.2.toNat;have nest:=zfX P Q (x:=p.1) ⟨aX _,by unfold eB;lia⟩ ⟨i.1,by unfold eB at *;lia⟩
 have hle:p.2<=q.2:=by
  rcases nest with⟨a,b,c⟩|⟨a,b,c⟩
  ·have u:p.1=q.1:=by lia
   have L:eB p=eB q:=by lia
   unfold eB at L;rcases iw q.2 p.2 with z|z
   ·have p0:=P.1;have q0:=Q.1;have:=QW (show q.2.toNat+1<=p.2.toNat by lia)
    rw[bV]at this;lia
   ·exact z
  ·exact c
 have p0:=P.1;have q0:=Q.1
 by_cases e:p.2=q.2
 ·have u:(2:Int) ^ p.2.toNat=2 ^ q.2.toNat:=by rw[e]
  have:q.1=p.1:=by unfold eB at *;lia
  exact fU this e.symm
 ·exfalso;have y:p.2.toNat+1<=q.2.toNat:=by lia
  have dq:=zma Q;have v:=US y dq;have G:=(S.great p I).1
  by_cases ev:p.1 % 2 ^ (p.2.toNat+1)=0
  ·
   apply G.2.2;refine⟨ev,?_⟩;obtain⟨a,l⟩:=aW ev;have de:eB q % 2 ^ (p.2.toNat+1)=0:=by
    unfold eB;rw[mY,v,cO (zcY y)];simp
   obtain⟨c,J⟩:=aW de;have lt:p.1<eB q:=by have:=i.2;unfold eB at *;lia
   rw[l,J]at lt;have pos:=Bd.QB (p.2.toNat+1);have ac:a<c:=iT lt (by lia)
   have:=eW (show a+1<=c by lia) (show(0:Int)<=2 ^ (p.2.toNat+1) by lia)
   rw[nQ,iW,<- l,<- J]at this;lia
  ·
   have HN:(p.1 - 2 ^ p.2.toNat) % 2 ^ (p.2.toNat+1)=0:=by
    obtain⟨k,ek⟩:=aW (zma P);have L:(2:Int) ^ (p.2.toNat+1)=2 ^ p.2.toNat*2:=bV _ _;rw[L]at ev ⊢;have odd:k % 2=1:=by
     rcases og k with z|z
     ·exfalso;obtain⟨t,et⟩:=aW z;apply ev;apply cO;exact⟨t,by rw[ek,et,eM]⟩
     ·exact z
    apply cO;refine⟨(k - 1) / 2,?_⟩;have:k - 1=2*((k - 1) / 2):=by lia
    rw[ek,eM,<- this,Int.mul_sub,iW]
   have lowq:q.1<=p.1 - 2 ^ p.2.toNat:=by
    obtain⟨a,l⟩:=aW HN;obtain⟨c,J⟩:=aW v;have pos:=Bd.QB (p.2.toNat+1);have L:(2:Int) ^ (p.2.toNat+1)=2 ^ p.2.toNat*2:=bV _ _;have lt:q.1<p.1 - 2 ^ p.2.toNat+2 ^ (p.2.toNat+1):=by lia
    rw[l,J]at lt;have:(2:Int) ^ (p.2.toNat+1)*c<2 ^ (p.2.toNat+1)*(a+1):=by rw[nQ,iW];exact lt
    have ca:=iT this (by lia)
    have:=eW (show c<=a by lia) (show(0:Int)<=2 ^ (p.2.toNat+1) by lia)
    rw[<- l,<- J]at this;exact this
   obtain⟨c,hc,c1,c2⟩:=(S.mem (p.1 - 2 ^ p.2.toNat)).mpr ⟨by lia,by have:=S.in p I;unfold eB at this;lia⟩
   have C:=B c hc;have pc:=Bd.QB c.2.toNat;have cp:eB c<=p.1:=by
    obtain⟨Y,h1,rfl⟩:=bW hc;obtain⟨i2,h2,rfl⟩:=bW I;rcases eG Y i2 with z|z|z
    ·exact bL.mp S.pw Y i2 h1 h2 z
    ·subst z;lia
    ·have:=bL.mp S.pw i2 Y h2 h1 z;unfold eB at this;lia
   have LB:IsBk bits (p.1 - 2 ^ p.2.toNat) (p.2+1):=by
    have hq1:=Q.2.1;obtain⟨a,l⟩:=aW HN;have u:(p.2+1).toNat=p.2.toNat+1:=by lia
    have pos:=Bd.QB (p.2.toNat+1);have a0:0<=a:=by
     rcases iw a 0 with z|z
     ·have:=fQ pos z;have:=(Q.bounds Z).1;lia
     ·exact z
    refine⟨by lia,by lia,a,a0,by rw[u,l,dg],?_⟩
    have e:(2:Int) ^ bits.toNat=2 ^ (bits - (p.2+1)).toNat*2 ^ (p.2.toNat+1):=by rw[<- g8];congr 1;lia
    have up:a*2 ^ (p.2.toNat+1)<2 ^ (bits - (p.2+1)).toNat*2 ^ (p.2.toNat+1):=by
     rw[<- e,dg,<- l];have:=(P.bounds Z).2;lia
    exact iM up (by lia)
   have u:(p.2+1).toNat=p.2.toNat+1:=by lia
   have n3:=zfX (p:=c) (q:=(p.1 - 2 ^ p.2.toNat,p.2+1)) C LB (x:=p.1 - 2 ^ p.2.toNat) ⟨c1,c2⟩ ⟨aX _,by show _<_+2 ^ (p.2+1).toNat;have:=Bd.QB (p.2+1).toNat;lia⟩
   have eL:eB (p.1 - 2 ^ p.2.toNat,p.2+1)=p.1+2 ^ p.2.toNat:=by
    show p.1 - 2 ^ p.2.toNat+2 ^ (p.2+1).toNat=_
    rw[u,bV];lia
   rcases n3 with⟨U,z2,R⟩|⟨U,z2,R⟩
   ·lia
   ·have U:p.1 - 2 ^ p.2.toNat<=c.1:=U;have R:c.2<=p.2+1:=R;have cb:c.1=p.1 - 2 ^ p.2.toNat:=by lia
    have c0:=C.1;have ch:c.2<=p.2:=by
     rcases iw p.2 c.2 with z|z
     ·have:c.2=p.2+1:=by lia
      unfold eB at cp;rw[this,u,bV]at cp;lia
     ·exact z
    have Gc:=(S.great c hc).1;apply Gc.2.2;refine⟨?_,?_⟩
    ·rw[cb];exact US (show c.2.toNat+1<=p.2.toNat+1 by lia) HN
    ·have:=QW (show c.2.toNat+1<=p.2.toNat+1 by lia)
     have L:(2:Int) ^ (p.2.toNat+1)=2 ^ p.2.toNat*2:=bV _ _;have:=S.in p I;unfold eB at this;lia
theorem NR.one{rs:List Run}(l:NR rs){a b:Int}(h:a<b)(w:∀x,a<=x->x<b->mR x rs):∃r∈rs,r.1<=a/\b<=r.2:=by
 obtain⟨r,u,G,L⟩:=w a (aX _) h;refine⟨r,u,G,?_⟩;rcases iw r.2 b with z|z
 ·exfalso;obtain⟨s,C,k1,k2⟩:=w r.2 (by lia) z
  obtain⟨i,hi,rfl⟩:=bW u;obtain⟨j,v,rfl⟩:=bW C;have I:=l.1 _ u;have J:=l.1 _ C;rcases eG i j with y|y|y
  ·have:=bL.mp l.2 i j hi v y;lia
  ·subst y;lia
  ·have:=bL.mp l.2 j i v hi y;lia
 ·exact z
theorem PatS.from:∀{rs:List Run}{ps:qB},PatS rs ps->∀p∈ps,∃r∈rs,∃bs,Jq r.1 r.2 bs/\p∈bs
 | [],_,h=>by cases(show _=[] from h);exact fun b u=>nomatch u
 | s::rs,_,h=>by
  obtain⟨a,b,rfl,v,y⟩:=h;intro p l;rcases aE.mp l with l|l
  ·exact⟨s,by simp,a,v,l⟩
  ·obtain⟨r,x,bs,B,u⟩:=PatS.from y p l
   exact⟨r,by simp[x],bs,B,u⟩
theorem CanP.max{bits:Int}(b0:0<=bits){S:Int->Prop}{ps:qB}(h:CanP S ps)(w:∀x,S x->0<=x/\x<2 ^ bits.toNat){p q:Int×Int}(R:p∈ps)(Q:IsBk bits q.1 q.2)(U:∀x,q.1<=x->x<eB q->S x)(i:q.1<=p.1/\eB p<=eB q):q=p:=by
 obtain⟨rs,C,G,P⟩:=h;obtain⟨r,u,bs,B,N⟩:=P.from p R
 have lt:=C.1 r u;have Y:=w r.1 ((G _).mp ⟨r,u,aX _,lt⟩);have w2:=w (r.2 - 1) ((G _).mp ⟨r,u,by lia,by lia⟩)
 have pin:=B.in p N;have pp:=UF p;obtain⟨s,Z,s1,s2⟩:=C.one (a:=q.1) (b:=eB q) (UF q) fun x l v=>(G x).mpr (U x l v)
 have I:r=s:=by
  obtain⟨J,l,rfl⟩:=bW u;obtain⟨L,v,rfl⟩:=bW Z;rcases eG J L with y|y|y
  ·have:=bL.mp C.2 J L l v y;lia
  ·subst y;rfl
  ·have:=bL.mp C.2 L J v l y;lia
 subst I;exact B.max b0 Y.1 (by lia) N Q ⟨s1,s2⟩ i
theorem zgD:∀{ps bs:qB},(ps.Pairwise fun a b=>eB a<=b.1)->(∀p∈ps,∃b∈bs,p.1<=b.1/\b.1<eB p)->ps.length<=bs.length
 | [],_,_,_=>eF _
 | p::ps,bs,pw,h=>by
  obtain⟨b,u,G,C⟩:=h p (by simp)
  have l:=c8.mp pw;have:=zgD (ps:=ps) (bs:=bs.erase b) l.2 fun q v=>by
   obtain⟨c,hc,y,x⟩:=h q (by simp[v])
   refine⟨c,(List.mem_erase_of_ne ?_).mpr hc,y,x⟩;rintro rfl;have:=l.1 q v;lia
  have e:=List.length_erase_of_mem u;have:=List.length_pos_of_mem u;rw[aR];lia
theorem CanP.le{bits:Int}(C:0<=bits){bs ps:qB}(B:Bks bits bs)(h:CanP (fun x=>mB x bs) ps):ps.length<=bs.length:=by
 have w:∀x,mB x bs->0<=x/\x<2 ^ bits.toNat:=fun x ⟨b,l,G,y⟩=>by
  have:=(B b l).bounds C;unfold eB at y;lia
 have P:=h.ptc C w;refine zgD P.2 fun p v=>?_
 have pp:=UF p;obtain⟨b,l,G,y⟩:=(h.mem p.1).mp ⟨p,v,aX _,pp⟩;rcases zfX (P.1 p v) (B b l) (x:=p.1) ⟨aX _,pp⟩ ⟨G,y⟩ with z|z
 ·exact⟨b,l,z.1,by have:=UF b;lia⟩
 ·have:=h.max C w v (B b l) (fun x I J=>⟨b,l,I,J⟩) ⟨z.1,z.2.1⟩
  subst this;exact⟨b,l,aX _,pp⟩
section
variable{Q:af->Prop}{s t:Str}{i j:Int}{b:Bool}{xs ys:qD}
theorem zkS:Okd .none:=zm5.okd
instance zvW:Stp (oNe (.str s) .none Q) (Okd (.str s)/\Q (.bool true)):=⟨fun h=>⟨h.1,zkS,h.2⟩⟩
end
end L2
namespace Bd
open PySem L2
def Qt(nm:af):Prop:=nm=.none\/∃s,nm=.str s/\IsNm s
def who(s:Str):af->Bool
 | .str t=>decide (s=t)
 | _=>false
def JT(d:Deal)(nm:af):List (Int×Int):=(d.2.2.filter fun p=>!who p.2 nm).map (·.1)
end Bd
namespace L2
open PySem PySem.Spec PyProof.Rows
section
variable{X:Cx}{a b e o:aO}{d da db:DTE}{ds:DTA}{pos p:Pos}{x y:Str}
def zq3(i j:Nat)(ds:DTA)(d:DTE):DTS:=fun D u n=>ds u n fun ts C=>d u C fun t G=>JP t=true/\D.nx ((u.set i (some (.own ts))).set j (some (.val t))) G
theorem zp1{i j:Nat}{Y py pt:Pos}{kt k2 pt2}(hc:X.calm=true)(hN:X.N.Nodup)(hi:X.N[i]?=some x)(hj:X.N[j]?=some y)(L:i≠j)
  (hx:X.env.scope.names.lookup x=some .local) (hy:X.env.scope.names.lookup y=some .local) (h:DN X a ds) (h':DE X b d)
  (R:starEach [a,b] X.env=(false,eval a X.env)::starEach [b] X.env:=by rfl) (hs2:starEach [b] X.env=[(false,eval b X.env)]:=by rfl)
  (hw:swappedStores [.Tuple [.Name x Y,.Name y py] kt pt] (.Tuple [a,b] k2 pt2) X.env=pure (some [x,y]):=by rfl)
  (hs:swapsWithSole [.Tuple [.Name x Y,.Name y py] kt pt] (.Tuple [a,b] k2 pt2) pos.line X.env=pure false:=by rfl) :
  DS X (.Assign [.Tuple [.Name x Y,.Name y py] kt pt] (.Tuple [a,b] k2 pt2) pos) (zq3 i j ds d):=by
 obtain⟨ta,pa,h⟩:=h;obtain⟨tb,pb,h'⟩:=h';refine⟨_,zoi hc hN hi hj L hx hy (QH pa (QH pb Uo hs2) R) hw hs,fun C I σ H n D D' S hd g=>?_⟩
 refine h C I σ H n _ _ S hd fun ts n1 p vs H1 r1 e1 h1 hp J q1=>?_
 have S1:=S.on e1 h1;refine h' C I σ H1 n1 _ _ S1 r1 fun t n2 v H2 r2 G h2 q2=>?_
 refine⟨_,_,rfl,?_⟩;have U:C.hd≠some p:=fun z=>S.dom (.inl (S.hx p z)) hp
 have Z:Reps X.K C.hd (fun a=>Own C I σ a\/a=p) H2 vs ts:=q1.mono (fun _ _ _ z=>z) fun a o no ha=>G a o ha fun z=>no (.inl (.inl (S.hx a z)))
 have SO:=S.putOwn (i:=i) (e1.trans G) h2 hp (G p _ J U) Z;have q2':Rep X.K C.hd (Own C (I.set i (some (.own ts))) (σ.set i (some (.ref p)))) H2 v t:=q2.up (fun a ha=>SO.lst ha) r2.1
 exact g.nx _ _ H2 n2 r2.2 (SO.put q2') ((zeb (e1.trans G) hp).trans Qq)
variable{ρ ρ':En}{n i j l k:Nat}{D:JO}{init us:qD}{t:af}
instance zvV:Stp (zq3 i j ds d D ρ n) (ds ρ n fun ts n1=>d ρ n1 fun t n2=>JP t=true/\SetK i (some (.own ts)) (fun ρ1 n1=>SetK j (some (.val t)) D.nx ρ1 n1) ρ n2):=⟨fun h=>h⟩
end
section
variable{X:Cx}{Q:af->Prop}{i j k:Int}
def min3(i j k:Int):Int:=if j<i then(if k<j then k else j) else(if k<i then k else i)
theorem zl0(hc:X.calm=true):JN X (.builtin "min") (fun xs H Q=>∃i j k,xs=[.int i,.int j,.int k]/\Q (.int (min3 i j k)) H):=by
 intro pins s σ H xs J Q I r h;obtain⟨i,j,k,rfl,q⟩:=h;cases r with
 | cons y r =>
  obtain⟨v,G,rfl,⟨t',rfl⟩,⟨C,rfl⟩⟩:=vals2 r;obtain⟨t,rfl⟩:=y;refine min_three_ints (I.ok.hd hc) fun h' tk x=>⟨_,H,I.kept x,?_,q⟩
  unfold min3
  by_cases h1:j<i <;> by_cases h2:k<j <;> by_cases h3:k<i <;> simp only[h1,h2,h3,if_true,if_false] <;> exact⟨_,rfl⟩
def Zp:GC
 | [.int i,.int j,.int k],R=>R (.int (min3 i j k))
 | _,_=>False
theorem zpS:GpC X (fun xs H Q=>∃i j k,xs=[.int i,.int j,.int k]/\Q (.int (min3 i j k)) H) Zp:=by
 intro hd O H xs ts Q R dom rs h x;unfold Zp at h;split at h
 ·cases rs with
  | cons u rs =>
   obtain⟨v,w,rfl,y,l⟩:=zkt rs;rw[u.intI,y.intI,l.intI];exact⟨_,_,_,rfl,x _ _ H h (Same.refl H) (.int _)⟩
 ·exact h.elim
theorem zsk{R:af->Prop}(h:R (.int (min3 i j k))):Zp [.int i,.int j,.int k] R:=h
instance{R:af->Prop}:Stp (Zp [.int i,.int j,.int k] R) (R (.int (min3 i j k))):=⟨fun h=>zsk h⟩
end
end L2
namespace L2
open PySem Bd
variable{as bs cs:List Run}{a b:Nat}
end L2
namespace L2
open PySem PySem.Spec PyProof.Rows
abbrev KT(H:Hp):List (List Key×V)->List (List Key×ak×ah)->Prop:=dh fun p q=>p.1=q.1/\H q.2.1=some (.tup (p.1.map kV))/\RelV p.2 q.2.2
def NoSl(i:aO):Prop:=∀l u,subscripted i false l u=operate [l,u] (getItem l u)
theorem zkb{prog:aG}{w:aP}{A:bo}{E:qV}{s:au}{env:Env}{value slice:aO}{pos:Pos}{T id:String}{Q:qV}
  (R:typeLookup (.type T) "__getitem__" = pure (some (.builtin id))) (U:NoSl slice)
  (h:wpAny (model prog w) A (eval value env) (fun o G=>wpAny (model prog w) A (eval slice env) (fun i v=>v.TypeIs o T/\wpAny (model prog w) A (getItem o i) Q E v) E G) E s) :
  wpAny (model prog w) A (eval (.Subscript value slice pos) env) Q E s:=by
 refine oA (cE h (fun o G L=>cE L (fun i v C=>?_) fun _ _ x=>x) fun _ _ x=>x)
 obtain⟨N,C⟩:=C;unfold subscriptTail;refine aa ?_;rw[getitemInPython_of_ne N.not_modules];refine aa (oi N R ?_);have fin:wpAny (model prog w) A (subscripted slice false o i) (fun r I=>wpAny (model prog w) A (letTemporaryGo value o r >>= fun _=>pure r) Q E I) E v:=by
  rw[U o i];exact wpAny_operating (cE C (fun r I J=>aa (wpAny_letTemporaryGo (aj J))) fun _ _ x=>x)
 first
  | exact aj (aa fin)
  | exact aa (aj (aa fin))
  | exact aa fin
end L2
namespace L2
open PySem PySem.Spec PyProof PyProof.Rows
abbrev KD:=List (Key×af)
section
variable{D:JO}{ρ ρ':En}{n i j:Nat}{d dk dv:DTE}{R:qN}{ks:KD}
instance{ks:KD}:CapC (some (.dct ks)) (some (.rdo ks)):=⟨rfl⟩
instance{ks:KD}:CapC (some (.rdo ks)) (some (.rdo ks)):=⟨rfl⟩
end
theorem Zx{bits:Int}(y:0<=bits){bs:qB}(B:Bks bits bs){x:Int}(h:mB x bs):0<=x/\x<2 ^ bits.toNat:=by
 obtain⟨b,l,C,v⟩:=h;have:=(B b l).bounds y;unfold eB at v;lia
theorem Zs{bits:Int}(v:0<=bits)(y:bits<=64){S:Int->Prop}{rs:qB}(u:NR rs)(e:∀x,mR x rs↔S x)(w:∀x,S x->0<=x/\x<2 ^ bits.toNat):∀r∈rs,0<=r.1/\r.1<=r.2/\r.2<=2 ^ 64:=fun r l=>by
 have lt:=u.1 r l;have a:=w r.1 ((e _).mp ⟨r,l,aX _,lt⟩);have b:=w (r.2 - 1) ((e _).mp ⟨r,l,by lia,by lia⟩)
 have:=Bd.zfo (k:=bits.toNat) (by lia)
 lia
section
variable{X:Cx}
theorem zct{α v:Type}{F:α->v->Prop}{u:List α}{l:List v}(r:dh F u l){b:v}(h:b∈l):∃a∈u,F a b:=by
 induction r with
 | nil=>cases h
 | cons f t y =>
  rcases aw.mp h with rfl|h
  ·exact⟨_,cL,f⟩
  ·obtain⟨b,x,g⟩:=y h;exact⟨b,cy _ x,g⟩
end
end L2
namespace Bd
open PySem L2
theorem zqM{s:Str}(h:bp (.str s)=true)(hc:∀c∈s.cps.toList,c<16 ^ 8):Sm s.cps.size 0 (.str s) :=
 ⟨by
  simp only[fY,bc,decide_eq_true_eq];exact hc,rfl,h,az _,az _⟩
theorem zut{s:Str}(h:IsNm s):Sm 8 0 (.str s):=(zqM (YB h).1 fun c hc=>by have:=(h.2.2 c hc).2;lia).mono h.2.1 (az _)
theorem zjc{ts:qD}{lo hi:Option Int}{t:af}(h:t∈cutD ts lo hi):t∈ts:=by
 unfold cutD at h;exact lF (fE h)
theorem zn1{ts:qD}{lo hi:Option Int}:(cutD ts lo hi).length<=ts.length:=by
 unfold cutD;rw[dM,dN];lia
end Bd
namespace Bd
open PySem L2
def Dq(K:qF)(mg:qM)(x:Str)(st:cT)(ps:List Str):Prop:=∃f fd,Def K mg x st ps f fd
def Fq(P:aG)(w:aP)(K:qF)(mg:qM)(base:aN)(x:Str)(st:cT)(ps:List Str)(k:Nat)(l:Sp):Prop:=∃f fd,Def K mg x st ps f fd/\FnOk P w K mg base CX0 k f fd ps l
end Bd
namespace L2
open PySem PySem.Spec PyProof.Rows
section
variable{X:Cx}{x:Str}{st:cT}{ps:List Str}{k n m:Nat}{g:GD}{e:aO}{es:List aO}{ds:DTA}{p pos:Pos}
theorem Jd(F:Bd.Fq X.prog X.w X.K X.mg X.base x st ps k (spD X.K m g))(v:Room n X.A)(h:DB X (e::es) ds)(y:k<=n:=by decide)(I:(e::es).length=m:=by rfl)(J:Gl X x:=by rfl)
  (u:(x == ("__debug__":Str))=false:=by rfl):DE X (.Call (.Name x p) (e::es) [] pos) (dFn g ds):=by
 obtain⟨f,fd,D,G⟩:=F;exact zvM D G (v.mono y) h I J u
theorem ztq(F:Bd.Fq X.prog X.w X.K X.mg X.base x st ps k (spD X.K m g))(v:Room n X.A)(h:DBL X (e::es) ds)(y:k<=n:=by decide)(I:(e::es).length=m:=by rfl)(J:Gl X x:=by rfl)
  (u:(x == ("__debug__":Str))=false:=by rfl):DE X (.Call (.Name x p) (e::es) [] pos) (dFnL g ds):=by
 obtain⟨f,fd,D,G⟩:=F;exact ztr D G (v.mono y) h I J u
end
section
variable{X:Cx}{hx s kx x:Str}{st:cT}{ps:List Str}{k n:Nat}{p p1 p2 p3 pos pos':Pos}{sts:List cT}{u:DTS}
theorem zlD{i j:Nat}(F:Bd.Fq X.prog X.w X.K X.mg X.base hx st ps k (ZA X.K))(hr:Room n X.A)(hN:X.N.Nodup)(hi:X.N[i]?=some x)(R:Loc X.env.scope x)(hu:DSs X sts u)(hk:k<=n:=by decide)(y:i≠0:=by decide)(I:j≠0:=by decide)(Y:j≠i:=by decide)
  (h0:X.N[0]?=some s:=by rfl) (hj:X.N[j]?=some kx:=by rfl) (v:Vis X.env.scope s:=by walk_at "V") (U:Vis X.env.scope kx:=by walk_at "V")
  (L:(s == ("__debug__":Str))=false:=by rfl) (Ig:(s == ("__classdict__":Str))=false:=by rfl) (J:(kx == ("__debug__":Str))=false:=by rfl) (Z:(kx == ("__classdict__":Str))=false:=by rfl) (hg:Gl X hx:=by rfl) (S:(hx == ("__debug__":Str))=false:=by rfl)
  (hs:swapsWith (.Call (.Name hx p) [.Name s p1,.Name kx p2] [] p3) (some (.Name x pos')) pos.line X.env=pure false:=by rfl) (hf:X.fn x=true\/X.env.scope.names.lookup x=some .local:=by walk_at "F") :
  DSs X (.Assign [.Name x pos'] (.Call (.Name hx p) [.Name s p1,.Name kx p2] [] p3) pos::sts) (U1 i j u):=by
 obtain⟨f,fd,D,G⟩:=F;exact znS D G (hr.mono hk) hN hi R hu y I Y h0 hj v U L Ig J Z hg S hs hf
end
end L2
namespace Bd
open PySem L2
section
variable{K:qF}{h:aN}{mg:qM}{x:Str}{st:cT}{ps:List Str}
abbrev BndA(x:Str)(st:cT)(ps:List Str):Prop:=∀(kV doc pm:ah) (an:Option ak) (cdv ct:ah) (us:List ah),us.length=ps.length->bindArgs (cQ x x (Qw st) (JZ st) (JE st) .none kV doc pm an cdv ct) ⟨us,[]⟩=pure (ps.zip us)
theorem lenS{l:List ah}{n:Nat}(h:l.length=n+1):∃a t,l=a::t/\t.length=n:=by
 cases l with
 | nil=>cases h
 | cons a t=>exact⟨a,t,rfl,sZ h⟩
theorem len1{l:List ah}(h:l.length=1):∃a,l=[a]:=by
 obtain⟨a,t,rfl,e⟩:=lenS h;exact⟨a,by rw[List.eq_nil_of_length_eq_zero e]⟩
theorem len2{l:List ah}(h:l.length=2):∃a b,l=[a,b]:=by
 obtain⟨a,t,rfl,e⟩:=lenS h;obtain⟨b,rfl⟩:=len1 e;exact⟨a,b,rfl⟩
theorem len3{l:List ah}(h:l.length=3):∃a b c,l=[a,b,c]:=by
 obtain⟨a,t,rfl,e⟩:=lenS h;obtain⟨b,c,rfl⟩:=len2 e;exact⟨a,b,c,rfl⟩
theorem len4{l:List ah}(h:l.length=4):∃a b c d,l=[a,b,c,d]:=by
 obtain⟨a,t,rfl,e⟩:=lenS h;obtain⟨b,c,d,rfl⟩:=len3 e;exact⟨a,b,c,d,rfl⟩
end
end Bd
namespace L2
open PySem PySem.Spec PyProof PyProof.Rows
section
variable{prog:aG}{w:aP}{A:bo}{E:qV}{s:au}
theorem zhW{l:ak}{items:Array ah}{Q:List ah->au->Prop}(I:mn s.heap l items)(hh:A.handled=none)(R:2<=items.size)(Y:items.size<=sizeLine)
  (h:∀(h':aN) (tk:Nat),(∀b o,s.heap.get? b=some o->h'.get? b=some o)->Q (items.toList.take 2++[.ref h'.objs.size]) { s with heap:=h'.push { cls:=.type "list",data:=.seq (items.toList.drop 2).toArray },toks:=tk }) :
  wpAny (model prog w) A (unpackItems (.ref l) 3 (some 2)) Q E s:=by
 have G:l≠s.heap.objs.size:=by obtain⟨o,N,_⟩:=I;exact aD (av N)
 unfold unpackItems;refine aa ?_;unfold notIterableAtAll;refine aa (oi I.typeIs slot_tuple_iter.lookup (aj ?_));simp only[aH,if_false];refine aa (bz (iter_tuple I ?_));refine aa (bz (draw_tuple G 2 0 _ _ ⟨_,ay _ rfl,rfl,rfl⟩ (I.push _) (by lia) fun v hit L=>?_))
 have C:mn v l items:=(I.push _).extBut L.extBut G;have a1:∃o,v.get? s.heap.objs.size=some o:=by obtain⟨o,q,_⟩:=hit;exact⟨o,q⟩
 have a2:∃o,v.get? l=some o:=by obtain⟨o,q,_⟩:=C;exact⟨o,q⟩
 obtain⟨o1,a1⟩:=a1;obtain⟨o2,a2⟩:=a2;rw[lD];have fl:(items.toList.take 2).length=2:=by rw[dM,dI];lia
 rw[if_neg (show ¬((items.toList.take 2).length<2) by lia)]
 refine aa (bz (PySem.W.kun_collect (s:={ s with heap:=v }) (T:="tuple_iterator") (.inr (.inr (.inr rfl))) (Walks.tuple (A:=A.in1) hh s.heap.objs.size l G items) (fun j u st=>st.1.typeIs) (k:=2) R ⟨hit,C⟩ (av a1) (av a2) (fun J tk S=>?_) Y))
 rw[if_neg (by lia)]
 show wpAny _ _ (newList ((items.toList.drop 2).take ((items.toList.drop 2).length - (3 - 1 - 2))) >>= fun d=>pure (items.toList.take 2++[d]++(items.toList.drop 2).drop ((items.toList.drop 2).length - (3 - 1 - 2)))) _ _ _
 have U:(items.toList.drop 2).take ((items.toList.drop 2).length - (3 - 1 - 2))=items.toList.drop 2:=gG (by lia)
 have Z:(items.toList.drop 2).drop ((items.toList.drop 2).length - (3 - 1 - 2))=[]:=List.drop_of_length_le (by lia)
 rw[U,Z];refine aa (gX (aj ?_) (by rw[dN,dI];lia))
 rw[bM];exact h J tk fun b o q=>S b o (aD (av q)) (L.extBut b o (aD (av q)) (aq _ q))
end
theorem zo4{xs:List V}{u:List ah}(r:Vals xs u):Vals (xs.drop 2) (u.drop 2):=by
 cases r with
 | nil=>exact .nil
 | cons _ r=>cases r with
  | nil=>exact .nil
  | cons _ r=>exact r
theorem zo3{xs:List V}{x:List ah}{v:V}{u:ah}(r:Vals xs x)(q:RelV v u):Vals (xs.take 2++[v]) (x.take 2++[u]):=by
 cases r with
 | nil=>exact .cons q .nil
 | cons a r=>cases r with
  | nil=>exact .cons a (.cons q .nil)
  | cons b r=>exact .cons a (.cons b (.cons q .nil))
section
variable{X:Cx}{a b c e:aO}{pos p3:Pos}{t:TGs}{te:TE}
def zvK(K:qF)(t:TGs):TG:=fun v σ H Q=>∃a xs,v=.ref a/\SqT K H a xs/\2<=xs.length/\∀p,H p=none->t (xs.take 2++[.ref p]) σ (upd H p (.lst (xs.drop 2))) Q
theorem zoU{k:Nat}(hc:X.calm=true)(h:PGs X [a,b,c] t)(Z:(assignEach [a,b,.Starred c p3] X.env).length=3:=by rfl)(G:(assignEach [a,b,.Starred c p3] X.env).findIdx? (·.1)=some 2:=by rfl)
  (R:(assignEach [a,b,.Starred c p3] X.env).map (·.2)=(assignEach [a,b,c] X.env).map (·.2):=by rfl):PG X (.Tuple [a,b,.Starred c p3] k pos) (zvK X.K t):=by
 intro pins s σ H v u Q I r hw;obtain⟨q,xs,rfl,U,hl,hw⟩:=hw;cases r;obtain⟨C,J,N,hz⟩:=I.tuple U;have le:=J.length;rw[assign_Tuple];refine aa (c9 ?_);unfold unpack;rw[Z,G,R];refine aa (bz (zhW N (I.ok.hd hc) (by rw[ax];lia) (by rw[ax];lia) fun h' tk kp=>?_))
 have L:Inv X pins σ H { s with heap:=h',toks:=tk }:=I.kept kp
 have Y:Inv X pins σ (upd H h'.objs.size (.lst (xs.drop 2))) { s with heap:=h'.push { cls:=.type "list",data:=.seq (C.drop 2).toArray },toks:=tk }:=L.laid (t':=tk) (fun b o q=>aq _ q) (az _) ⟨by rw[dN];lia,C.drop 2,0,zo4 J,ay _ rfl⟩
 exact h pins _ σ _ _ _ Q Y (zo3 J (show RelV (.ref h'.objs.size) (.ref h'.objs.size) from rfl)) (hw _ (L.hok.fresh (az _)))
end
section
variable{X:Cx}{e:aO}{x y z:Str}{pos px py pz p3 pt:Pos}{d:DTE}
def Y8(t:af)(Q:af->af->List af->Prop):Prop:=match t with
 | .tuple (x::y::r)=>Q x y r
 | _=>False
def zq2(i j k:Nat)(d:DTE):DTS:=fun D G n=>d G n fun t I=>Y8 t fun x y r=>SetK i (some (.val x)) (fun u C=>SetK j (some (.val y)) (fun u C=>SetK k (some (.val (.list r))) D.nx u C) u C) G I
theorem zp0{i j k kt:Nat}(hc:X.calm=true)(I:X.N.Nodup)(hi:X.N[i]?=some x)(hj:X.N[j]?=some y)(hk:X.N[k]?=some z)(hx:Loc X.env.scope x)(hy:Loc X.env.scope y)(hz:Loc X.env.scope z)(h:DE X e d)
  (fx:X.fn x=true\/X.env.scope.names.lookup x=some .local:=by walk_at "F") (fy:X.fn y=true\/X.env.scope.names.lookup y=some .local:=by walk_at "F") (fz:X.fn z=true\/X.env.scope.names.lookup z=some .local:=by walk_at "F")
  (hs:swapsWithSole [.Tuple [.Name x px,.Name y py,.Starred (.Name z pz) p3] kt pt] e pos.line X.env=pure false:=by rfl) (hw:swappedStores [.Tuple [.Name x px,.Name y py,.Starred (.Name z pz) p3] kt pt] e X.env=pure none:=by rfl) :
  DS X (.Assign [.Tuple [.Name x px,.Name y py,.Starred (.Name z pz) p3] kt pt] e pos) (zq2 i j k d):=by
 obtain⟨ta,pa,h⟩:=h;refine⟨_,YJ pa (zoU hc (Vt (Z5 I hi hx fx) (Vt (Z5 I hj hy fy) (Vt (Z5 I hk hz fz) zkE)))) hs hw,fun C Y σ H n D D' S hd g=>?_⟩
 refine h C Y σ H n _ _ S hd fun t n' v R r e1 U q=>?_
 unfold Y8 at r;split at r
 ·rename_i u w us;obtain⟨p,vs,rfl,h1,J⟩:=q.tupI;cases J with
  | cons ru J =>
   cases J with
   | @cons v2 d2 vr ds2 rw rs =>
    refine⟨p,_,rfl,h1,by simp,fun q L=>?_⟩
    have G:ExtE C.hd R (upd R q (.lst vr)):=ExtE.new L;have Z:=S.on e1 U;have S2:=Z.on G (U.same (JS L));have r3:Rep X.K C.hd (Own C Y σ) _ (.ref q) (.list us):=.lst JM (Z.free L) (G.reps S.hx rs);have T1:=S2.put (i:=i) (G.rep S.hx ru);have T2:=T1.put (i:=j) (Keep.rep Qq S.hx (G.rep S.hx rw));have T3:=T2.put (i:=k) (Keep.rep (Qq.trans Qq) S.hx r3);exact⟨_,_,rfl,_,_,rfl,_,_,rfl,rfl,g.nx _ _ _ n' r T3 ((e1.keep.trans G.keep).trans ((Qq.trans Qq).trans Qq))⟩
 ·exact r.elim
end
def StD(P:aG)(w:aP)(K:qF)(mg:qM)(x:Str)(y:List (Str×List Str)):Prop :=
 ∃(a:ak) (o:Obj) (v:Array cW) (C:Nat) (l:List (Str×ah)),mg x=some (.ref a)/\(a == sysModules)=false/\K.lookup a=some o/\o.ExactDict/\o.data=.dict v C/\KeysOf (strKind P w) v/\Pairs (strKind P w) v.toList l/\(l.map (·.1)).Nodup /\
  dh (fun(p:Str×List Str) (q:Str×ah)=>p.1=q.1/\∃b,q.2=.ref b/\StT K b (p.2.map V.str)) y l
def getT(l:List (Str×List Str))(z:Str):Option (List Str):=(l.find? fun u=>decide (u.1=z)).map (·.2)
theorem znO{K:qF}{l:List (Str×List Str)}{v:List (Str×ah)}(r:dh (fun(p:Str×List Str) (q:Str×ah)=>p.1=q.1/\∃b,q.2=.ref b/\StT K b (p.2.map V.str)) l v)(z:Str) :
  (valueAt v z).isSome=(getT l z).isSome/\∀u,getT l z=some u->∃b,valueAt v z=some (.ref b)/\StT K b (u.map V.str):=by
 induction r with
 | nil=>exact⟨rfl,fun u h=>by cases h⟩
 | @cons p q ps qs h t ih =>
  obtain⟨x,b,C,y⟩:=h
  by_cases e:q.1=z
  ·have a1:valueAt (q::qs) z=some q.2:=by simp[valueAt,fh,e]
   have a2:getT (p::ps) z=some p.2:=by simp[getT,fh,x.trans e]
   rw[a1,a2];exact⟨rfl,fun u I=>by cases I;exact⟨b,by rw[C],y⟩⟩
  ·have a1:valueAt (q::qs) z=valueAt qs z:=by simp[valueAt,fh,e]
   have a2:getT (p::ps) z=getT ps z:=by simp[getT,fh,show ¬p.1=z from fun G=>e (x.symm.trans G)]
   rw[a1,a2];exact ih
section
variable{X:Cx}{e:aO}{x:Str}{pos p1:Pos}{d:DTE}{te:TE}{kvs:List (Str×List Str)}
theorem StD.at(h:StD X.prog X.w X.K X.mg x kvs):∃(a:ak) (l:List (Str×ah)),X.mg x=some (.ref a)/\(a == sysModules)=false/\(∀{pins σ H s},Inv X pins σ H s->s.heap.DictOf (strKind X.prog X.w) a l) /\
  ∀z,(valueAt l z).isSome=(getT kvs z).isSome/\∀u,getT kvs z=some u->∃b,valueAt l z=some (.ref b)/\StT X.K b (u.map V.str):=by
 obtain⟨a,o,Z,G,l,J,L,Y,R,U,y,C,v,N⟩:=h;exact⟨a,l,J,L,fun I=>⟨o,Z,G,I.kIn a o Y,R,U,y,C,v⟩,znO N⟩
def zun(kvs:List (Str×List Str))(te:TE):TE:=fun σ H Q=>te σ H fun y u=>∃z,y=.str z/\Q (.bl (!(getT kvs z).isSome)) u
theorem zo5(h:StD X.prog X.w X.K X.mg x kvs)(R:Gl X x)(Z:PE X e te)(hd:(x == ("__debug__":Str))=false:=by rfl):PC X .NotIn e (.Name x p1) (zun kvs te):=by
 obtain⟨a,vs,J,L,Y,S⟩:=h.at;intro pins s σ H Q I hw;refine thn (Z pins s σ H _ I hw) fun U s1 ⟨y,G,u,v,z,C,q⟩=>UM u R J ?_ hd
 subst C;obtain⟨t,rfl⟩:∃t,U=iA z t:=v;refine wpAny_notIn_of (knd:=strKind X.prog X.w) (k:=z) (by show cP z (.str z t)=true;simp[cP]) L (Y u).mapOf ?_
 rw[(S z).1];exact⟨.bl _,G,u.tok _,rfl,q⟩
def zuo(kvs:List (Str×List Str))(K:qF)(te:TE):TE:=fun σ H Q=>te σ H fun y u=>∃z l,y=.str z/\getT kvs z=some l/\∀b,StT K b (l.map V.str)->Q (.ref b) u
theorem zoW(h:StD X.prog X.w X.K X.mg x kvs)(U:Gl X x)(he:PE X e te)(hs:NoSl e)(hd:(x == ("__debug__":Str))=false:=by rfl):PE X (.Subscript (.Name x p1) e pos) (zuo kvs X.K te):=by
 obtain⟨a,vs,L,h2,v,Y⟩:=h.at;intro pins s σ H Q I hw;refine zkb iU.lookup hs (UM I U L (thn (he pins s σ H _ I hw) fun Z s1 ⟨y,J,l,C,z,R,G,g,q⟩=>?_) hd)
 subst G;obtain⟨t,rfl⟩:∃t,Z=iA z t:=C;obtain⟨b,g1,g2⟩:=(Y z).2 R g;refine⟨(v l).typeIs,nF (knd:=strKind X.prog X.w) (k:=z) (by show cP z (.str z t)=true;simp[cP]) (v l).mapOf g1 ⟨.ref b,J,l.tok _,rfl,q b g2⟩⟩
def ztu(kvs:List (Str×List Str))(d:DTE):DTE:=fun v n R=>d v n fun y u=>lStr y fun z=>R (.bool (!(getT kvs z).isSome)) u
theorem zpZ(h:StD X.prog X.w X.K X.mg x kvs)(u:DE X e d)(U:Gl X x:=by rfl)(hd:(x == ("__debug__":Str))=false:=by rfl) (L:behindInMarks .NotIn (.Name x p1)=false:=by rfl):DT X (.Compare e [.NotIn] [.Name x p1] pos) (QY (ztu kvs d)):=by
 obtain⟨ta,pa,u⟩:=u;refine⟨_,zrf (zo5 h U pa hd) L,fun C Y σ H n Q R S hd J=>?_⟩
 refine u C Y σ H n _ _ S hd fun y Z v G r e1 l q=>?_
 cases y with
 | str z=>exact⟨z,q.strI,_,rfl,J _ Z G r e1 l⟩
 | _=>exact r.elim
def dGGet(kvs:List (Str×List Str))(d:DTE):DTE:=fun G n R=>d G n fun y C=>lStr y fun z=>∃v,getT kvs z=some v/\R (.tuple (v.map fF)) C
theorem zin{K:qF}{hd:Option ak}{O:ak->Prop}{H:Hp}:∀u:List Str,Reps K hd O H (u.map V.str) (u.map fF)
 | []=>.nil
 | k::u=>.cons (.str k) (zin u)
theorem zp8(h:StD X.prog X.w X.K X.mg x kvs)(G:DE X e d)(U:Gl X x:=by rfl)(hd:(x == ("__debug__":Str))=false:=by rfl) (hs:NoSl e:=by intro _ _;rfl):DE X (.Subscript (.Name x p1) e pos) (dGGet kvs d):=by
 obtain⟨ta,pa,G⟩:=G;refine⟨_,zoW h U pa hs hd,fun C Y σ H n Q R S hd L=>?_⟩
 refine G C Y σ H n _ _ S hd fun y n1 v J r e1 l q=>?_
 cases y with
 | str z =>
  obtain⟨I,g,r⟩:=r;exact⟨z,I,q.strI,g,fun b Z=>L _ n1 _ J r e1 l (.tupS Z (zin I))⟩
 | _=>exact r.elim
end
section
variable{i j k:Nat}{ρ:En}{n:Nat}{D:JO}{d:DTE}{x y:af}{r:qD}{R:qN}{kvs:List (Str×List Str)}
instance zvP:Stp (zq2 i j k d D ρ n) (d ρ n fun t n'=>Y8 t fun x y r=>SetK i (some (.val x)) (fun ρ1 n1=>SetK j (some (.val y)) (fun ρ1 n1=>SetK k (some (.val (.list r))) D.nx ρ1 n1) ρ1 n1) ρ n'):=⟨fun h=>h⟩
instance zuu {Q:af->af->List af->Prop}:Stp (Y8 (.tuple (x::y::r)) Q) (Q x y r):=⟨fun h=>h⟩
instance zv3:Stp (ztu kvs d ρ n R) (d ρ n fun y n1=>lStr y fun z=>R (.bool (!(getT kvs z).isSome)) n1):=⟨fun h=>h⟩
instance zv4:Stp (dGGet kvs d ρ n R) (d ρ n fun y n1=>lStr y fun z=>∃ks,getT kvs z=some ks/\R (.tuple (ks.map fF)) n1):=⟨fun h=>h⟩
end
def PtE(w:aP)(K:qF)(e:cW)(p:Str×List Str):Prop:=e.hash=hashStr w p.1/\(∃t,e.key=.str p.1 t)/\∃b,e.val=.ref b/\StT K b (p.2.map V.str)
theorem zrd{P:aG}{w:aP}{K:qF}{x:List cW}{u:List (Str×List Str)}(r:dh (PtE w K) x u):∃v,Pairs (strKind P w) x v/\v.map (·.1)=u.map (·.1)/\(∀e∈x,∃k,(strKind P w).is k e.key=true/\e.hash=(strKind P w).hash k) /\
  dh (fun(p:Str×List Str) (q:Str×ah)=>p.1=q.1/\∃b,q.2=.ref b/\StT K b (p.2.map V.str)) u v:=by
 induction r with
 | nil=>exact⟨[],.nil,rfl,(fun e h=>nomatch h),.nil⟩
 | @cons e p x ps h t ih =>
  obtain⟨v,a1,a2,L,R⟩:=ih;obtain⟨I,⟨t,J⟩,b,S,N⟩:=h;have C:(strKind P w).is p.1 e.key=true:=by rw[J];show cP p.1 (.str p.1 t)=true;simp[cP]
  refine⟨(p.1,e.val)::v,.cons C rfl a1,by simp[a2],fun G y=>?_,.cons ⟨rfl,b,S,N⟩ R⟩
  rcases aw.mp y with rfl|y
  ·exact⟨p.1,C,I⟩
  ·exact L G y
theorem zqJ{P:aG}{w:aP}{K:qF}{mg:qM}{x:Str}{l:List (Str×List Str)}{a:ak}{v:Array cW}{C:Nat}(I:mg x=some (.ref a))(U:(a == sysModules)=false)(J:K.lookup a=some ⟨.type "dict",none,.dict v C,#[]⟩)
  (r:dh (PtE w K) v.toList l) (nd:(l.map (·.1)).Nodup):StD P w K mg x l:=by
 obtain⟨G,a1,a2,L,R⟩:=zrd (P:=P) r;exact⟨a,_,v,C,G,I,U,J,⟨rfl,rfl,rfl⟩,rfl,fun e S=>L e (by simpa using S),a1,by rw[a2];exact nd,R⟩
section
variable{prog:aG}{w:aP}{A:bo}{E:qV}{s:au}
theorem PrIn.tk{h:aN}{p:ak}{b k:Int}(x:PrIn h (.ref p) b k):IsTupleKey (YW prog w) h [.inl b,.inl k] p:=by
 obtain⟨a,o,t,t',n,v,u,C,y⟩:=x;cases v;exact⟨o,_,n,u,C,y,.cons (zgG b t) (.cons (zgG k t') .nil)⟩
theorem zpY{p q:ak}{b k u l:Int}(v:A.units<cLine)(x:PrIn s.heap (.ref p) b k)(y:PrIn s.heap (.ref q) u l):l5 A s (.ref p) (.ref q) (decide (b=u/\k=l)):=fun prog w E Q h=>by
 refine wpAny_eqBool_tuple (knd:=YW prog w) v x.tk y.tk ?_;have:decide (([gU b,gU k]:List Key)=[gU u,gU l])=decide (b=u/\k=l):=by
  rw[decide_eq_decide];constructor
  ·intro z;cases z;exact⟨rfl,rfl⟩
  ·rintro⟨rfl,rfl⟩;rfl
 rw[this];exact h
theorem zpr{p q:ak}{b k C v:Int}(S:A.units<cLine)(x:PrIn s.heap (.ref p) b k)(y:PrIn s.heap (.ref q) C v):LtAt prog w A s false (.ref p) (.ref q) (HT.lexLt [b,k] [C,v]):=fun E Q h=>by
 obtain⟨a,o,t,t',n,N,Y,J,I⟩:=x;obtain⟨a',R,u,Z,U,f0,f1,f2,G⟩:=y;cases N;cases f0;rw[rX];simp only[aH,if_false];refine aa (show wpAny (model prog w) A (compareOp .Lt (.ref p) (.ref q)) _ E s from HT.zcZ ⟨o,Y,J,n,I⟩ ⟨R,f1,f2,U,G⟩ (.cons _ _ (.cons _ _ .nil)) (.cons _ _ (.cons _ _ .nil)) S ?_)
 exact bq h
theorem zps{a b c d:Int}:HT.lexLt [a,b] [c,d]=decide (a<c\/(a=c/\b<d)):=by
 have e:HT.lexLt [a,b] [c,d]=if a=c then(if b=d then false else decide (b<d)) else decide (a<c):=rfl
 rw[e];split
 ·rename_i h;subst h;split
  ·symm;rw[decide_eq_false_iff_not];lia
  ·rw[decide_eq_decide];lia
 ·rw[decide_eq_decide];lia
end
theorem zmM{α:Type}{P:α->ah->Prop}{rk:ah->Int}{f:α->Int}{u:List ah}{N:List α}{y:lz}(hv:dh P N u)(hr:∀a v,P a v->rk v=f a)(pm:(arrOf y).Perm (pairsOf u))(up:Up rk (arrOf y) u.length) :
  ∃bs:List α,bs.Perm N/\bs.Pairwise (fun a b=>f a<=f b)/\dh P bs ((arrOf y).map (·.2)).toList:=by
 have C:(arrOf y).toList.Perm (u.zip u):=by
  have:=fD.mp pm;simpa[pairsOf] using this
 have hl:N.length=u.length:=lR hv;have each:∀x∈N.zip u,P x.1 x.2:=by
  clear pm up C hl;induction hv with
  | nil=>intro x hx;simp at hx
  | cons h t Z =>
   intro x hx;rcases aw.mp (by simpa using hx) with rfl|hx
   ·exact h
   ·exact Z x hx
 have J:((arrOf y).toList.map (·.2)).Perm ((N.zip u).map (·.2)):=by
  refine(C.map _).trans ?_;rw[dP (az _),dP (by lia)]
 obtain⟨G,Y,p2⟩:=Vs J;have U:∀x∈G,P x.1 x.2:=fun x hx=>each x (Y.mem_iff.mp hx)
 have HI:∀z∈(arrOf y).toList,z.1=z.2:=fun z hz=>by
  have:z∈u.zip u:=C.mem_iff.mp hz;obtain⟨i,hi,rfl⟩:=bW this;simp
 have S:(arrOf y).size=u.length:=by
  have:=C.length_eq;simpa using this
 refine⟨G.map (·.1),?_,?_,?_⟩
 ·have:=Y.map (·.1)
  rwa [fK (by lia)]at this
 ·rw[dF,bL];intro i j hi hj R;have lw:G.length=u.length:=by
   have:=congrArg cM p2;simpa[S] using this
  have gw:∀k (hk:k<G.length),rkAt rk (arrOf y) k=f G[k].1:=fun k hk=>by
   have I:k<(arrOf y).size:=by lia
   have e1:(arrOf y).toList[k]'(by simpa using I)=(arrOf y)[k]:=by simp
   have e2:G[k].2=(arrOf y)[k].2:=by
    have:(G.map (·.2))[k]'(by simpa using hk)=((arrOf y).toList.map (·.2))[k]'(by simpa using I):=by simp only[p2]
    simpa using this
   have e3:(arrOf y)[k].1=(arrOf y)[k].2:=HI _ (by rw[<- e1];exact cZ _)
   unfold rkAt;rw[fP I];simp only[ei,cX];rw[e3,<- e2];exact hr _ _ (U _ (cZ _))
  have:=up i j R (by lia)
  rwa [gw i hi,gw j hj]at this
 ·rw[nv,<- p2];clear Y p2 J pm up;induction G with
  | nil=>exact .nil
  | cons a l Z=>exact .cons (U a (.head _)) (Z fun x hx=>U x (.tail _ hx))
section
variable{prog:aG}{w:aP}{A:bo}{E:qV}{s:au}{rk:ah->Int}
theorem zhL{h:aN}{u:List ah}{b:ak}{o:Obj}(v:h.get? b=some o):(midH (h.push (seqObj "list" u.toArray 0)) h.objs.size u).get? b=some o:=by
 have l:b<h.objs.size:=av v;unfold midH;rw[b5 _ _ _ (by rw[dH,cn,dH];lia),b5 _ _ _ (by rw[cn,dH];lia),fR _ _ _ _ (aD l),b5 _ _ _ (aD l)]
 exact v
theorem zkd{l:List ah}{P:qV}(u:l.length<64)(J:Kinds prog w A { s with heap:=midH (s.heap.push (seqObj "list" l.toArray 0)) s.heap.objs.size l } rk l)
  (h:∀h' (y:lz) (e:Nat),(∀b o,s.heap.get? b=some o->h'.get? b=some o)->(arrOf y).Perm (pairsOf l)->Up rk (arrOf y) l.length->h'.get? s.heap.objs.size=some (seqObj "list" ((arrOf y).map (·.2)) e)->P .none { s with heap:=h' }) :
  wpAny (model prog w) A (fH.«list.sort» ⟨[.ref s.heap.objs.size],[]⟩) (fun f s'=>∃v,f=.done (.ret v)/\P v s') E { s with heap:=s.heap.push (seqObj "list" l.toArray 0) }:=by
 have C:(s.heap.push (seqObj "list" l.toArray 0)).get? s.heap.objs.size=some (seqObj "list" l.toArray 0):=ay _ rfl;refine ziC (s:={ s with heap:=s.heap.push (seqObj "list" l.toArray 0) }) C u J fun y I p2=>⟨_,rfl,?_⟩
 obtain⟨e,G⟩:=sortedHeap_at (out:=(arrOf y).map (·.2)) C;refine h _ y e (fun b o x=>?_) I p2 G
 have lt:=av x;rw[sortedHeap_old (aD lt) (by rw[dH];exact mZ lt),b5 _ _ _ (aD lt)]
 exact x
end
section
variable{prog:aG}{w:aP}{A:bo}{E:qV}{s:au}{rk:aN->ah->Int}
theorem zjr{x:ah}{C:aN->Nat->List ah->Prop}{Q:qV}(I:∀(J:bo) (S:qV) (R:List ah->au->Prop),J.handled=A.handled->(∀h' tk v,C h' tk v->R v { s with heap:=h',toks:=tk })->wpAny (model prog w) J (collect x) R S s)
  (N:∀h' tk v,C h' tk v->v.length<64)
  (U:∀h' tk v (J:bo),C h' tk v->J.units<=A.units+16->Kinds prog w J { s with heap:=midH (h'.push (seqObj "list" v.toArray 0)) h'.objs.size v,toks:=tk } (rk h') v)
  (h:∀h' tk v G (y:lz) (e:Nat),C h' tk v->(∀b o,h'.get? b=some o->G.get? b=some o)->(arrOf y).Perm (pairsOf v)->Up (rk h') (arrOf y) v.length->G.get? h'.objs.size=some (seqObj "list" ((arrOf y).map (·.2)) e)->Q (.ref h'.objs.size) { s with heap:=G,toks:=tk }) :
  wpAny (model prog w) A (call (.builtin "sorted") [x]) Q E s:=by
 have hs:64<=sizeLine:=by decide
 refine iR kind_sorted plain_sorted entry_sorted (args_sorted1 _) ?_;unfold fH.«sorted»;refine aa (m:=checkCount "sorted" 1 1 _) (aj (aa (I _ _ _ rfl fun h' tk v c=>?_)))
 have L:=N h' tk v c;refine aa (gX (hsz:=by show v.toArray.size<=_;rw[ax];lia) ?_)
 have Z:(h'.push (seqObj "list" v.toArray 0)).get? h'.objs.size=some (seqObj "list" v.toArray 0):=ay _ rfl;refine aa (bz (dO oO ⟨_,Z,rfl⟩ nZ ?_ (oP _)));refine zkd (s:={ s with heap:=h',toks:=tk }) L (U h' tk v _ c (by show A.units+1+1<=_;lia)) fun G y e kp Y p2 he=>?_
 exact aj ⟨_,rfl,h h' tk v G y e c kp Y p2 he⟩
end
section
variable{X:Cx}
theorem zqK{pins:qO}{σ:St}{H:Hp}{s:au}{q:ak}{b k:Int}(I:Inv X pins σ H s)(h:SqT X.K H q [.int b,.int k]):PrIn s.heap (.ref q) b k:=by
 obtain⟨is,rs,⟨o,f1,f2,n,l⟩,_⟩:=I.tuple h;cases rs with
 | cons a1 a2 =>
  cases a2 with
  | cons u v =>
   cases v;obtain⟨t,rfl⟩:=a1;obtain⟨t',rfl⟩:=u;exact⟨q,o,t,t',n,rfl,f1,f2,l⟩
end
section
variable{K:qF}{hd:Option ak}{O:ak->Prop}{H:Hp}{zs:ZT}{ks:KT2}
theorem Rep.bkI{v:V}{a b:Int}(h:Rep K hd O H v (.tuple [.int a,.int b])):∃q,v=.ref q/\SqT K H q [.int a,.int b]:=by
 obtain⟨q,J,rfl,sq,I⟩:=h.tupI;cases I with
 | cons x y =>
  cases y with
  | cons G C =>
   cases C;rw[x.intI,G.intI]at sq;exact⟨q,rfl,sq⟩
end
end L2
namespace L2
open PySem
abbrev RL:=List ((Int×Int)×Int)
end L2
namespace Bd
open PySem PySem.W PySem.Calls L2 PyProof.Rows
structure ZZ where
 P:aG
 w:aP
 K:qF
 mg:Str->Option ah
 base:aN
def FQ(Z:ZZ)(x:Str)(st:cT)(ps:List Str)(k:Nat)(l:Sp):Prop:=Fq Z.P Z.w Z.K Z.mg Z.base x st ps k l
theorem okQ{Z:ZZ}{x:Str}{st:cT}{ps N:List Str}{k m:Nat}{g:GD}(D:Dq Z.K Z.mg x st ps)(S:Q8 N ps (JE st))(v:m=ps.length)
  (y:∀(f:ak) (l:ah) (A:bo) (outer:List Env) (s:au) (H:Hp) (E:XK),Room k (A.deeper (envOfC x (JE st) s.heap.objs.size f l))->∃d,DSs (cxOf CX0 Z.P Z.w Z.K Z.mg Z.base N x (JE st) f l A outer s H E).nox (JZ st) d /\
   ∀ts n R,ts.length=m->g ts n R->d { nx:=fun _ C=>R .none C,rt:=R } (JY N ts) n):FQ Z x st ps (k+1) (spD Z.K m g):=by
 obtain⟨f,fd,D⟩:=D;exact⟨f,fd,D,D.okD S v fun l A outer s H E u=>y f l A outer s H E u⟩
theorem bnd1{x:Str}{st:cT}{a:Str}(h:∀(kV doc pm:ah) (an:Option ak) (l ct u:ah),bindArgs (cQ x x (Qw st) (JZ st) (JE st) .none kV doc pm an l ct) ⟨[u],[]⟩=pure [(a,u)]):BndA x st [a]:=fun _ _ _ _ _ _ y v=>by obtain⟨_,rfl⟩:=len1 v;exact h ..
theorem bnd2{x:Str}{st:cT}{a b:Str}(h:∀(kV doc pm:ah) (an:Option ak) (l ct u v:ah),bindArgs (cQ x x (Qw st) (JZ st) (JE st) .none kV doc pm an l ct) ⟨[u,v],[]⟩=pure [(a,u),(b,v)]):BndA x st [a,b]:=fun _ _ _ _ _ _ C y=>by obtain⟨_,_,rfl⟩:=len2 y;exact h ..
theorem bnd3{x:Str}{st:cT}{a b c:Str}(h:∀(kV doc pm:ah) (an:Option ak) (l ct u v y:ah),bindArgs (cQ x x (Qw st) (JZ st) (JE st) .none kV doc pm an l ct) ⟨[u,v,y],[]⟩=pure [(a,u),(b,v),(c,y)]):BndA x st [a,b,c]:=fun _ _ _ _ _ _ G C=>by obtain⟨_,_,_,rfl⟩:=len3 C;exact h ..
theorem bnd4{x:Str}{st:cT}{a b c d:Str}(h:∀(kV doc pm:ah) (an:Option ak) (l ct u v y z:ah),bindArgs (cQ x x (Qw st) (JZ st) (JE st) .none kV doc pm an l ct) ⟨[u,v,y,z],[]⟩=pure [(a,u),(b,v),(c,y),(d,z)]):BndA x st [a,b,c,d]:=fun _ _ _ _ _ _ G C=>by obtain⟨_,_,_,_,rfl⟩:=len4 C;exact h ..
def JF(h:aN):qF:=(eX h.objs.size).filterMap fun a=>(h.get? a).map fun o=>(a,o)
theorem zk8{h:aN}:∀{x:List ak}{a:ak},a∈x->(x.filterMap fun a=>(h.get? a).map fun o=>(a,o)).lookup a=h.get? a\/h.get? a=none
 | [],_,m=>nomatch m
 | b::x,a,m=>by
  by_cases e:a=b
  ·subst e;cases g:h.get? a with
   | none=>exact .inr rfl
   | some o=>exact .inl (by rw[cS];simp[g,cA])
  ·have y:a∈x:=(aw.mp m).resolve_left e;rcases zk8 (h:=h) y with z|z
   ·refine .inl ?_;rw[cS];cases g:h.get? b with
    | none=>exact z
    | some o =>
     have:(a == b)=false:=by simpa using e
     simp only[ei];rw[cA,this];exact z
   ·exact .inr z
theorem UX{h:aN}{a:ak}{o:Obj}(e:h.get? a=some o):(JF h).lookup a=some o:=by
 have m:a∈eX h.objs.size:=gm.mpr (av e);rcases zk8 (h:=h) m with z|z
 ·exact z.trans e
 ·rw[e]at z;cases z
theorem zj0{h:aN}:(JF h).In h:=fun a o e=>by
 have key:∀(v:List ak),(v.filterMap fun a=>(h.get? a).map fun o=>(a,o)).lookup a=some o->h.get? a=some o:=by
  intro v;induction v with
  | nil=>intro z;cases z
  | cons b v x =>
   intro z;rw[cS]at z;cases g:h.get? b with
   | none=>rw[g]at z;exact x z
   | some y =>
    rw[g]at z;simp only[ei,cA]at z;cases q:a == b with
    | true=>rw[q]at z;cases z;rw[eq_of_beq q];exact g
    | false=>rw[q]at z;exact x z
 exact key _ e
def ZK:cT->Bool
 | .FunctionDef ..=>true
 | _=>false
def defName:cT->Str
 | .FunctionDef n _ _ _ _ _ _ _ _ _=>n
 | _=>ae ""
def ztm:cT->Pos
 | .FunctionDef _ _ _ _ _ _ _ _ _ p=>p
 | _=>⟨0,0,0,0⟩
def recD(st:cT):DefRec:=⟨defName st,Qw st,JZ st,JE st,ztm st⟩
theorem getD_mem{l:List cT}{i:Nat}(h:ZK (l.getD i (.Pass ⟨0,0,0,0⟩))=true):l.getD i (.Pass ⟨0,0,0,0⟩)∈l:=by
 rw[aY]at h ⊢;cases e:l[i]? with
 | none=>rw[e]at h;cases h
 | some s=>exact aV e
section
variable{q:aG}{loose:List Str}{HD:m4->Option ah}{mg mb:qM}{h:aN}{x:Str}{st:cT}{ps:List Str}
theorem zlX{cd:ah}{n:Str}(c:h.CodeRec cd n):gr (JF h) cd n=true:=by
 obtain⟨a,o,l,t,rfl,g,d,e⟩:=c;unfold gr;dsimp only;rw[UX g];obtain⟨v,u,dd,y⟩:=o;cases(show dd=_ from d)
 have l2:l.toList[1]?=some (.str n t):=by simpa using e
 dsimp only
 match hv:l.toList,l2 with
 | [],l2=>simp at l2
 | [_],l2=>simp at l2
 | a::b::r,l2 =>
  have:b=.str n t:=by simpa using l2
  subst this;simp
theorem dq_g(T:Top q loose HD mg mb h)(hd:recD st∈recsOf q)(G:defName st=x)(N:BndA x st ps):Dq (JF h) mg x st ps:=by
 obtain⟨a,o,pm,cd,doc,y,I,C,v⟩:=T.fn _ hd;have y:mg (defName st)=some (.ref a):=y;have v:h.CodeRec cd (defName st):=v;rw[G]at y v;obtain⟨R,L,dd,J⟩:=o;have C:dd=.func (docDef (defName st) (Qw st) (JZ st) (JE st) pm cd doc):=C;rw[G]at C;have l:(JF h).lookup a=some ⟨R,L,.func (cQ x x (Qw st) (JZ st) (JE st) .none .none doc pm none cd .none),J⟩:=by
  rw[UX I,C];rfl
 have kp:gq (JF h) (.ref a)=true:=by
  unfold gq;dsimp only;rw[l]
 exact⟨a,_,zos l (zlX v) kp,(zos l (zlX v) kp).binds N,y⟩
end
end Bd
namespace L2
open PySem PySem.Spec PyProof PyProof.Rows
abbrev BL:=List (Int×Int)
abbrev PR:=List ((Int×Int)×(Int×Int))
abbrev upH(b:Int×Int):Int×Int:=(eQ b.1 (2 ^ (b.2 - 1).toNat),b.2 - 1)
abbrev loH(b:Int×Int):Int×Int:=(b.1,b.2 - 1)
abbrev NP:=(Int×Int)×Str
def PsIn(h:aN)(u:ah)(r:NP):Prop:=∃(a p:ak) (o:Obj) (t:Tok) (n:Nat),u=.ref a/\h.get? a=some o/\o.cls=.type "tuple" /\ o.data=.seq #[.ref p,.str r.2 t] n/\PrIn h (.ref p) r.1.1 r.1.2
theorem PsIn.kept{h h':aN}{u:ah}{r:NP}(p:PsIn h u r)(kp:∀b o,h.get? b=some o->h'.get? b=some o):PsIn h' u r:=by
 obtain⟨a,q,o,t,n,v,l,x,C,y⟩:=p;exact⟨a,q,o,t,n,v,kp _ _ l,x,C,y.kept kp⟩
theorem PsIn.uniq{h:aN}{u:ah}{r C:NP}(p:PsIn h u r)(I:PsIn h u C):r=C:=by
 obtain⟨a,q,o,t,n,rfl,S,_,U,⟨x,ox,t1,t2,m,x0,N,_,L⟩⟩:=p;obtain⟨a',q',Y,t',n',J,f1,_,f2,⟨y,oy,Z,u2,m',R,v,_,l⟩⟩:=I;cases J;rw[S]at f1;cases f1;rw[U]at f2
 injection f2 with f2 _
 have f2:=congrArg kB f2;simp at f2;obtain⟨G,f4,_⟩:=f2;cases x0;cases R;subst G;rw[N]at v;cases v;rw[L]at l
 injection l with l _
 have l:=congrArg kB l;simp at l;exact fU (fU l.1.1 l.2.1) f4
def npLt(a b:NP):Bool:=if a.1=b.1 then decide (a.2.cps.toList<b.2.cps.toList) else decide (a.1.1<b.1.1\/(a.1.1=b.1.1/\a.1.2<b.1.2))
theorem Vo{a b:NP}:npLt a b=true↔(a.1.1<b.1.1\/(a.1.1=b.1.1/\(a.1.2<b.1.2\/(a.1.2=b.1.2/\a.2.cps.toList<b.2.cps.toList)))):=by
 unfold npLt;obtain⟨⟨a1,a2⟩,y⟩:=a;obtain⟨⟨v,u⟩,x⟩:=b;dsimp only
 by_cases e:(a1,a2)=(v,u)
 ·rw[if_pos e];cases e;simp
 ·rw[if_neg e,decide_eq_true_eq];have:¬(a1=v/\a2=u):=fun z=>e (by rw[z.1,z.2])
  constructor
  ·rintro(h|h)
   ·exact .inl h
   ·exact .inr ⟨h.1,.inl h.2⟩
  ·rintro(h|⟨h,h'|h'⟩)
   ·exact .inl h
   ·exact .inr ⟨h,h'⟩
   ·exact absurd ⟨h,h'.1⟩ this
theorem zqe(x y:Str):x.cps.toList<y.cps.toList\/x=y\/y.cps.toList<x.cps.toList:=by
 by_cases h:x.cps.toList<y.cps.toList
 ·exact .inl h
 ·by_cases h':y.cps.toList<x.cps.toList
  ·exact .inr (.inr h')
  ·refine .inr (.inl (L2.Str.ext' ?_));exact List.le_antisymm (uM.mp h') (uM.mp h)
theorem ziA(a:NP):npLt a a=false:=by
 rw[dG,ne_eq,Vo];rintro(h|⟨_,h|⟨_,h⟩⟩)
 ·omega
 ·omega
 ·exact oV _ h
theorem ziz(a b:NP):npLt a b=true\/a=b\/npLt b a=true:=by
 rw[Vo,Vo];obtain⟨⟨a1,a2⟩,x⟩:=a;obtain⟨⟨y,v⟩,u⟩:=b;dsimp only;rcases fw a1 y with h|rfl|h
 ·exact .inl (.inl h)
 ·rcases fw a2 v with h|rfl|h
  ·exact .inl (.inr ⟨rfl,.inl h⟩)
  ·rcases zqe x u with h|rfl|h
   ·exact .inl (.inr ⟨rfl,.inr ⟨rfl,h⟩⟩)
   ·exact .inr (.inl rfl)
   ·exact .inr (.inr (.inr ⟨rfl,.inr ⟨rfl,h⟩⟩))
  ·exact .inr (.inr (.inr ⟨rfl,.inl h⟩))
 ·exact .inr (.inr (.inl h))
theorem zjF{a b c:NP}(h:npLt a b=true)(h':npLt b c=true):npLt a c=true:=by
 rw[Vo]at h h' ⊢;rcases h with h|⟨e,h|⟨u,h⟩⟩ <;> rcases h' with h'|⟨f,h'|⟨f2,h'⟩⟩
 ·exact .inl (by omega)
 ·exact .inl (by omega)
 ·exact .inl (by omega)
 ·exact .inl (by omega)
 ·exact .inr ⟨by omega,.inl (by omega)⟩
 ·exact .inr ⟨by omega,.inl (by omega)⟩
 ·exact .inl (by omega)
 ·exact .inr ⟨by omega,.inl (by omega)⟩
 ·exact .inr ⟨by omega,.inr ⟨by omega,List.lt_trans h h'⟩⟩
def npRk(rs:List NP)(r:NP):Int:=((rs.filter fun q=>npLt q r).length:Int)
theorem zlC{α:Type}{p q:α->Bool}{l:List α}(h:∀x,p x=true->q x=true):(l.filter p).length<=(l.filter q).length:=by
 induction l with
 | nil=>exact az _
 | cons a l u =>
  rw[gS,gS];cases e:p a
  ·cases q a
   ·exact u
   ·exact Nat.le_succ_of_le u
  ·rw[h a e];exact Nat.succ_le_succ u
theorem zlB{α:Type}{p q:α->Bool}{l:List α}(h:∀x,p x=true->q x=true){a:α}(u:a∈l)(v:p a=false)(y:q a=true):(l.filter p).length<(l.filter q).length:=by
 induction l with
 | nil=>cases u
 | cons b l C =>
  rw[gS,gS];rcases aw.mp u with rfl|u
  ·rw[v,y];exact Nat.lt_succ_of_le (zlC h)
  ·have:=C u;cases e:p b
   ·cases q b
    ·exact this
    ·exact mZ this
   ·rw[h b e];exact Nat.succ_lt_succ this
theorem Y4{rs:List NP}{a b:NP}(u:a∈rs)(h:npLt a b=true):npRk rs a<npRk rs b:=by
 unfold npRk;have:=zlB (p:=fun q=>npLt q a) (q:=fun q=>npLt q b) (l:=rs) (fun x hx=>zjF hx h) u (ziA a) h
 omega
theorem zpk{rs:List NP}{a b:NP}(l:a∈rs)(u:b∈rs):npLt a b=decide (npRk rs a<npRk rs b):=by
 rcases ziz a b with h|rfl|h
 ·rw[h,decide_eq_true (Y4 l h)]
 ·rw[ziA];symm;rw[decide_eq_false_iff_not];exact Int.lt_irrefl _
 ·have:=Y4 u h;rw[decide_eq_false (by omega)]
  cases e:npLt a b with
  | false=>rfl
  | true=>have:=Y4 l e;omega
open Classical in
noncomputable def rkNP (rs:List NP) (h:aN) (u:ah):Int:=if z:∃r,PsIn h u r then npRk rs z.choose else 0
theorem PsIn.rk{rs:List NP}{h:aN}{u:ah}{r:NP}(p:PsIn h u r):rkNP rs h u=npRk rs r:=by
 unfold rkNP;have z:∃r,PsIn h u r:=⟨r,p⟩;rw[dif_pos z,z.choose_spec.uniq p]
section
variable{prog:aG}{w:aP}{A:bo}{E:qV}{s:au}
theorem zpx{C:List ah}{Q:iK->au->Prop}(h1:1<=C.length)(hp:∀v∈C,∃r,PsIn s.heap v r)(h:Q (tuples' false) s):wpAny (model prog w) A (keyKind' C.toArray) Q E s:=by
 rw[keyKind'_eq,gF,map_eq_pure_bind];refine aa (aa (Y0 (P:=fun _ r=>∃(p:ak) (o:Obj),r=some (.ref p)/\s.heap.get? p=some o/\o.cls=.type "tuple") C (fun v L Q' N=>?_) fun rs R=>aj ?_))
 ·obtain⟨r,a,p,o,t,n,rfl,G,e2,e3,a',o',t1,t2,n',e4,Z,e6,e7⟩:=hp v L;cases e4;rw[zi6];refine aa (fI (T:="tuple") ⟨o,G,e2⟩ ?_);rw[if_neg (by decide)]
  exact aa (fJ G e3 (aj (N _ ⟨p,o',rfl,Z,e6⟩)))
 ·have al:∀r∈rs,∃(p:ak) (o:Obj),r=some (.ref p)/\s.heap.get? p=some o/\o.cls=.type "tuple":=fun r I=>by
   obtain⟨_,_,h⟩:=zct R I;exact h
  have HV:(rs.toArray.all fun x=>x.isSome)=true:=by
   rw[gR,bc];intro x hx;obtain⟨p,o,rfl,_⟩:=al x hx
   rfl
  rw[if_pos HV];refine aa (eI ?_);rw[n8];have J:rs.toArray.filterMap id=(rs.filterMap id).toArray:=by simp
  rw[J,gF,map_eq_pure_bind];refine aa (aa (aa (Y0 (P:=fun _ r=>r=bh "tuple") _ (fun v L Q' N=>?_) fun ts S=>aj ?_)))
  ·obtain⟨x,hx,e⟩:=eY.mp L;obtain⟨p,o,rfl,g,c⟩:=al x hx;cases e;exact fI (T:="tuple") ⟨o,g,c⟩ (N _ rfl)
  ·have u:∀r∈ts,r=bh "tuple":=fun r I=>by
    obtain⟨_,_,h⟩:=zct S I;exact h
   cases ts with
   | nil=>exact aj (aj h)
   | cons Y U =>
    have G:Y=bh "tuple":=u Y (.head _);subst G;have HY:(((bh "tuple")::U).toArray.all fun x=>x == bh "tuple")=true:=by
     rw[gR,bc];intro x hx;rw[u x hx];rfl
    have h0:((bh "tuple")::U).toArray[0]?=some (bh "tuple"):=by simp
    rw[h0];simp only[HY,if_true];refine aj (aj ?_);exact h
theorem zm_(x y:Str)(t u:Tok):LtAt prog w A s false (.str x t) (.str y u) (decide (x.cps.toList<y.cps.toList)):=fun E Q q=>by
 rw[rX];simp only[aH,if_false];refine aa (show wpAny (model prog w) A (compareOp .Lt (.str x t) (.str y u)) _ E s from vg ?_)
 exact bq q
theorem znt{l:List ah}{h0:aN}{rs:List NP}(G:A.units<cLine)(C:∀v∈l,∃r,r∈rs/\PsIn s.heap v r/\rkNP rs h0 v=npRk rs r):Kinds prog w A s (rkNP rs h0) l:=fun h2=>by
 refine⟨tuples' false,fun E Q q=>zpx (by lia) (fun v U=>?_) q,fun p q E Q mp Y h=>?_⟩
 ·obtain⟨r,_,h,_⟩:=C v U;exact⟨r,h⟩
 ·have mem:∀z∈(pairsOf l).toList,z.1∈l:=fun z hz=>by
   have:z∈l.zip l:=by simpa[pairsOf] using hz
   exact(cV this).1
  obtain⟨⟨⟨b,k⟩,g⟩,m1,⟨a,x,o,t,n,S,e1,e2,N,I⟩,Z⟩:=C _ (mem p mp);obtain⟨⟨⟨u,y⟩,g'⟩,m2,⟨a',x',o',t',n',f0,f1,f2,J,f4⟩,R⟩:=C _ (mem q Y);rw[Z,R,<- zpk m1 m2]at h;rw[S,f0];refine zgF e1 N f1 J (zpY G I f4) (SeqAt.EqAt.str_str g t g' t') (fun _=>zpr G I f4) (fun _=>zm_ g g' t t') ?_
  have:(if decide (b=u/\k=y)=true then(if (g == g')=true then false else decide (g.cps.toList<g'.cps.toList)) else HT.lexLt [b,k] [u,y])=npLt ((b,k),g) ((u,y),g'):=by
   rw[zps];unfold npLt;dsimp only
   by_cases e:b=u/\k=y
   ·obtain⟨rfl,rfl⟩:=e;rw[if_pos (by simp),if_pos rfl]
    by_cases eg:g=g'
    ·subst eg;rw[if_pos (by simp)]
     symm;rw[decide_eq_false_iff_not];exact oV _
    ·rw[if_neg (by simpa using eg)]
   ·rw[if_neg (by simpa using e),if_neg (fun z=>e (by cases z;exact⟨rfl,rfl⟩))]
  rw[this];exact h
end
section
variable{X:Cx}
def PsV(K:qF)(H:Hp)(z:V×NP):Prop:=∃a q,z.1=.ref a/\SqT K H a [.ref q,.str z.2.2]/\SqT K H q [.int z.2.1.1,.int z.2.1.2]
theorem zus{pins:qO}{σ:St}{H:Hp}{s:au}{a q:ak}{r:NP}(I:Inv X pins σ H s)(h:SqT X.K H a [.ref q,.str r.2])(u:SqT X.K H q [.int r.1.1,.int r.1.2]):PsIn s.heap (.ref a) r:=by
 obtain⟨is,rs,⟨o,f1,f2,n,l⟩,_⟩:=I.tuple h;cases rs with
 | cons a1 a2 =>
  cases a2 with
  | cons v x =>
   cases x;cases(show _=bT q from a1)
   obtain⟨t,rfl⟩:=v;exact⟨a,q,o,t,n,rfl,f1,f2,l,zqK I u⟩
theorem zfS(hu:X.A.units+64<cLine):JN X (.builtin "sorted") (fun xs H Q=>∃(p:ak) (zs:List (V×NP)),xs=[.ref p]/\(SqL X.K H p (zs.map (·.1))\/SqT X.K H p (zs.map (·.1)))/\zs.length<64/\(∀z∈zs,PsV X.K H z) /\
  ∀J:List (V×NP),J.Perm zs->J.Pairwise (fun a b=>npRk (zs.map (·.2)) a.2<=npRk (zs.map (·.2)) b.2)->∀l,H l=none->Q (.ref l) (upd H l (.lst (J.map (·.1))))):=by
 intro pins s σ H xs us Q I r h;obtain⟨p,zs,rfl,N,h64,hp,q⟩:=h;obtain⟨u,rfl,rx⟩:=vals1 r;cases rx;have hs:64<=sizeLine:=by decide
 have key:∀(v:List ah) (o:Obj) (T:String) (n:Nat),Vals (zs.map (·.1)) v->s.heap.get? p=some o->o.cls=.type T->(T = "list" \/ T = "tuple")->o.data=.seq v.toArray n ->
   wpAny (model X.prog X.w) X.A (call (.builtin "sorted") [.ref p]) (EP X pins σ Q) X.xe s:=fun v o T n rv R hc hT hd=>by
  have hlen:zs.length=v.length:=by simpa using rv.length
  have cell:dh (fun(z:V×NP) (u:ah)=>RelV z.1 u/\PsIn s.heap u z.2) zs v:=by
   have go:∀(zs:List (V×NP)) (v:List ah),(∀z∈zs,PsV X.K H z)->Vals (zs.map (·.1)) v->dh (fun(z:V×NP) (u:ah)=>RelV z.1 u/\PsIn s.heap u z.2) zs v:=by
    intro zs;induction zs with
    | nil=>intro v _ r;cases r;exact .nil
    | cons z zs ih =>
     intro v hz r;cases r with
     | cons Y r2 =>
      obtain⟨a,q,e1,e2,e3⟩:=hz z (.head _);refine .cons ⟨Y,?_⟩ (ih _ (fun y hy=>hz y (.tail _ hy)) r2)
      dsimp only at Y;rw[e1]at Y;cases(show _=bT a from Y)
      exact zus I e2 e3
   exact go zs v hp rv
  refine zjr (A:=X.A) (x:=.ref p) (rk:=rkNP (zs.map (·.2))) (C:=fun h' tk U=>U=v/\(∀b o,s.heap.get? b=some o->h'.get? b=some o)/\s.heap.objs.size<=h'.objs.size) ?_ ?_ ?_ ?_
  ·intro A' E' Q' hA N;refine zey R hc hT hd (by lia) ?_
   have hq':=N ((s.heap.push (seqObj "list" #[] 0)).update s.heap.objs.size (eK (·++v.toArray))) s.toks v ⟨rfl,fun b ob Z=>?_,?_⟩
   ·exact hq'
   ·rw[fR _ _ _ _ (aD (av Z))];exact aq _ Z
   ·rw[cn,dH];exact iX _
  ·rintro h' tk U ⟨rfl,_,_⟩;lia
  ·rintro h' tk U A' ⟨rfl,kp,_⟩ hA';refine znt (by lia) fun u hu=>?_
   obtain⟨x,mx,_,rl⟩:=zct cell hu;have S:=rl.kept kp;exact⟨x.2,lP mx,S.kept fun b o e=>zhL e,S.rk⟩
  ·rintro h' tk U h2 y e ⟨rfl,kp,sz⟩ kp2 pm up he;have G:dh (fun(z:V×NP) (u:ah)=>RelV z.1 u/\PsIn h' u z.2) zs U:=Paired.mapP cell fun _ _ h=>⟨h.1,h.2.kept kp⟩
   obtain⟨ws,p1,p2,p3⟩:=zmM (f:=fun x=>npRk (zs.map (·.2)) x.2) G (fun x u hx=>hx.2.rk) pm up
   have rv':Vals (ws.map (·.1)) ((arrOf y).map (·.2)).toList:=by
    have:∀{l:List (V×NP)} {m:List ah},dh (fun(z:V×NP) (u:ah)=>RelV z.1 u/\PsIn h' u z.2) l m->Vals (l.map (·.1)) m:=by
     intro l m p;induction p with
     | nil=>exact .nil
     | cons h t ih=>exact .cons h.1 ih
    exact this p3
   refine⟨.ref h'.objs.size,_,I.laid (a:=h'.objs.size) (o:=.lst (ws.map (·.1))) (t':=tk) (fun b o Z=>kp2 b o (kp b o Z)) sz ?_,rfl,q ws p1 p2 _ (I.hok.fresh sz)⟩
   refine⟨?_,_,e,rv',by rw[he]⟩
   have:=p1.length_eq;rw[aL];lia
 rcases N with N|N
 ·obtain⟨v,r',pl,hz⟩:=I.list N;obtain⟨o,R,hc,n,hd⟩:=pl.isList;exact key v o "list" n r' R hc (.inl rfl) hd
 ·obtain⟨v,r',pl,hz⟩:=I.tuple N;obtain⟨o,R,hc,n,hd⟩:=pl;exact key v o "tuple" n r' R hc (.inr rfl) hd
end
section
variable{X:Cx}{e:aO}{d:DTE}{pos p:Pos}{k:Nat}
theorem zks{K:qF}{hd:Option ak}{O:ak->Prop}{H:Hp}:∀{y:List V}{rs:List NP},Reps K hd O H y (Bd.oD rs)->∀z∈y.zip rs,PsV K H z/\Rep K hd O H z.1 (.tuple [.tuple [.int z.2.1.1,.int z.2.1.2],.str z.2.2])
 | _,[],r=>by cases r;intro z v;simp at v
 | _,a::rs,r=>by
  cases r with
  | cons h r =>
   intro z v;rcases aw.mp (by simpa using v) with rfl|v
   ·refine⟨?_,h⟩;obtain⟨b,N,rfl,sq,L⟩:=h.tupI;cases L with
    | cons J G =>
     cases G with
     | cons C I =>
      cases I;obtain⟨q,rfl,x⟩:=J.bkI;rw[C.strI]at sq;exact⟨b,q,rfl,sq,x⟩
   ·exact zks r z v
def zlL(d:DTE):DTA:=fun v n R=>d v n fun t u=>JW t fun ts=>∃rs:List NP,ts=Bd.oD rs/\rs.length<64/\∀l:List NP,l.Perm rs->l.Pairwise (fun a b=>npRk rs a<=npRk rs b)->R (Bd.oD l) u
theorem zep(hr:Room k X.A)(hm:X.mg "sorted" = none) (h:DL X e d) (hs:starEach [e] X.env=[(false,eval e X.env)]) (hg:Gl X "sorted":=by rfl):DN X (.Call (.Name "sorted" p) [e] [] pos) (zlL d):=by
 obtain⟨ta,pa,h⟩:=h;refine⟨_,Uf (zfS (by have:=hr.un;lia)) hm boot_sorted (J1 pa Qz hs) hg,fun C Z σ H n Q R S hd hq=>?_⟩
 refine h C Z σ H n _ _ S hd fun t n1 v I r1 e1 h1 q1=>?_
 have S1:=S.on e1 h1;have go:∀(p:ak) J ts,(SqL X.K I p J\/SqT X.K I p J)->Reps X.K C.hd (Own C Z σ) I J ts->(∃rs:List NP,ts=Bd.oD rs/\rs.length<64/\∀L:List NP,L.Perm rs->L.Pairwise (fun a b=>npRk rs a<=npRk rs b)->R (Bd.oD L) n1) ->
   ∃(p':ak) (zs:List (V×NP)),[V.ref p]=[V.ref p']/\(SqL X.K I p' (zs.map (·.1))\/SqT X.K I p' (zs.map (·.1)))/\zs.length<64/\(∀z∈zs,PsV X.K I z) /\
  ∀G:List (V×NP),G.Perm zs->G.Pairwise (fun a b=>npRk (zs.map (·.2)) a.2<=npRk (zs.map (·.2)) b.2)->∀l,I l=none->Q (.ref l) (upd I l (.lst (G.map (·.1)))):=fun p J ts hs rp ⟨rs,ets,l64,hR⟩=>by
  subst ets;have ln:=rp.length;rw[Bd.ziy]at ln;have rel:=zks rp;refine⟨p,J.zip rs,rfl,?_,by simp;lia,fun z hz=>(rel z hz).1,fun G pm pw l U=>?_⟩
  ·rw[fK (by lia)];exact hs
  ·have hl0:H l=none:=by
    cases z:H l with
    | none=>rfl
    | some o =>
     by_cases y:C.hd=some l
     ·obtain⟨d,m,t,q,_⟩:=h1 l y;rw[U]at q;cases q
     ·rw[e1 l o z y]at U;cases U
   have pr:(G.map (·.2)).Perm rs:=by
    have:=pm.map (·.2)
    rwa [dP (by lia)]at this
   have rp':∀zs:List (V×NP),(∀z∈zs,Rep X.K C.hd (Own C Z σ) I z.1 (.tuple [.tuple [.int z.2.1.1,.int z.2.1.2],.str z.2.2]))->Reps X.K C.hd (Own C Z σ) I (zs.map (·.1)) (Bd.oD (zs.map (·.2))):=by
    intro zs;induction zs with
    | nil=>intro _;exact .nil
    | cons a l ih=>intro h;exact .cons (h a (.head _)) (ih fun x hx=>h x (.tail _ hx))
   refine hq _ n1 l _ _ (hR _ pr (by rw[dF];rw[dP (by lia)]at pw;exact pw)) (e1.trans (ExtE.new U)) (h1.same (JS U)) hl0 JM ?_
   refine(rp' G fun z hz=>(rel z (pm.mem_iff.mp hz)).2).mono (fun b o hb z=>z.elim id fun z=>?_) fun b o _ hb=>JS U b o hb
   subst z;rw[U]at hb;cases hb
 cases t with
 | list ts =>
  obtain⟨p,J,rfl,Y,h2⟩:=q1.lstI;exact go p J ts (.inl (.of Y)) h2 r1
 | tuple ts =>
  obtain⟨p,J,rfl,Y,h2⟩:=q1.tupI;exact go p J ts (.inr Y) h2 r1
 | _=>exact r1.elim
instance ztC {ρ:En}{n:Nat}{R:List af->Nat->Prop}:Stp (zlL d ρ n R) (d ρ n fun t n1=>JW t fun ts=>∃rs:List NP,ts=Bd.oD rs/\rs.length<64/\∀rs':List NP,rs'.Perm rs->rs'.Pairwise (fun a b=>npRk rs a<=npRk rs b)->R (Bd.oD rs') n1):=⟨fun h=>h⟩
end
section
variable{prog:aG}{w:aP}{A:bo}{R:lY->au->Prop}{I:ak}{fp wr:List ak}{n:Nat}{P:Nat->ah->Prop}{St:Nat->aN->Prop}
def CmpH(prog:aG)(w:aP)(A:bo)(Gd:aN->Prop)(P:Nat->ah->Prop)(bt:Nat->Nat->Bool):Prop :=
 ∀i j vi vj (s:au) (Q:qV) (E:qV),Gd s.heap->P i vi->P j vj->Q (.bool (bt i j)) s->wpAny (model prog w) A (richCompare .Lt vi vj) Q E s
theorem zk4{Gd:aN->Prop}{bt:Nat->Nat->Bool}{S:ak}(W:Walks prog w A.in1 I fp wr n P St)(Il:CmpH prog w A.in1 Gd P bt)(hSf:S∉fp)
  (hG:∀h h',Gd h->(∀b o,b∉wr->b≠S->h.get? b=some o->h'.get? b=some o)->Gd h') :
  ∀(k j:Nat) (s:au) (U:ah) (c:Nat),n - (j+1)=k->j+1<=n->St (j+1) s.heap->Gd s.heap->P (argBest bt j) U ->
  s.heap.get? S=some { cls:=.type "list",dict:=none,data:=.seq #[U,U] c,slots:=#[] } ->
  (∀v h' tk,P (argBest bt (n - 1)) v->(∀b o,b∉wr->b≠S->s.heap.get? b=some o->h'.get? b=some o)->R (.ok (.ret v)) { s with heap:=h',toks:=tk }) ->
  codeAny (model prog w) A (.builtin "min.loop" ⟨[.ref I,.none,.ref S],[]⟩) R s:=by
 have hSw:S∉wr:=fun h=>hSf (W.sub _ h)
 have HL:(toString "min" ++ toString ".loop":String) = "min.loop":=by decide
 intro k;induction k with
 | zero =>
  intro j s U c hk hj hst gd Y hS hR;have hin:j+1=n:=by omega
  refine fe ku ?_;rw[hU dR _];show wpAny _ A.in1 (seqItems? (.ref S) >>= _) _ _ s
  refine aa (cI hS rfl ?_);show wpAny _ A.in1 (tryCatch (pyNext (.ref I)) _ >>= _) _ _ s
  refine aa (iN (W.done s _ _ (hin▸hst) fun h' tk C=>?_))
  show wpAny _ A.in1 (updateSeq S (fun _=>#[]) >>= _) _ _ _
  refine aa (kU (C S _ hSw hS) rfl (aa (gj (aj ?_))));exact hR U _ tk (by rw[<- hin];exact Y) fun b o x G e=>(bP _ _ (gn G)).trans (C b o x e)
 | succ k ih =>
  intro j s U c hk hj hst gd Y hS hR;have hlt:j+1<n:=by omega
  refine fe ku ?_;rw[hU dR _];show wpAny _ A.in1 (seqItems? (.ref S) >>= _) _ _ s
  refine aa (cI hS rfl ?_);show wpAny _ A.in1 (tryCatch (pyNext (.ref I)) _ >>= _) _ _ s
  refine aa (iN (W.item (j+1) s _ _ hlt hst fun v h' tk hP Z C=>?_))
  have hS':=C S _ hSw hS;have gd':Gd h':=hG _ _ gd fun b o hb _ e=>C b o hb e
  show wpAny _ A.in1 (tryCatch (holding [v,v] (richCompare .Lt v U >>= _)) _ >>= _) _ _ _
  refine aa (iN (bz (aa (Il (j+1) (argBest bt j) v U _ _ _ gd' hP Y ?_))));refine aa (bz (bq ?_));refine aa (gj (aj ?_));cases hb:bt (j+1) (argBest bt j) with
  | true =>
   simp only[if_true];refine aa (kU hS' rfl (aa (gj ?_)));rw[HL];refine aj ⟨kb dR _,ih (j+1) _ v _ (by omega) hlt (W.frame _ _ _ Z fun b hbf o e=>?_) (hG _ _ gd' fun b o _ hb e=>(bP _ _ (gn hb)).trans e) (by simp only[argBest,hb,if_true];exact hP) (fk _ hS' rfl)
    fun v' h'' N hP' J=>?_⟩
   ·exact(bP _ _ (fun h:S=b=>hSf (by rw[h];exact hbf))).trans e
   ·exact hR v' h'' N hP' fun b o x G e=>J b o x G ((bP _ _ (gn G)).trans (C b o x e))
  | false =>
   simp only[aH,if_false];refine aa (gj ?_);rw[HL];refine aj ⟨kb dR _,ih (j+1) _ U c (by omega) hlt Z gd' (by simp only[argBest,hb,aH,if_false];exact Y) hS' fun v' h'' N hP' J=>?_⟩
   exact hR v' h'' N hP' fun b o x G e=>J b o x G (C b o x e)
theorem zk3{E:qV}{s:au}{x:ah}{Q:qV}
  (h:wpAny (model prog w) A.in1 (pyIter x) (fun it y=>∃(I:ak) (fp wr:List ak) (n:Nat) (P:Nat->ah->Prop) (St:Nat->aN->Prop) (bt:Nat->Nat->Bool) (Gd:aN->Prop),it=.ref I/\Walks prog w A.in1 I fp wr n P St/\St 0 y.heap/\(∀b∈fp,b<y.heap.objs.size)/\0<n/\CmpH prog w A.in1 Gd P bt/\Gd y.heap /\
   (∀h h',Gd h->(∀b o,b∉wr->b≠y.heap.objs.size->h.get? b=some o->h'.get? b=some o)->Gd h') /\
   ∀v h' tk,P (argBest bt (n - 1)) v->(∀b o,b∉wr->y.heap.get? b=some o->h'.get? b=some o)->Q v { y with heap:=h',toks:=tk }) E s) :
  wpAny (model prog w) A (call (.builtin "min") [x]) Q E s:=by
 have HL:(toString "min" ++ toString ".loop":String) = "min.loop":=by decide
 refine call_function_tree F.kind_min F.plain_min F.entry_min (F.args_min1 _) ?_;show wpAny _ A.in1 (iy "min" ["key","default"] 0 ⟨[],[]⟩ >>= _) _ _ s
 refine aa (nM (show iy "min" ["key","default"] 0 ⟨[],[]⟩=pure [none,none] from rfl) (aa (aj ?_)))
 refine aa (cE h (fun it y Y=>?_) fun _ _ e=>e)
 obtain⟨I,fp,wr,n,P,St,bt,Gd,rfl,W,hst,hfp,hn,Il,gd,Z,hQ⟩:=Y;refine aa (cF ?_);have G:y.heap.objs.size∉fp:=fun hm=>fi _ (hfp _ hm)
 have hSw:y.heap.objs.size∉wr:=fun h=>G (W.sub _ h)
 rw[HL];refine aj ⟨kb dR _,?_⟩;refine fe ku ?_;rw[hU dR _];show wpAny _ A.in1 (seqItems? (.ref y.heap.objs.size) >>= _) _ _ _
 refine aa (cI (ay _ rfl) rfl ?_);show wpAny _ A.in1 (tryCatch (pyNext (.ref I)) _ >>= _) _ _ _
 refine aa (iN (W.item 0 _ _ _ hn (W.frame _ _ _ hst fun b _ o e=>aq _ e) fun v h' tk hP S C=>?_))
 have L:=C y.heap.objs.size _ hSw (ay _ rfl);show wpAny _ A.in1 (updateSeq y.heap.objs.size (fun _=>#[v,v]) >>= _) _ _ _
 refine aa (kU L rfl ?_);rw[HL];have g1:Gd h':=Z _ _ (Z _ _ gd fun b o _ _ e=>aq _ e) fun b o hb _ e=>C b o hb e
 refine aj ⟨kb dR _,zk4 (Gd:=Gd) (bt:=bt) W Il G Z _ 0 _ v _ rfl hn (W.frame _ _ _ S fun b hbf o e=>?_) (Z _ _ g1 fun b o _ hb e=>(bP _ _ (gn hb)).trans e) hP (fk _ L rfl) fun v' h'' U hP' J=>?_⟩
 ·exact(bP _ _ (fun h:y.heap.objs.size=b=>G (by rw[h];exact hbf))).trans e
 ·exact hQ v' h'' U hP' fun b o N e=>J b o N (aD (av e)) ((bP _ _ (kC (av e))).trans (C b o N (aq _ e)))
end
def pLt(a b:Int×Int):Bool:=HT.lexLt [a.1,a.2] [b.1,b.2]
theorem pLt_iff{a b:Int×Int}:pLt a b=true↔(a.1<b.1\/(a.1=b.1/\a.2<b.2)):=by
 have e:pLt a b=if a.1=b.1 then(if a.2=b.2 then false else decide (a.2<b.2)) else decide (a.1<b.1):=rfl
 rw[e]
 by_cases h1:a.1=b.1
 ·rw[if_pos h1]
  by_cases h2:a.2=b.2
  ·rw[if_pos h2];simp;omega
  ·rw[if_neg h2];simp;omega
 ·rw[if_neg h1];simp;omega
theorem zfc{f:Nat->Int×Int}:∀k j,j<=k->pLt (f j) (f (argBest (fun i j=>pLt (f i) (f j)) k))=false
 | 0,j,hj=>by
  cases Nat.le_zero.mp hj;simp only[argBest];rw[dG];intro z;rw[pLt_iff]at z;omega
 | k+1,j,hj=>by
  have u:=zfc (f:=f) k;simp only[argBest];rw[dG];intro z;split at z
  ·rename_i l;rcases mj hj with h|rfl
   ·have:=u j (by omega)
    rw[dG]at this;apply this;rw[pLt_iff]at z l ⊢;omega
   ·rw[pLt_iff]at z;omega
  ·rename_i l;rcases mj hj with h|rfl
   ·have:=u j (by omega)
    rw[dG]at this;exact this z
   ·exact l z
section
variable{X:Cx}{k:Nat}
theorem zlZ(hr:Room k X.A)(hc:X.calm=true):JN X (.builtin "min") (fun xs H Q=>∃(a:ak) (zs:List (V×(Int×Int))),xs=[.ref a]/\SqL X.K H a (zs.map (·.1))/\zs≠[]/\(∀z∈zs,∃q,z.1=.ref q/\SqT X.K H q [.int z.2.1,.int z.2.2]) /\
  ∀z∈zs,(∀y∈zs,pLt y.2 z.2=false)->Q z.1 H):=by
 intro pins s σ H xs us Q I r h;obtain⟨a,zs,rfl,hq,ne,hp,q⟩:=h;cases r with
 | cons G r2 =>
  cases r2;cases(show _=bT a from G)
  obtain⟨x,rv,p,hz⟩:=I.list hq;have cell:dh (fun(z:V×(Int×Int)) (u:ah)=>RelV z.1 u/\PrIn s.heap u z.2.1 z.2.2) zs x:=by
   have go:∀(zs:List (V×(Int×Int))) (x:List ah),(∀z∈zs,∃q,z.1=.ref q/\SqT X.K H q [.int z.2.1,.int z.2.2])->Vals (zs.map (·.1)) x->dh (fun(z:V×(Int×Int)) (u:ah)=>RelV z.1 u/\PrIn s.heap u z.2.1 z.2.2) zs x:=by
    intro zs;induction zs with
    | nil=>intro x _ r;cases r;exact .nil
    | cons z zs ih =>
     intro x hz r;cases r with
     | cons G r2 =>
      obtain⟨q,U,Z⟩:=hz z (.head _);refine .cons ⟨G,?_⟩ (ih _ (fun y Y=>hz y (.tail _ Y)) r2)
      dsimp only at G;rw[U]at G;cases(show _=bT q from G)
      exact zqK I Z
   exact go zs x hp rv
  have C:=cell.length;have at_:∀(i:Nat) (v:ah),x[i]?=some v->∃z,zs[i]?=some z/\RelV z.1 v/\PrIn s.heap v z.2.1 z.2.2:=by
   have go:∀{zs:List (V×(Int×Int))} {x:List ah},dh (fun(z:V×(Int×Int)) (u:ah)=>RelV z.1 u/\PrIn s.heap u z.2.1 z.2.2) zs x->∀(i:Nat) (v:ah),x[i]?=some v->∃z,zs[i]?=some z/\RelV z.1 v/\PrIn s.heap v z.2.1 z.2.2:=by
    intro zs x h;induction h with
    | nil=>intro i v e;simp at e
    | cons h1 _ ih =>
     intro i v e;cases i with
     | zero=>cases e;exact⟨_,rfl,h1⟩
     | succ i=>exact ih i v e
   exact go cell
  have S:s.heap.IsList a x.toArray:=p.isList;have R:a<s.heap.objs.size:=by obtain⟨_,e,_⟩:=S;exact av e
  have hu:X.A.in1.units<cLine:=by have:=hr.un;show X.A.units+1<_;lia
  refine zk3 (fq S ?_);refine⟨s.heap.objs.size,[s.heap.objs.size,a],[s.heap.objs.size],x.toArray.size,_,_,fun i j=>pLt ((zs[i]?.map (·.2)).getD (0,0)) ((zs[j]?.map (·.2)).getD (0,0)),fun h=>∀b o,s.heap.get? b=some o->h.get? b=some o,rfl,vS (A:=X.A.in1) (I.ok.hd hc) _ a (aD R) x.toArray,
   ⟨⟨_,ay _ rfl,rfl,rfl⟩,S.push _⟩,?_,?_,?_,fun b o e=>aq _ e,?_,fun v h' tk hP hk=>?_⟩
  ·intro b hb;simp only[aw,aK,or_false]at hb;rw[dm];rcases hb with rfl|rfl <;> lia
  ·rw[ax,<- C];exact ic.mpr ne
  ·intro i j vi vj s' Q' E' gd hi N hQ;obtain⟨z,J,_,pz⟩:=at_ i vi (by simpa using hi)
   obtain⟨y,ey,_,py⟩:=at_ j vj (by simpa using N)
   obtain⟨a1,o,t,t',n,e0,U,Z,e3⟩:=pz;obtain⟨a2,o',u,u',n',f0,f1,f2,f3⟩:=py;subst e0 f0;simp only[J,ey,ei,cX]at hQ;exact(show wpAny (model X.prog X.w) X.A.in1 (compareOp .Lt (.ref a1) (.ref a2)) _ E' s' from HT.zcZ ⟨o,gd _ _ U,Z,n,e3⟩ ⟨o',gd _ _ f1,f2,n',f3⟩ (.cons _ _ (.cons _ _ .nil)) (.cons _ _ (.cons _ _ .nil)) hu hQ)
  ·intro h h' gd kp b o e;have:=av e;refine kp b o (fun z=>?_) (fun z=>?_) (gd b o e)
   ·simp only[aw,aK,or_false]at z;lia
   ·rw[dm]at z;lia
  ·obtain⟨z,J,rz,_⟩:=at_ _ v (by simpa using hP)
   refine⟨z.1,H,I.kept (rh hk),rz,q z (aV J) fun y Y=>?_⟩
   obtain⟨j,N⟩:=gN.mp Y;have jl:=(aA.mp N).1;have:=zfc (f:=fun i=>(zs[i]?.map (·.2)).getD (0,0)) (x.toArray.size - 1) j (by rw[ax,<- C];lia)
   simp only[ax]at this J;simp only[N,J,ei,cX]at this;exact this
def zqk:GC
 | [.list ts],R=>∃bs:List (Int×Int),ts=pD bs/\bs≠[]/\∀b∈bs,(∀c∈bs,pLt c b=false)->R (.tuple [.int b.1,.int b.2])
 | _,_=>False
theorem zkr{K:qF}{hd:Option ak}{O:ak->Prop}{H:Hp}:∀{x:List V}{bs:qB},Reps K hd O H x (pD bs)->∀z∈x.zip bs,(∃q,z.1=.ref q/\SqT K H q [.int z.2.1,.int z.2.2])/\Rep K hd O H z.1 (.tuple [.int z.2.1,.int z.2.2])
 | _,[],r=>by cases r;intro z v;simp at v
 | _,a::bs,r=>by
  cases r with
  | cons h r =>
   intro z v;rcases aw.mp (by simpa using v) with rfl|v
   ·exact⟨h.bkI,h⟩
   ·exact zkr r z v
theorem zpR:GpC X (fun xs H Q=>∃(a:ak) (zs:List (V×(Int×Int))),xs=[.ref a]/\SqL X.K H a (zs.map (·.1))/\zs≠[]/\(∀z∈zs,∃q,z.1=.ref q/\SqT X.K H q [.int z.2.1,.int z.2.2]) /\
  ∀z∈zs,(∀y∈zs,pLt y.2 z.2=false)->Q z.1 H) zqk:=by
 intro hd O H xs ts Q R dom rs h J;unfold zqk at h;split at h
 ·obtain⟨bs,rfl,ne,h⟩:=h;obtain⟨v,rfl,N⟩:=QJ rs;obtain⟨p,u,rfl,I,C⟩:=N.lstI;have ln:u.length=bs.length:=by have:=C.length;simpa[pD] using this
  have rel:=zkr C;refine⟨p,u.zip bs,rfl,?_,fun z=>?_,fun z x=>(rel z x).1,fun z x L=>J _ _ H (h z.2 (cV x).2 fun c hc=>?_) (Same.refl H) (rel z x).2⟩
  ·rw[fK (by lia)];exact .of I
  ·have:(u.zip bs).length=0:=by rw[z];rfl
   rw[kS,ln,sN]at this;exact ne (eS.mp this)
  ·obtain⟨j,G⟩:=gN.mp hc;have S:=(aA.mp G).1;have:(u[j]'(by lia),c)∈u.zip bs:=gN.mpr ⟨j,by rw[iS];exact⟨aI _,G⟩⟩
   exact L _ this
 ·exact h.elim
theorem zsj{bs:qB}{R:af->Prop}(ne:bs≠[])(h:∀b∈bs,(∀c∈bs,pLt c b=false)->R (.tuple [.int b.1,.int b.2])):zqk [.list (pD bs)] R:=⟨bs,rfl,ne,h⟩
end
def StG(K:qF)(mg:qM)(x:Str)(l:List Str):Prop:=∃a,mg x=some (.ref a)/\StT K a (l.map V.str)
end L2
namespace Bd
open PySem PySem.W PySem.Calls L2 PyProof.Rows
def Z0:List ah->List Str->Bool
 | [],[]=>true
 | .str x _::r,y::z=>decide (x=y)&&Z0 r z
 | _,_=>false
theorem zem:∀{v:List ah}{u:List Str},Z0 v u=true->Vals (u.map V.str) v
 | [],[],_=>.nil
 | .str x t::r,y::z,h=>by
  simp only[Z0,aF,decide_eq_true_eq]at h;obtain⟨rfl,h⟩:=h;exact .cons ⟨t,rfl⟩ (zem h)
def tupO(h:aN)(l:List Str):ah->Bool
 | .ref a=>(match h.get? a with
  | some ⟨.type c,none,.seq vs _,_⟩=>decide (c = "tuple")&&decide (vs.size<=100)&&Z0 vs.toList l
  | _=>false)
 | _=>false
def UA(l:List (Str×List Str))(s:au):Bool:=l.all fun q=>(s.heap.nsMap mainGlobals q.1).any (tupO s.heap q.2)
def TupsAre(l:List (Str×List Str))(mg:qM)(h:aN):Prop:=∀q∈l,∃v,mg q.1=some v/\tupO h q.2 v=true
theorem zqC{l:List (Str×List Str)}{s:au}(x:UA l s=true):TupsAre l (s.heap.nsMap mainGlobals) s.heap:=fun q u=>by
 have e:=bc.mp x q u;cases g:s.heap.nsMap mainGlobals q.1 with
 | none=>rw[g]at e;cases e
 | some v=>rw[g]at e;exact⟨v,rfl,e⟩
theorem zf2{h h':aN}{l:List Str}{v:ah}(x:tupO h l v=true)(k:∀b o,h.get? b=some o->h'.get? b=some o):tupO h' l v=true:=by
 unfold tupO at x ⊢;split at x
 ·rename_i a;cases e:h.get? a with
  | none=>rw[e]at x;cases x
  | some o=>rw[e]at x;rw[k _ _ e];exact x
 ·cases x
theorem TupsAre.keeps{l:List (Str×List Str)}{mg:qM}{h h':aN}(x:TupsAre l mg h)(k:∀b o,h.get? b=some o->h'.get? b=some o):TupsAre l mg h':=fun q u=>by
 obtain⟨v,a,b⟩:=x q u;exact⟨v,a,zf2 b k⟩
theorem TupsAre.st{u:List (Str×List Str)}{mg:qM}{h:aN}(x:TupsAre u mg h){n:Str}{l:List Str}(m:(n,l)∈u):StG (JF h) mg n l:=by
 obtain⟨v,a,b⟩:=x _ m;unfold tupO at b;split at b
 ·rename_i p;split at b
  ·rename_i c C G J e;simp only[aF,decide_eq_true_eq]at b;obtain⟨⟨rfl,I⟩,y⟩:=b;exact⟨p,a,_,C,G,UX e,rfl,rfl,bG I (by decide),zem y,rfl⟩
  ·cases b
 ·cases b
end Bd
namespace L2
open PySem PySem.Spec PyProof.Rows
def ndup:List Str->Bool
 | []=>true
 | x::l=>!l.any (fun y=>decide (x=y))&&ndup l
theorem ndB{l:List Str}(h:ndup l=true):l.Nodup:=by
 induction l with
 | nil=>exact .nil
 | cons x l u =>
  simp only[ndup,aF,i5,mD,decide_eq_true_eq]at h;exact eh.mpr ⟨fun m=>h.1 x m rfl,u h.2⟩
def fnB(N P:List Str)(sc:eU):Bool:=(match sc.kind with|.function=>true|_=>false)&&!sc.isCoroutine&&!sc.isGenerator&&ndup N&&decide (N.take P.length=P)&&P.all (fun x=>decide (sc.names.lookup x=some .local\/sc.names.lookup x=some .cell))&&sc.names.all fun y=>decide (y.2≠.free)
theorem fnS{N P:List Str}{sc:eU}(h:fnB N P sc=true):Q8 N P sc:=by
 simp only[fnB,aF,i5,decide_eq_true_eq,bc]at h;obtain⟨⟨⟨⟨⟨⟨a,b⟩,c⟩,d⟩,e⟩,f⟩,g⟩:=h;exact⟨(by cases q:sc.kind <;> rw[q]at a <;> first|rfl|(exact nomatch a)),b,c,ndB d,e,f,g⟩
section
variable{X:Cx}{x:Str}{e:aO}{es:List aO}{d:DTE}{ds:DTA}{pos pos':Pos}
theorem dlv(i:Nat)(u:X.N[i]?=some x:=by rfl)(v:Vis X.env.scope x:=by walk_at "V")(hd:(x == ("__debug__":Str))=false:=by rfl)
  (l:(x == ("__classdict__":Str))=false:=by rfl):DL X (.Name x pos) (dVar i):=dl (Jk i u v hd l)
theorem dli{i j}:DL X (.Constant (.int i) j pos) (dC (.int i)):=dl Je
theorem dbc(h:DE X e d)(l:DB X es ds)(u:starEach (e::es) X.env=(false,eval e X.env)::starEach es X.env:=by rfl):DB X (e::es) (Qa d ds):=zlK h l u
theorem dbv(i:Nat)(v:DB X es ds)(u:X.N[i]?=some x:=by rfl)(y:Vis X.env.scope x:=by walk_at "V")(hd:(x == ("__debug__":Str))=false:=by rfl)
  (l:(x == ("__classdict__":Str))=false:=by rfl):DB X (.Name x pos::es) (Qa (dVar i) ds):=zlK (Jk i u y hd l) v rfl
theorem dsv(i:Nat)(u:X.N.Nodup)(h:DE X e d)(hi:X.N[i]?=some x:=by rfl)(hx:Loc X.env.scope x:=by first|exact dA rfl|exact oU rfl)(v:swapsWith e (some (.Name x pos')) pos.line X.env=pure false:=by rfl)
  (hf:X.fn x=true\/X.env.scope.names.lookup x=some .local:=by walk_at "F"):DS X (.Assign [.Name x pos'] e pos) (sSet i d):=zth u hi hx h v hf
theorem dgv(i:Nat)(u:X.N.Nodup)(hi:X.N[i]?=some x:=by rfl)(hx:Loc X.env.scope x:=by first|exact dA rfl|exact oU rfl)(hf:X.fn x=true\/X.env.scope.names.lookup x=some .local:=by walk_at "F"):DG X (.Name x pos) [i] (Qd i):=zp3 u hi hx hf
end
section
variable{X:Cx}{scope:eU}{iter elt:aO}{ifs:List aO}{tg:aO}{pos:Pos}{is:List Nat}{di:DTA}{g:DTG}{tt:DTT}{te:DTE}
theorem dnc(own:List Str)(capt:List Nat)(hi:DIL X tg iter di)(G:∀C s₀ H₀ u,DG (Jf X scope own capt C s₀ H₀ u) tg is g)(y:∀C s₀ H₀ u,DE (Jf X scope own capt C s₀ H₀ u) elt te)
  (hc:X.calm=true:=by rfl) (h:VC scope X.env.scope X.N capt=true:=by rfl) (l:∀i∈is,i<own.length:=by decide) (v:∀x,foldedSetIterable iter X.env x=pure x:=by intro _;rfl):DN X (.ListComp elt [⟨tg,iter,[],0⟩] scope pos) (dComp own.length capt di g dYes te) :=
 zlE hc (JG.of h) hi G l (fun _ _ _ _=>Vb) y v
theorem dnf(own:List Str)(capt:List Nat)(hi:DIL X tg iter di)(I:∀C s₀ H₀ l,DG (Jf X scope own capt C s₀ H₀ l) tg is g)(y:∀C s₀ H₀ l,DTs (Jf X scope own capt C s₀ H₀ l) ifs tt)(G:∀C s₀ H₀ l,DE (Jf X scope own capt C s₀ H₀ l) elt te)
  (hc:X.calm=true:=by rfl) (h:VC scope X.env.scope X.N capt=true:=by rfl) (u:∀i∈is,i<own.length:=by decide) (v:∀x,foldedSetIterable iter X.env x=pure x:=by intro _;rfl):DN X (.ListComp elt [⟨tg,iter,ifs,0⟩] scope pos) (dComp own.length capt di g tt te) :=
 zlE hc (JG.of h) hi I u y G v
end
end L2
namespace Bd
open PySem PySem.W PySem.Calls L2 PyProof.Rows
def Qh(h:aN):ah->Option (List cW)
 | .ref a=>if a == sysModules then none else(match h.get? a with
  | some ⟨.type c,none,.dict es _,sl⟩=>if decide (c = "dict")&&decide (sl.size=0) then some es.toList else none
  | _=>none)
 | _=>none
theorem zc5{h h':aN}{v:ah}{l:List cW}(x:Qh h v=some l)(k:∀b o,h.get? b=some o->h'.get? b=some o):Qh h' v=some l:=by
 unfold Qh at x ⊢;split at x
 ·rename_i a;split at x
  ·cases x
  ·rename_i q;rw[if_neg q];cases e:h.get? a with
   | none=>rw[e]at x;cases x
   | some o=>rw[e]at x;rw[k _ _ e];exact x
 ·cases x
theorem zi9{h:aN}{v:ah}{C:List cW}(x:Qh h v=some C):∃a l u,v=.ref a/\(a == sysModules)=false/\h.get? a=some ⟨.type "dict",none,.dict l u,#[]⟩/\l.toList=C:=by
 unfold Qh at x;split at x
 ·rename_i a;split at x
  ·cases x
  ·rename_i q;split at x
   ·rename_i c l u I e;split at x
    ·rename_i z;simp only[aF,decide_eq_true_eq]at z;obtain⟨rfl,G⟩:=z;have:I=#[]:=Array.eq_empty_of_size_eq_zero G;subst this;cases x;exact⟨a,l,u,rfl,by simpa using q,e,rfl⟩
    ·cases x
   ·cases x
 ·cases x
def keyO(k:Str):ah->Bool
 | .str x _=>decide (x=k)
 | _=>false
def Uq(h:aN):List cW->List (Str×List Str)->Bool
 | [],[]=>true
 | e::r,q::z=>keyO q.1 e.key&&tupO h q.2 e.val&&Uq h r z
 | _,_=>false
def zq7:ah->Option ah->Bool
 | .ref a,some (.ref b)=>a == b
 | _,_=>false
def Yu(mg:qM):List cW->List Str->Bool
 | [],[]=>true
 | e::r,k::z=>keyO k e.key&&zq7 e.val (mg k)&&Yu mg r z
 | _,_=>false
abbrev PLs:=List (Str×List (Str×List Str))
abbrev FLs:=List (Str×List Str)
def UB(pl:PLs)(fl:FLs)(s:au):Bool :=
 (pl.all fun q=>(s.heap.nsMap mainGlobals q.1).any fun v=>(Qh s.heap v).any fun l=>Uq s.heap l q.2)&&fl.all fun q=>(s.heap.nsMap mainGlobals q.1).any fun v=>(Qh s.heap v).any fun l=>Yu (s.heap.nsMap mainGlobals) l q.2
structure DctsAre(pl:PLs)(fl:FLs)(mg:qM)(h:aN):Prop where
 p:∀q∈pl,∃v es,mg q.1=some v/\Qh h v=some es/\Uq h es q.2=true
 f:∀q∈fl,∃v es,mg q.1=some v/\Qh h v=some es/\Yu mg es q.2=true
theorem Zw{α:Type}{o:Option α}{p:α->Bool}(h:o.any p=true):∃v,o=some v/\p v=true:=by
 cases o with
 | none=>cases h
 | some v=>exact⟨v,rfl,h⟩
theorem ztt{pl:PLs}{fl:FLs}{s:au}(x:UB pl fl s=true):DctsAre pl fl (s.heap.nsMap mainGlobals) s.heap:=by
 obtain⟨a,b⟩:=aT.mp x;refine⟨fun q l=>?_,fun q l=>?_⟩
 ·obtain⟨v,e,y⟩:=Zw (bc.mp a q l);obtain⟨u,C,y⟩:=Zw y;exact⟨v,u,e,C,y⟩
 ·obtain⟨v,e,y⟩:=Zw (bc.mp b q l);obtain⟨u,C,y⟩:=Zw y;exact⟨v,u,e,C,y⟩
theorem zd6{h h':aN}(k:∀b o,h.get? b=some o->h'.get? b=some o):∀{es ks},Uq h es ks=true->Uq h' es ks=true
 | [],[],_=>rfl
 | e::r,q::z,x=>by
  simp only[Uq,aF]at x ⊢;exact⟨⟨x.1.1,zf2 x.1.2 k⟩,zd6 k x.2⟩
theorem DctsAre.keeps{pl:PLs}{fl:FLs}{mg:qM}{h h':aN}(x:DctsAre pl fl mg h)(k:∀b o,h.get? b=some o->h'.get? b=some o):DctsAre pl fl mg h' :=
 ⟨fun q l=>let ⟨v,es,a,b,c⟩:=x.p q l;⟨v,es,a,zc5 b k,zd6 k c⟩,fun q l=>let ⟨v,es,a,b,c⟩:=x.f q l;⟨v,es,a,zc5 b k,c⟩⟩
def hshs(dl:FLs)(h:aN):List (Option (List Int)):=dl.map fun q=>((globalOf h q.1).bind (Qh h)).map (lx (·.hash))
def hshW(dl:FLs)(w:aP):List (Option (List Int)):=dl.map fun q=>some (q.2.map (hashStr w))
def HshOk(dl:FLs)(w:aP)(h:aN):Prop:=∀q∈dl,((globalOf h q.1).bind (Qh h)).map (lx (·.hash))=some (q.2.map (hashStr w))
theorem zs3{dl:FLs}(w:aP)(s:au)(e:hshs dl s.heap=hshW dl w):HshOk dl w s.heap:=by
 unfold hshs hshW at e;intro q l;exact List.map_inj_left.mp e q l
theorem zfJ{h h':aN}{x:Str}{v:ah}(e:globalOf h x=some v)(k:∀b o,h.get? b=some o->h'.get? b=some o):globalOf h' x=some v:=by
 unfold globalOf at e ⊢;cases g:h.get? mainNs with
 | none=>rw[g]at e;cases e
 | some o=>rw[g]at e;rw[k _ _ g];exact e
theorem znJ{dl:FLs}(w:aP)(h h':aN)(x:HshOk dl w h)(k:∀b o,h.get? b=some o->h'.get? b=some o):HshOk dl w h':=fun q l=>by
 have e:=x q l;cases g:globalOf h q.1 with
 | none=>rw[g]at e;cases e
 | some v =>
  rw[g]at e;rw[zfJ g k];simp only[nH]at e ⊢;cases g2:Qh h v with
  | none=>rw[g2]at e;cases e
  | some u=>rw[g2]at e;rw[zc5 g2 k];exact e
theorem HshOk.at{dl:FLs}{w:aP}{h:aN}{mg:qM}(x:HshOk dl w h)(G:h.Ns mainGlobals mg){n:Str}{u:List Str}(m:(n,u)∈dl){v:ah}{l:List cW}(e:mg n=some v)(d:Qh h v=some l):l.map (·.hash)=u.map (hashStr w):=by
 have y:=x _ m;rw[Claim2Try.globalOf_of_ns G,e]at y;simp only[nH]at y;rw[d]at y;exact aJ y
theorem zlg{k:Str}{v:ah}(h:keyO k v=true):∃t,v=.str k t:=by
 unfold keyO at h;split at h
 ·rename_i x t;have:x=k:=by simpa using h
  subst this;exact⟨t,rfl⟩
 ·cases h
theorem ziu{w:aP}{h:aN}:∀{u:List cW}{v:List (Str×List Str)},Uq h u v=true->u.map (·.hash)=(v.map (·.1)).map (hashStr w)->dh (PtE w (JF h)) u v
 | [],[],_,_=>.nil
 | e::r,q::z,x,y=>by
  simp only[Uq,aF]at x;obtain⟨⟨C,G⟩,J⟩:=x;simp only[cm,fX]at y;have s:TupsAre [(q.1,q.2)] (fun _=>some e.val) h:=fun p I=>by
   cases aC.mp I;exact⟨_,rfl,G⟩
  obtain⟨b,L,st⟩:=s.st (aC.mpr rfl);exact .cons ⟨y.1,zlg C,b,aJ L,st⟩ (ziu J y.2)
theorem DctsAre.st{pl:PLs}{fl dl:FLs}{P:aG}{w:aP}{mg:qM}{h:aN}(x:DctsAre pl fl mg h)(y:HshOk dl w h)(G:h.Ns mainGlobals mg){n:Str}{l:List (Str×List Str)}(m:(n,l)∈pl)(C:(n,l.map (·.1))∈dl)(nd:(l.map (·.1)).Nodup):StD P w (JF h) mg n l:=by
 obtain⟨v,R,a,b,c⟩:=x.p _ m;have I:=y.at G C a b;obtain⟨ad,L,J,rfl,ns,e,rfl⟩:=zi9 b;exact zqJ a ns (UX e) (ziu c I) nd
def StF(P:aG)(w:aP)(K:qF)(mg:qM)(x:Str)(C:List Str):Prop :=
 ∃(a:ak) (o:Obj) (v:Array cW) (y:Nat) (l:List (Str×ah)),mg x=some (.ref a)/\(a == sysModules)=false/\K.lookup a=some o/\o.ExactDict/\o.data=.dict v y/\KeysOf (strKind P w) v/\Pairs (strKind P w) v.toList l/\(l.map (·.1)).Nodup /\
  ∀k∈C,∃f,valueAt l k=some (.ref f)/\mg k=some (.ref f)
theorem zlx{P:aG}{w:aP}{mg:qM}:∀{I:List cW}{G:List Str},Yu mg I G=true->I.map (·.hash)=G.map (hashStr w) ->
  ∃v,Pairs (strKind P w) I v/\v.map (·.1)=G/\(∀e∈I,∃k,(strKind P w).is k e.key=true/\e.hash=(strKind P w).hash k)/\∀k∈G,∃f,(k,bT f)∈v/\mg k=some (.ref f)
 | [],[],_,_=>⟨[],.nil,rfl,(fun e h=>nomatch h),fun k h=>nomatch h⟩
 | e::r,q::z,x,y=>by
  simp only[Yu,aF]at x;obtain⟨⟨S,C⟩,L⟩:=x;simp only[cm,fX]at y;obtain⟨v,a1,a2,U,Z⟩:=zlx (P:=P) L y.2;obtain⟨t,R⟩:=zlg S;have u:(strKind P w).is q e.key=true:=by rw[R];show cP q (.str q t)=true;simp[cP]
  refine⟨(q,e.val)::v,.cons u rfl a1,by simp[a2],fun N J=>?_,fun k u=>?_⟩
  ·rcases aw.mp J with rfl|J
   ·exact⟨q,u,y.1⟩
   ·exact U N J
  ·rcases aw.mp u with rfl|u
   ·unfold zq7 at C;split at C
    ·rename_i a b Y e2;have:a=b:=by simpa using C
     subst this;exact⟨a,by rw[Y];exact .head _,e2⟩
    ·cases C
   ·obtain⟨f,m,g⟩:=Z k u;exact⟨f,.tail _ m,g⟩
theorem zhv{l:List (Str×ah)}(nd:(l.map (·.1)).Nodup){k:Str}{v:ah}(m:(k,v)∈l):valueAt l k=some v:=by
 induction l with
 | nil=>exact nomatch m
 | cons p l x =>
  rw[cm,eh]at nd;rcases aw.mp m with rfl|m
  ·simp[valueAt,fh]
  ·have ne:¬p.1=k:=fun z=>nd.1 (z▸ba.mpr ⟨_,m,rfl⟩)
   have:=x nd.2 m;simpa[valueAt,fh,ne] using this
theorem DctsAre.sf{pl:PLs}{fl dl:FLs}{P:aG}{w:aP}{mg:qM}{h:aN}(x:DctsAre pl fl mg h)(y:HshOk dl w h)(G:h.Ns mainGlobals mg){n:Str}{C:List Str}(m:(n,C)∈fl)(Y:(n,C)∈dl)(nd:C.Nodup):StF P w (JF h) mg n C:=by
 obtain⟨v,es,a,b,c⟩:=x.f _ m;have hh:=y.at G Y a b;obtain⟨ad,S,J,rfl,ns,e,rfl⟩:=zi9 b;obtain⟨I,a1,a2,U,Z⟩:=zlx (P:=P) c hh;have l:(I.map (·.1)).Nodup:=by rw[a2];exact nd
 refine⟨ad,_,S,J,I,a,ns,UX e,⟨rfl,rfl,rfl⟩,rfl,fun L he=>U L (by simpa using he),a1,l,fun k R=>?_⟩
 obtain⟨f,m,g⟩:=Z k R;exact⟨f,zhv l m,g⟩
theorem zui{lw:PySem.W.OpenLaw}{q:aG}{loose:List Str}{XP:(Str->Option ah)->aN->Prop}{YP:aP->aN->Prop}{d:DefRec}{k:Nat}(hk:k<=60)(hn:lw.most=some 63)(L:d.params.defaults=[])
  (F:∀(w:aP) (s₀:au) (mg J:qM) (y:ak) (h:aN),Ground q loose [] XP w s₀ mg J h->YP w h->mg d.name=some (.ref y) ->
   ∃fd:cD,(∀(s:au) (u:ah),oj s fd ⟨[u],[]⟩ [("_law_script",u)])/\∀base:aN,(JF h).In base->base.Ns mainGlobals mg->FnOk lw.prog w (JF h) mg base CX0 k y fd ["_law_script"] (zoD (JF h))) :
  PySem.W.WalkO q loose XP YP lw.row.toRowW d [] (fun f R=>vR f R):=by
 refine Att.attach_call hn L fun w s₀ N mg J y o pm cd doc a R ns G Y ho hd Z C x v l hg=>?_
 obtain⟨fd,hb,S⟩:=F w s₀ mg J y _ G Y C;exact znd zj0 G.T.g G.T.b G.T.builtins G.T.nolimit hg x v (bG l (by decide)) ((show Room 60 callerA from⟨rfl,by decide,by decide,rfl⟩).mono hk) S hb (fun H hO U=>⟨a,ns,rfl,U,l,fun _=>rfl⟩) fun H e s' z=>z
end Bd
namespace L2
open PySem PySem.Spec PyProof.Rows
section
variable{K:qF}{C:Ctx}{ρ:En}{σ:St}{H:Hp}{n:Nat}
theorem ziw{i:Nat}{v:V}(hi:ρ[i]?=some none){a:ak}:Own C ρ (σ.set i (some v)) a↔Own C ρ σ a:=by
 have key:OwnS ρ (σ.set i (some v)) a↔OwnS ρ σ a:=by
  constructor
  ·rintro⟨j,c,m,l,u⟩;have ne:i≠j:=fun z=>by subst z;rw[hi]at l;cases l
   rw[aM ne]at u;exact⟨j,c,m,l,u⟩
  ·rintro⟨j,c,m,l,u⟩;have ne:i≠j:=fun z=>by subst z;rw[hi]at l;cases l
   exact⟨j,c,m,l,by rw[aM ne];exact u⟩
 unfold Own;rw[key]
theorem Stt.hole{i:Nat}{v:V}(hi:ρ[i]?=some none)(S:Stt K C ρ σ H n):Stt K C ρ (σ.set i (some v)) H n:=by
 have l:Own C ρ (σ.set i (some v))=Own C ρ σ:=funext fun a=>propext (ziw hi)
 have ne:∀{j:Nat} {c:Cell},ρ[j]?=some (some c)->(σ.set i (some v))[j]?=σ[j]?:=fun {j c} h=>aM fun z=>by subst z;rw[hi]at h;cases h
 refine⟨by rw[fc];exact S.len,fun j d h=>?_,fun j d h=>?_,fun j d h=>?_,fun j d h=>?_,fun j d h=>?_,fun j k c e a J I u x G y=>?_,S.hnd,S.ext,S.hx⟩
 ·rw[l,ne h];exact S.val j d h
 ·rw[l,ne h];exact S.own j d h
 ·rw[l,ne h];exact S.dct j d h
 ·rw[l,ne h];exact S.rdo j d h
 ·rw[l,ne h];exact S.dtt j d h
 ·rw[ne u]at G;rw[ne x]at y;exact S.dif j k c e a J I u x G y
end
section
variable{X:Cx}{e:aO}{es:List aO}{x y:Str}{pos p1 p2 p3 p4 p5 p6:Pos}{e1:aO}{d:DTE}{te:TE}{t:TA}{ks:List Str}{ds:DTA}{i m n:Nat}
def zup(X:Cx)(ks:List Str)(te:TE):TE:=fun σ H Q=>te σ H fun y l=>∃z,y=.str z/\z∈ks/\∀f,X.mg z=some (.ref f)->Q (.ref f) l
theorem zoY(h:Bd.StF X.prog X.w X.K X.mg x ks)(hg:Gl X x)(he:PE X e te)(hs:NoSl e)(hd:(x == ("__debug__":Str))=false:=by rfl):PE X (.Subscript (.Name x p1) e pos) (zup X ks te):=by
 obtain⟨a,o,es,Z,U,h1,h2,h3,h4,h5,L,R,J,h9⟩:=h;intro pins s σ H Q I hw;refine zkb iU.lookup hs (UM I hg h1 (thn (he pins s σ H _ I hw) fun iv s1 ⟨y,Y,l,v,z,C,G,q⟩=>?_) hd)
 subst C;obtain⟨t,rfl⟩:∃t,iv=iA z t:=v;obtain⟨f,g1,g2⟩:=h9 z G;have dd:s1.heap.DictOf (strKind X.prog X.w) a U:=⟨o,es,Z,l.kIn a o h3,h4,h5,L,R,J⟩;exact⟨dd.typeIs,nF (knd:=strKind X.prog X.w) (k:=z) (by show cP z (.str z t)=true;simp[cP]) dd.mapOf g1 ⟨.ref f,Y,l.tok _,rfl,q f g2⟩⟩
end
end L2
namespace Bd
open PySem PySem.W PySem.Calls L2 PyProof.Rows
def JU(u:String->Option fH)(p:aG)(w:aP)(l:Nat)(ann:Option ah):Nat->tf->Thread->Option tf
 | 0,_,_=>none
 | n+1,s,t=>match through t with
  | true=>some s
  | false=>match stepOk l ann t with
   | false=>none
   | true=>match stepT (denote u) p w s t with
    | some (s',t')=>JU u p w l ann n s' t'
    | none=>none
theorem zeP{u:String->Option fH}{p:aG}{w:aP}{l:Nat}{ann:Option ah}:∀{n:Nat}{s s':tf}{t:Thread},JU u p w l ann n s t=some s'->topRun u p w l ann n s.abs t=some s'.abs
 | 0,_,_,_,h=>by cases h
 | n+1,s,s',t,h=>by
  unfold JU at h;unfold topRun;cases he:through t with
  | true=>rw[he]at h;cases h;rfl
  | false =>
   rw[he]at h;cases hk:stepOk l ann t with
   | false=>rw[hk]at h;cases h
   | true =>
    rw[hk]at h;cases hs:stepT (denote u) p w s t with
    | none=>rw[hs]at h;cases h
    | some r=>obtain⟨v,x⟩:=r;rw[hs]at h;dsimp only at h ⊢;rw[stepT_spec hs];exact zeP h
def zoo:List Obj->Nat->BT->BT
 | [],_,t=>t
 | o::r,i,t=>zoo r (i+1) (t.ins i o)
noncomputable def zqj (P:oE):BT:=zoo (bf P).objs.toList 0 .nil
noncomputable def zb_ (w:aP) (os:eP):tf:=⟨zqj w.params,11,(bf w.params).life,#[],kN,lJ,os⟩
theorem boot_abs(P:oE):absHeap (zqj P) 11 (bf P).life=bf P:=by kernel_rfl
theorem zl9(P:oE):(bf P).objs.size=11:=by kernel_rfl
theorem zqi(P:oE):(bf P).isNs mainGlobals=true:=by kernel_rfl
def UC(p:aG)(h₀:aN)(l:au):Bool:=staticsOk (importedModules p.main.body) h₀ l.heap&&namesBound p l.heap&&gensDone l&&laidKept h₀ l.heap
theorem zla{p q:aG}{loose:List Str}{u:au->Bool}{α:Type}{x:au->α}{y:aP->α}{N:Nat}(e:opening p=plainProg p.main.scope.names)(C:Nat.ble 600 N=true)(R:∀s,fenceModules? p s=some s)
  (run:∀(w:aP) (os:eP),(JU treeTable p w 11 ((bf w.params).nsMap mainGlobals "__annotations__") N (zb_ w os) (topStub p)).map (fun s=>(UC p (bf w.params) s.abs,openSeen q loose (importedModules p.main.body) u true s.abs,x s.abs))=some (true,openGood q loose,y w)) :
  LeftO p q loose u x y N true:=fun w=>by
 obtain⟨⟨h,gs,d,k,os⟩,J,S⟩:=kO.mp (boot_open e C R w);obtain⟨rfl,rfl,rfl,rfl⟩:h=bf w.params/\gs=#[]/\d=kN/\k=lJ:=by simpa using S
 obtain⟨v,r,l⟩:=kO.mp (run w os);have I:(zb_ w os).abs=⟨bf w.params,#[],kN,lJ,os⟩:=by
  show(⟨absHeap (zqj w.params) 11 (bf w.params).life,#[],kN,lJ,os⟩:au)=_
  rw[boot_abs]
 have r:=zeP r;rw[I]at r;obtain⟨L,l2⟩:=uN l;obtain⟨l2,G⟩:=uN l2;have t:topFrom treeTable p w N ⟨bf w.params,#[],kN,lJ,os⟩=some v.abs:=by
  unfold topFrom;dsimp only;rw[zqi,zl9,r];show(match UC p (bf w.params) v.abs with|true=>_|false=>_)=_
  rw[L]
 unfold openEnds;rw[J];show(topFrom treeTable p w N _).map _=_
 rw[t];exact congrArg some (fU l2 G)
theorem zrU{α T1 T2 T3 T4 T5 T6 T7 T8 T9 G C:Type}{o:Option α}{f1:α->T1}{f2:α->T2}{I:α->T3}{f4:α->T4}{J:α->T5}{R:α->T6}{L:α->T7}{f8:α->T8}{N:α->T9}{u:α->G}{l:α->C}{S:T1}{v2:T2}{Y:T3}{v4:T4}{v5:T5}{v6:T6}{U:T7}{Z:T8}{v9:T9}{v:G}{y:C}
  (ha:o.map (fun s=>(f1 s,l s,I s,f8 s,u s,R s))=some (S,y,Y,Z,v,v6)) (hb:o.map f2=some v2) (hc:o.map f4=some v4) (hd:o.map J=some v5) (he:o.map L=some U) (hf:o.map N=some v9) :
  o.map (fun s=>(f1 s,(f2 s,I s,f4 s,J s,R s,L s,f8 s,N s,u s),l s))=some (S,(v2,Y,v4,v5,v6,U,Z,v9,v),y):=by
 cases o with
 | none=>cases hc
 | some x =>
  have a:(f1 x,l x,I x,f8 x,u x,R x)=(S,y,Y,Z,v,v6):=aJ ha;have b:f2 x=v2:=aJ hb;have e:L x=U:=aJ he;have f:N x=v9:=aJ hf;have c:f4 x=v4:=aJ hc;have d:J x=v5:=aJ hd;simp only[ka]at a;show some (f1 x,(f2 x,I x,f4 x,J x,R x,L x,f8 x,N x,u x),l x)=_
  rw[a.1,a.2.1,a.2.2.1,a.2.2.2.1,a.2.2.2.2.1,a.2.2.2.2.2,b,c,d,e,f]
theorem zkp{w:aP}{P:aP->Prop}(row:String)(h0:∀w:aP,P (w.withFollow row false))(l:∀w:aP,P (w.withFollow row true)):P w:=by
 have e:=World.withFollow_self w row;cases hb:w.params.followText row <;> rw[hb]at e
 ·rw[<- e];exact h0 w
 ·rw[<- e];exact l w
end Bd
namespace L2
open PySem PySem.Spec PyProof.Rows
abbrev GX:=List af->Nat->(af->Nat->Prop)->(Str->Nat->Prop)->Prop
def spX(K:qF)(mg:qM)(m:Nat)(g:GX):Sp:=fun y H Q E=>∃(hd:Option ak) (O:ak->Prop) (ts:qD) (n:Nat) (R:qN) (x:Str->Nat->Prop),Reps K hd O H y ts/\Hn hd H n/\(∀a,O a->MutO (H a))/\(∀a,hd=some a->O a)/\ts.length=m/\g ts n R x /\
 (∀t u v l,R t u->ExtE hd H l->Hn hd l u->Rep K hd O l v t->Q v l)/\∀c u l C,x c u->ExtE hd H l->Hn hd l u->mg c=some (.ref C)->E (.ref C) none l
def EX(X:Cx):XK:=fun u _ l=>∃C,u=.ref C/\XW X C l
def OwnE(K:qF)(mg:qM)(x:Str):Prop:=∃C,mg x=some (.ref C)/\OwnX K mg x C
theorem zi8{X:Cx}{x:Str}{np v pos:Pos}(O:OwnE X.K X.mg x)(hc:X.calm=true:=by rfl)(u:Gl X x:=by rfl)(hd:(x == ("__debug__":Str))=false:=by rfl):DS X (.Raise (some (.Call (.Name x np) [] [] v)) none pos) (fun D _ n=>D.xr x n):=by
 obtain⟨C,b,O⟩:=O;exact⟨_,zmU O hc u hd,fun _ _ _ H n D G S h g=>g.xr x n H h S.hnd (fun a o y _ _=>y) C b⟩
section
variable{X:Cx}{e e1:aO}{es:List aO}{x y:Str}{pos p1 p2 p3 p4 p5 p6:Pos}{d:DTE}{t:TA}{ks:List Str}{ds:DTA}{i m n:Nat}
def zqG(X:Cx)(i:Nat)(t:TA):TE:=fun σ H Q=>∃(z:Str) (st:cT) (f:ak) (fd:cD) (k:Nat) (ps:List Str) (l:Sp),σ[i]?=some (some (.ref f))/\Bd.Def X.K X.mg z st ps f fd/\FnOk X.prog X.w X.K X.mg X.base (CX1 X.prog X.w) k f fd ps l/\Room k X.A/\t σ H fun u v=>l u v Q (EX X)
theorem zm2(h:PB X (e::es) t)(Z:X.N[i]?=some y)(hv:Vis X.env.scope y)(hd:(y == ("__debug__":Str))=false:=by rfl) (L:(y == ("__classdict__":Str))=false:=by rfl):PE X (.Call (.Name y p1) (e::es) [] pos) (zqG X i t):=by
 intro pins s σ H Q I hw;obtain⟨z,st,f,fd,k,ps,sp,e1,D,G,hr,hw⟩:=hw;refine eZ (thn (QV (pos:=p1) Z hv hd L pins s σ H (fun v J=>v=.ref f/\J=H) I ⟨_,e1,rfl,rfl⟩) fun u s1 ⟨v,J,R,r,ev,U⟩=>?_)
 subst ev U;cases(show u=.ref f from r)
 refine iF (h₀:=X.base) R.ok.mod.kin D.F.kp (thn (h.pa pos pins s1 σ J _ R hw) fun us s2 ⟨vs,H2,S,Y,q⟩=>⟨S.kIn,?_⟩) h.hd.1 (h.hd.2 pos)
 exact zoe G hr D.b .nil zu3 S Y (by rw[bM];exact q)
end
end L2
namespace Bd
open PySem PySem.W PySem.Calls L2 PyProof.Rows
def FqX(P:aG)(w:aP)(K:qF)(mg:qM)(base:aN)(x:Str)(st:cT)(ps:List Str)(k:Nat)(l:Sp):Prop:=∃f fd,Def K mg x st ps f fd/\FnOk P w K mg base (CX1 P w) k f fd ps l
def FQX(Z:ZZ)(x:Str)(st:cT)(ps:List Str)(k m:Nat)(g:GX):Prop:=FqX Z.P Z.w Z.K Z.mg Z.base x st ps k (spX Z.K Z.mg m g)
theorem okX{Z:ZZ}{x:Str}{st:cT}{ps N:List Str}{k m:Nat}{g:GX}(D:Dq Z.K Z.mg x st ps)(S:Q8 N ps (JE st))(hm:m=ps.length)
  (hb:∀(f:ak) (l:ah) (A:bo) (outer:List Env) (s:au) (H:Hp) (E:XK),Room k (A.deeper (envOfC x (JE st) s.heap.objs.size f l))->∃d,DSs (cxOf (CX1 Z.P Z.w) Z.P Z.w Z.K Z.mg Z.base N x (JE st) f l A outer s H E) (JZ st) d /\
   ∀ts n R L,ts.length=m->g ts n R L->d { nx:=fun _ y=>R .none y,rt:=R,xr:=L } (JY N ts) n):FQX Z x st ps (k+1) m g:=by
 obtain⟨f,fd,D⟩:=D;refine⟨f,fd,D,?_⟩;obtain⟨oc,od,kV,doc,pm,an,l,ct,osl,rfl,lk,Y⟩:=D.F.ex;refine ztb lk Y S (fun vs H Q E h=>?_) fun A outer s H vs Q E hr h=>?_
 ·obtain⟨hd,O,ts,n,R,L,r,_,_,_,hl,_⟩:=h;rw[r.length,hl,hm]
 ·obtain⟨hd,O,ts,n,R,L,r,hn,dom,hx,hl,hg,hq,hE⟩:=h;obtain⟨d,⟨t,pt,ht⟩,hd'⟩:=hb f l A outer s H E hr;obtain⟨S0,no⟩:=zf3 (N:=N) r hn dom hx;refine⟨t,pt,ht ⟨hd,O⟩ _ _ H n _ _ S0 (hd' ts n R L hl hg) ⟨fun ρ' σ' G y h S' J=>?_,fun t y v G h u J rp=>?_,fun _ _ _ _ h=>h.elim,fun _ _ _ _ h=>h.elim,fun c y G h u J C hC=>?_⟩⟩
  ·exact hq .none y .non G h (fun a o U I=>(J a o U I (no a)).1) S'.hnd .non
  ·exact hq t y v G h (fun a o U I=>J a o U I (no a)) u rp
  ·exact zmv (hE c y G C h (fun a o U I=>J a o U I (no a)) u hC)
theorem FQX.nox{Z:ZZ}{x:Str}{st:cT}{ps:List Str}{k m:Nat}{g:GX}(F:FQX Z x st ps k m g):FQ Z x st ps k (spD Z.K m fun ts n R=>g ts n R fun _ _=>False):=by
 obtain⟨f,fd,D,G⟩:=F;have up:∀{l H Q E},spD Z.K m (fun ts n R=>g ts n R fun _ _=>False) l H Q E->spX Z.K Z.mg m g l H Q (fun _ _ _=>False):=fun {l H Q E} h=>by
  obtain⟨hd,O,ts,n,R,r,U,dom,hx,J,C,y⟩:=h;exact⟨hd,O,ts,n,R,_,r,U,dom,hx,J,C,y,fun _ _ _ _ h=>h.elim⟩
 refine⟨f,fd,D,⟨fun l H Q E h=>G.len l H Q _ (up h),fun A outer s H args L l Q E u S I v N=>?_⟩⟩
 refine gp (G.run A outer s H args L l Q (fun _ _ _=>False) u S I v (up N)) fun r s' h=>?_
 cases r with
 | error e=>obtain⟨_,_,_,_,_,_,_,z⟩:=h;exact z.elim
 | ok fl=>cases fl <;> exact h
end Bd
namespace L2
open PySem PySem.Spec PyProof.Rows
section
variable{X:Cx}{e e1:aO}{es:List aO}{x y:Str}{pos p1 p2 p3 p4 p5 p6:Pos}{d:DTE}{ks:List Str}{ds:DTA}{i m n:Nat}
def zq5(i:Nat)(C:List (Str×GX))(d:DTE)(ds:DTA):DTS:=fun D l n=>d l n fun t u=>lStr t fun z=>l[i]?=some none/\∃q∈C,q.1=z/\ds l u fun ts v=>q.2 ts v D.rt D.xr
def Ux(X:Cx)(ks:List Str)(n m:Nat)(l:List (Str×GX)):Prop:=∀q∈l,q.1∈ks/\∃st ps k,k<=n/\Bd.FqX X.prog X.w X.K X.mg X.base q.1 st ps k (spX X.K X.mg m q.2)
theorem Ux.nil{X:Cx}{ks:List Str}{n m:Nat}:Ux X ks n m []:=fun _ h=>nomatch h
theorem Ux.cons{X:Cx}{ks:List Str}{n m k:Nat}{st:cT}{ps:List Str}{x:Str}{g:GX}{u:List (Str×GX)}(F:Bd.FqX X.prog X.w X.K X.mg X.base x st ps k (spX X.K X.mg m g))(r:Ux X ks n m u)(hx:x∈ks:=by decide +kernel)(v:k<=n:=by decide):Ux X ks n m ((x,g)::u):=fun q l=>by
 rcases aw.mp l with rfl|l
 ·exact⟨hx,st,ps,k,v,F⟩
 ·exact r q l
theorem znT(M:Bd.StF X.prog X.w X.K X.mg x ks){tb:List (Str×GX)}(F:Ux X ks n m tb)(hr:Room n X.A)(hN:X.N.Nodup)(h:DE X e d)(I:DB X (e1::es) ds)(hm:(e1::es).length=m:=by rfl)(hi:X.N[i]?=some y:=by rfl)(hl:Loc X.env.scope y:=by first|exact dA rfl|exact oU rfl)
  (hs:swapsWith (.Subscript (.Name x p1) e p2) (some (.Name y p3)) p4.line X.env=pure false:=by rfl) (hf:X.fn y=true\/X.env.scope.names.lookup y=some .local:=by walk_at "F") (hg:Gl X x:=by rfl) (hsl:NoSl e:=by intro _ _;rfl)
  (hd:(x == ("__debug__":Str))=false:=by rfl) (hv:Vis X.env.scope y:=by walk_at "V") (hd2:(y == ("__debug__":Str))=false:=by rfl) (Y:(y == ("__classdict__":Str))=false:=by rfl) :
  DSs X [.Assign [.Name y p3] (.Subscript (.Name x p1) e p2) p4,.Return (some (.Call (.Name y p5) (e1::es) [] p6)) pos] (zq5 i tb d ds):=by
 obtain⟨ta,pa,h⟩:=h;obtain⟨tb',pb,I⟩:=I;refine⟨_,Qr (QA hN hi hl (zoY M hg pa hsl hd) hs hf) (UO (YK (zm2 pb hi hv hd2 Y))),fun C L σ H n0 D D' S hw g=>?_⟩
 refine h C L σ H n0 _ _ S hw fun t n1 v H1 J e1 h1 q1=>?_
 cases t with
 | str z =>
  obtain⟨ho,q,mq,rfl,J⟩:=J;obtain⟨mk,st,ps,k,hk,f,fd,Df,G⟩:=F q mq;refine⟨_,q1.strI,mk,fun U ef=>?_⟩
  have:U=f:=by have:=Df.m.symm.trans ef;cases this;rfl
  subst this;have S1:=(S.on e1 h1).hole (v:=.ref U) ho;have li:i<σ.length:=by
   have:i<L.length:=(aA.mp ho).1;rw[<- S.len];exact this
  refine⟨q.1,st,U,fd,k,ps,_,by rw[cg li],Df,G,hr.mono hk,?_⟩
  refine I C L _ H1 n1 _ _ S1 J fun ts n2 vs H2 r2 e2 h2 q2 l2=>?_
  have S2:=S1.on e2 h2;refine⟨C.hd,Own C L (σ.set i (some (V.ref U))),ts,n2,D'.rt,D'.xr,q2,h2,fun a=>S2.lst,fun a z=>.inl (S.hx a z),l2.trans hm,r2,fun t Z v H' rt e3 h3 q3=>?_,fun c Z H' Cc rx e3 h3 hC=>?_⟩
  ·exact g.rt t Z v H' rt h3 (fun a o I nh _=>(e1.trans (e2.trans e3)) a o I nh) (q3.mono (fun _ _ _ z=>.inl z) fun _ _ _ z=>z)
  ·exact⟨Cc,rfl,g.xr c Z H' rx h3 (fun a o I nh _=>(e1.trans (e2.trans e3)) a o I nh) Cc hC⟩
 | _=>exact J.elim
end
section
variable{i:Nat}{tb:List (Str×GX)}{d:DTE}{ds:DTA}{D:JO}{ρ:En}{n:Nat}
instance zv8:Stp (zq5 i tb d ds D ρ n) (d ρ n fun t n1=>lStr t fun z=>ρ[i]?=some none/\∃q∈tb,q.1=z/\ds ρ n1 fun ts n2=>q.2 ts n2 D.rt D.xr):=⟨fun h=>h⟩
end
theorem isiF{f:af->Bool}{b:Bool}{t:af}{R:af->Prop}(p:Pln t)(e:f t=b)(h:R (.bool b)):lIsi f t R:=⟨p,e▸h⟩
theorem znD{d:af}(h:isTup d=true):∃ts,d=.tuple ts:=by
 cases d with
 | tuple ts=>exact⟨ts,rfl⟩
 | _=>cases h
theorem zu9{l:qD}(h:l.length=2):∃a b,l=[a,b]:=by
 cases l with
 | nil=>cases h
 | cons a t =>
  obtain⟨b,e⟩:=List.length_eq_one_iff.mp (sZ h);exact⟨a,b,e▸rfl⟩
end L2
namespace L2
open PySem PySem.Spec PySem.W PySem.Calls PyProof.Rows
section
variable{X:Cx}{pins:qO}{σ:St}{H H':Hp}{s:au}
theorem Inv.adopt{a:ak}{o:HO}(I:Inv X pins σ H s)(C:H a=none)(h0:X.s₀.heap.get? a=none)(l:a≠X.env.locals)(hc:∀x c,X.env.cells.lookup x=some c->c≠a)(v:∀p∈X.pn++pins,p.1≠a)
  (new:JL X.prog X.w (upd H a o) s.heap a o):Inv X pins σ (upd H a o) s:=by
 have up:∀b u,H b=some u->upd H a o b=some u:=fun b u e=>by rw[Jn (Qs e C)];exact e
 refine⟨I.ok,I.os,I.bare,⟨I.base.keep,I.base.slot,fun b u e n hx=>?_,I.base.there,fun b xs e=>up b _ (I.base.tups b xs e),fun b u xs e=>up b _ (I.base.frzs b u xs e),fun b q e=>up b _ (I.base.tbls b q e)⟩,I.loc,I.cell,?_,fun x c e=>?_,fun p h=>?_,fun b u e=>?_,I.len⟩
 ·rw[Jn fun z=>by rw[z,h0]at e;cases e]
  exact I.base.free b u e n hx
 ·rw[Jn l.symm];exact I.free
 ·rw[Jn (hc x c e)];exact I.freeC x c e
 ·have q:=I.pin p h;exact⟨q.1,by rw[Jn (v p h)];exact q.2.1,q.2.2⟩
 ·by_cases hb:b=a
  ·subst hb;rw[JM]at e;cases e;exact new
  ·rw[Jn hb]at e;exact(I.hok b u e).stay (fun _ _ _ q=>q) (fun d q=>up d _ q) (fun d xs q=>up d _ q) fun d G xs q=>up d _ q
theorem Inv.unbound{i:Nat}{n:Str}{h':aN}{t':Nat}{v:Option ah}{m:qM}(I:Inv X pins σ H s)(hN:X.N.Nodup)(hi:X.N[i]?=some n)(hk:X.env.kindOf n=some .local)(hm:s.heap.Ns X.env.locals m)
  (hn:h'.Ns X.env.locals (fun x=>if x=n then v else m x)) (hs:dJ X.env.locals s.heap h'):Inv X pins (σ.set i none) H { s with heap:=h',toks:=t' }:=by
 have Y:Inv X pins (σ.set i none) H s:=I.weak (by simp) fun j u e=>by
  rw[gz]at e;split at e
  ·split at e <;> cases e
  ·exact e
 obtain⟨m0,N,hl⟩:=id Y.loc;have Z:m0=m:=by
  obtain⟨o,es,ep,e,d,_,r⟩:=N;obtain⟨L,es',ep',U,d',_,r'⟩:=hm;rw[e]at U;cases U;rw[d]at d';cases d'
  funext n
  rw[<- r n,r' n]
 subst Z;have kp:∀b o,b≠X.env.locals->s.heap.get? b=some o->h'.get? b=some o:=fun b o C e=>(hs.2 b C).trans e
 have fr:∀b u,H b=some u->b≠X.env.locals:=fun b u e z=>by rw[z,I.free]at e;cases e
 refine⟨I.ok,I.os,I.bare,⟨fun b o e R C hx=>?_,fun b o e R C hx=>?_,I.base.free,fun b o e hx=>?_,I.base.tups,I.base.frzs,I.base.tbls⟩,⟨_,hn,fun j x u S G e3=>?_⟩,fun x c e=>?_,I.free,I.freeC,fun p hp=>?_,fun b u e=>?_,Y.len⟩
 ·exact kp b o (aD (aB (av e) I.ok.above)) (I.base.keep b o e R C hx)
 ·obtain⟨sl,q⟩:=I.base.slot b o e R C hx;exact⟨sl,kp b _ (aD (aB (av e) I.ok.above)) q⟩
 ·obtain⟨L,q⟩:=I.base.there b o e hx;exact⟨L,kp b L (aD (aB (av e) I.ok.above)) q⟩
 ·obtain⟨w,r,l⟩:=hl j x u S G e3;refine⟨w,r,?_⟩;rcases l with⟨k,e⟩|⟨k,c,e,z⟩
  ·refine .inl ⟨k,?_⟩;have:x≠n:=fun z=>by
    subst z;have:=zfA hN S hi;subst this;rw[cg (by
     have:=(aA.mp S).1;rw[I.len];exact this)]at G
    cases G
   show(if x=n then v else m0 x)=some w
   rw[if_neg this];exact e
  ·obtain⟨o,J,hd⟩:=z;exact .inr ⟨k,c,e,o,kp c o (I.cne x c e) J,hd⟩
 ·obtain⟨v',o,J,hd⟩:=I.cell x c e;exact⟨v',o,kp c o (I.cne x c e) J,hd⟩
 ·have q:=I.pin p hp;exact⟨kp p.1 p.2 q.2.2.1 q.1,q.2⟩
 ·refine(I.hok b u e).stay (fun c w hc q=>kp c w ?_ q) (fun _ q=>q) (fun _ _ q=>q) fun _ _ _ q=>q
  rcases hc with rfl|hc
  ·exact fr _ _ e
  ·exact fr _ _ hc
end
def SubK(l K:qF):Prop:=∀a o,l.lookup a=some o->K.lookup a=some o
theorem SubK.in{l K:qF}{h:aN}(s:SubK l K)(x:K.In h):l.In h:=fun a o e=>x a o (s a o e)
def Cx.marked(X:Cx)(e:ah):Cx:={ X with A:=X.A.mark (some e),calm:=false,xe:=fun _ _=>False }
section
variable{X:Cx}{pins:qO}{σ:St}{H H':Hp}{s:au}{e:ah}
theorem Inv.marked(I:Inv X pins σ H s):Inv (X.marked e) pins σ H s :=
 ⟨⟨I.ok.mod,I.ok.kind,I.ok.glob,I.ok.blt,I.ok.above,I.ok.inj,I.ok.has,I.ok.cab,(fun z=>by cases z),I.ok.frames,I.ok.stk,I.ok.exf,I.ok.bs,I.ok.bsz,I.ok.noex,I.ok.exfs,I.ok.funs,I.ok.frf⟩,I.os,I.bare,I.base,I.loc,I.cell,I.free,I.freeC,I.pin,I.hok,I.len⟩
theorem Inv.unmarked(ok:X.Ok)(I:Inv (X.marked e) pins σ H s):Inv X pins σ H s :=
 ⟨ok,I.os,I.bare,I.base,I.loc,I.cell,I.free,I.freeC,I.pin,I.hok,I.len⟩
end
section
variable{X:Cx}{k i ie:Nat}{f Dc:ak}{fd:cD}{ps:List Str}{sp:Sp}{fn T en x:Str}{st:cT}{e:aO}{es:List aO}{t:TA}{p p1 p2 p3 p4 p5 p6 pos:Pos}
def tTry(X:Cx)(i ie:Nat)(Dc:ak)(sp:Sp)(t:TA):TS:=fun D σ H=>t σ H fun y G=>sp y G (fun _ u=>D.nx σ u)
 fun I _ u=>∃C,I=.ref C/\(∃v,SubK v X.K/\exmOne v (.ref C) (.ref Dc)=some true)/\∀l,u l=none->D.nx (((σ.set ie (some (.ref l))).set i (some (.ref l))).set ie none) (upd u l (EXO l C))
theorem zrg(D:Bd.Def X.K X.mg fn st ps f fd)(F:FnOk X.prog X.w X.K X.mg X.base (CX1 X.prog X.w) k f fd ps sp)(hr:Room k X.A)(ha:PB X.nox (e::es) t)(hc:X.calm=true)(hst:X.stack=X.env::X.outer)(hfr:X.env.frame=some X.env.locals)
  (hT:X.mg T=some (.ref Dc)) (hN:X.N.Nodup) (hi:X.N[i]?=some x) (L:X.N[ie]?=some en) (hne:i≠ie) (hx:Loc X.env.scope x) (Z:X.env.kindOf en=some .local) (Y:X.env.scope.names.lookup en=some .local) (hx0:X.ex=[]) (hg:Gl X fn) (hgT:Gl X T)
  (hdb:(fn == ("__debug__":Str))=false) (hdT:(T == ("__debug__":Str))=false) (hde:(en == ("__debug__":Str))=false) (hce:(en == ("__classdict__":Str))=false)
  (hsw:swapsWith (.Call (.Name fn p1) (e::es) [] p2) none p3.line X.env=pure false) (Im:swapsWith (.Name en p6) (some (.Name x p5)) p4.line X.env=pure false) (hf:X.fn x=true\/X.env.scope.names.lookup x=some .local) (hfe:X.fn en=true\/X.env.scope.names.lookup en=some .local) :
  PS X (.Try [.Expr (.Call (.Name fn p1) (e::es) [] p2) p3] [.ExceptHandler (some (.Name T p)) (some en) [.Assign [.Name x p5] (.Name en p6) p4] pos] [] [] pos) (tTry X i ie Dc sp t):=by
 intro pins s σ H De I h;have hA:X.A.frames=some (X.env::X.outer):=by rw[<- hst];exact I.ok.frames
 refine wpAny_Try_except ?_;refine kh (oo ?_ I.quiet hsw);refine eZ (UM I hg D.m ?_ hdb);refine iF (h₀:=X.base) I.ok.mod.kin D.F.kp ?_ ha.hd.1 (ha.hd.2 p2);refine cE (ha.pa p2 pins s σ H _ (I.wish _) h) (fun us s1 hu=>?_) fun _ _ z=>bY z
 obtain⟨vs,H1,U,r,q⟩:=hu;have U:=U.unwish;refine⟨U.kIn,?_⟩;have hl:us.length=ps.length:=by rw[<- r.length];exact F.len _ _ _ _ q
 refine lZ (gp (F.run X.A X.stack s1 H1 ⟨us,[]⟩ us vs _ _ hr U.env0 (by have:=D.b s1 us U.kIn (by rw[bM];exact hl);rwa [bM]at this) r q) fun rs s2 hq=>?_)
 cases rs with
 | ok fl =>
  cases fl with
  | ret u =>
   obtain⟨v,H2,J,_,hn⟩:=U.after hq;exact e8 (e8 ⟨σ,H2,J,hn⟩)
  | next=>exact bY hq
  | brk=>exact bY hq
  | cont=>exact bY hq
 | error ev =>
  obtain⟨G,C,H2,rfl,os,bare,⟨B,a0,fl,ne,nn,st'⟩,C',eC,⟨K0,sK,hex⟩,hnx⟩:=hq;cases eC;have hnx:=hnx G ne;rw[hst]at fl;refine wpAny_looks_onW hA hfr fl fun h3 held up3=>?_
  refine wpAny_landsW held fun h4 fl4 up4=>?_
  have inv:∀R,mQ B (X.env::X.outer) G (.ref C) a0 R->s2.heap.UpToSlots R->Inv X pins σ H2 { s2 with heap:=R }:=fun R f5 u5=>by
   obtain⟨un,hk⟩:=st' R f5.1 u5;obtain⟨hh,g,d,tk,os'⟩:=s2;obtain rfl:os'=s1.os:=os;show Inv X pins σ H2 { s1 with heap:=R,gens:=g,drawn:=d,toks:=tk }
   exact U.call (h':=R) (g':=g) (d':=d) (t':=tk) (ch:=[]) un hk bare (fun b z=>absurd z (by simp))
  have J4:=inv h4 fl4 (up3.trans up4);have LT:∀R,mQ B (X.env::X.outer) G (.ref C) a0 R->se (model X.prog X.w) R (typeOf (.ref G)) (.ref C):=fun R f5=>by
   obtain⟨ob,ho,hc⟩:=f5.there;exact hc▸(y7 ho).andThen .now
  refine wpAny_handleBy_cons (codeAny_handlers_test ?_) (by intro z;cases z)
  refine fA J4.ok.kind hgT (kg (by rw[J4.ok.glob];exact J4.mod.glob.keeps J4.bk) hT ?_) hdT
  refine(exm_one (sK.in J4.kIn) (LT h4 fl4) hex).here ?_;refine codeAny_handlers_suite_as (lands_againW fl4 fun R fl5 up5=>?_)
  have J5:=inv R fl5 ((up3.trans up4).trans up5);obtain⟨_,_,_,oe,ws,T',oT,ts,he,⟨hcl,_⟩,hdt,_⟩:=fl5;have nL:G≠X.env.locals:=fun z=>by
   obtain⟨m,⟨o,_,_,q,_⟩,_⟩:=U.loc;rw[<- z,nn]at q;cases q
  have nC:∀y c,X.env.cells.lookup y=some c->c≠G:=fun y c hc z=>by
   obtain⟨v,o,q,_⟩:=U.cell y c hc;rw[z,nn]at q;cases q
  have n0:X.s₀.heap.get? G=none:=by
   cases q:X.s₀.heap.get? G with
   | none=>rfl
   | some o =>
    obtain⟨o',z⟩:=U.base.there G o q (by rw[hx0];simp)
    rw[nn]at z;cases z
  have nP:∀p∈X.pn++pins,p.1≠G:=fun p hp z=>by
   have q:=(U.pin p hp).1;rw[z,nn]at q;cases q
  have J6:=J5.adopt (o:=EXO G C) ne n0 nL nC nP ⟨⟨oe,he,hcl,ws,hdt⟩,⟨oe,he⟩,fun h1 h2 z k=>by
   obtain⟨o,z1,z2⟩:=z;exact⟨o,k o z1,z2⟩⟩
  refine Yh (v:=.ref G) J6 hN L (.inl Y) rfl (fun s6 J7=>?_) hfe
  refine cE (UO (show PS (X.marked (.ref G)) (.Assign [.Name x p5] (.Name en p6) p4) (tAsg (tVar ie) (Yv i)) from QA hN hi hx (QV L (.inl Y) hde hce) Im hf) pins s6 (σ.set ie (some (.ref G))) (upd H2 G (EXO G C))
   { nx:=fun σ' H'=>σ'=(σ.set ie (some (.ref G))).set i (some (.ref G))/\H'=upd H2 G (EXO G C),rt:=fun _ _=>False } J7.marked ⟨.ref G,?_,rfl,rfl⟩) (fun fl s7 hs=>?_) fun _ _ z=>bY z
  ·rw[cg];have:=(aA.mp L).1;rw[I.len];exact this
  cases fl with
  | ret u=>obtain⟨_,_,_,_,_,z⟩:=hs;exact z.elim
  | brk=>obtain⟨_,_,_,z⟩:=hs;exact z.elim
  | cont=>obtain⟨_,_,_,z⟩:=hs;exact z.elim
  | next =>
  obtain⟨σ',H',J8,rfl,rfl⟩:=hs;have J8:=J8.unmarked I.ok;refine aa (kY (Yh (v:=.non) J8 hN L (.inl Y) rfl (fun s8 J9=>?_) hfe))
  obtain⟨m,hm,hlo⟩:=id J9.loc;have li:ie<((σ.set ie (some (V.ref G))).set i (some (V.ref G))).length:=by
   have:=(aA.mp L).1;rw[fc,fc,I.len];exact this
  have some':(m en).isSome=true:=by
   obtain⟨u,ru,lu⟩:=hlo ie en .non L (by rw[cg li]) (.inl Y)
   rcases lu with⟨_,z⟩|⟨z,_⟩
   ·rw[z];rfl
   ·rw[Z]at z;rcases z with z|z <;> cases z
  have hp:(X.env.scope.kind == .class||(X.env.scope.kind == .module&&X.env.locals != X.env.globals))=false:=by rw[I.ok.kind];rfl
  unfold unbindBehindTheSuite;refine g6 ?_;unfold unbindName;refine aa (wpAny_point (aa ?_));unfold deleteName;simp only[Z,hp];rw[if_neg (by decide)]
  refine aa (wpAny_nsDel_keeps hm fun h₂ v hn₂ hs₂=>?_)
  simp only[some',fj,aH,if_false];refine aj (wpAny_point ?_);have J10:=J9.unbound (t':=s8.toks) hN L Z hm hn₂ hs₂;rw[List.set_set]at J10;exact⟨_,_,J10,hnx⟩
end
def zjm(K:qF)(mg:qM)(cs:List Str)(T:Str):Prop:=∃u,mg T=some (.ref u)/\∀c∈cs,∀C,mg c=some (.ref C)->∃l,SubK l K/\exmOne l (.ref C) (.ref u)=some true
def sTry(mg:qM)(cs:List Str)(i ie:Nat)(g:GX)(ds:DTA):DTS:=fun D u n=>u[ie]?=some none/\ds u n fun ts y=>g ts y (fun _ x=>D.nx u x) fun c x=>c∈cs/\∀C,mg c=some (.ref C)->D.nx (u.set i (some (.val (EXC C)))) x
section
variable{K:qF}{C:Ctx}{ρ:En}{σ:St}{H:Hp}{n:Nat}
theorem zkL{i:Nat}(hi:ρ[i]?=some none):Own C ρ (σ.set i none) a↔Own C ρ σ a:=by
 have key:OwnS ρ (σ.set i none) a↔OwnS ρ σ a:=by
  constructor <;> rintro⟨j,c,m,l,u⟩ <;> refine⟨j,c,m,l,?_⟩ <;>
  ·have ne:i≠j:=fun z=>by subst z;rw[hi]at l;cases l
   first|(rw[aM ne]at u;exact u)|(rw[aM ne];exact u)
 exact or_congr aQ key
theorem Stt.hole0{i:Nat}(hi:ρ[i]?=some none)(S:Stt K C ρ σ H n):Stt K C ρ (σ.set i none) H n:=by
 have l:Own C ρ (σ.set i none)=Own C ρ σ:=funext fun a=>propext (zkL hi)
 have ne:∀{j:Nat} {c:Cell},ρ[j]?=some (some c)->(σ.set i none)[j]?=σ[j]?:=fun {j c} h=>aM fun z=>by subst z;rw[hi]at h;cases h
 refine⟨by rw[fc];exact S.len,fun j d h=>?_,fun j d h=>?_,fun j d h=>?_,fun j d h=>?_,fun j d h=>?_,fun j k c e a I G u v y x=>?_,S.hnd,S.ext,S.hx⟩
 ·rw[l,ne h];exact S.val j d h
 ·rw[l,ne h];exact S.own j d h
 ·rw[l,ne h];exact S.dct j d h
 ·rw[l,ne h];exact S.rdo j d h
 ·rw[l,ne h];exact S.dtt j d h
 ·rw[ne u]at y;rw[ne v]at x;exact S.dif j k c e a I G u v y x
end
section
variable{X:Cx}{k n m i ie:Nat}{ps:List Str}{fn T en x:Str}{st:cT}{e:aO}{es:List aO}{ds:DTA}{p p1 p2 p3 p4 p5 p6 pos:Pos}{g:GX}{cs:List Str}
theorem ztg(i ie:Nat)(F:Bd.FqX X.prog X.w X.K X.mg X.base fn st ps k (spX X.K X.mg m g))(M:zjm X.K X.mg cs T)(hr:Room n X.A)(hN:X.N.Nodup)(h:DB X.nox (e::es) ds)(hk:k<=n:=by decide)(hm:(e::es).length=m:=by rfl)(hc:X.calm=true:=by rfl)(hst:X.stack=X.env::X.outer:=by rfl)(hfr:X.env.frame=some X.env.locals:=by rfl)
  (hi:X.N[i]?=some x:=by rfl) (hie:X.N[ie]?=some en:=by rfl) (Z:i≠ie:=by decide) (hx:Loc X.env.scope x:=by first|exact dA rfl|exact oU rfl) (hen:X.env.kindOf en=some .local:=by rfl) (hel:X.env.scope.names.lookup en=some .local:=by rfl) (hx0:X.ex=[]:=by rfl) (hg:Gl X fn:=by rfl) (hgT:Gl X T:=by rfl)
  (hdb:(fn == ("__debug__":Str))=false:=by rfl) (hdT:(T == ("__debug__":Str))=false:=by rfl) (hde:(en == ("__debug__":Str))=false:=by rfl) (hce:(en == ("__classdict__":Str))=false:=by rfl)
  (hsw:swapsWith (.Call (.Name fn p1) (e::es) [] p2) none p3.line X.env=pure false:=by rfl) (Im:swapsWith (.Name en p6) (some (.Name x p5)) p4.line X.env=pure false:=by rfl) (hf:X.fn x=true\/X.env.scope.names.lookup x=some .local:=by walk_at "F") (hfe:X.fn en=true\/X.env.scope.names.lookup en=some .local:=by walk_at "F") :
  DS X (.Try [.Expr (.Call (.Name fn p1) (e::es) [] p2) p3] [.ExceptHandler (some (.Name T p)) (some en) [.Assign [.Name x p5] (.Name en p6) p4] pos] [] [] pos) (sTry X.mg cs i ie g ds):=by
 obtain⟨f,fd,D,G⟩:=F;obtain⟨Dc,hT,hM⟩:=M;obtain⟨ta,pa,h⟩:=h;refine⟨_,zrg D G (hr.mono hk) pa hc hst hfr hT hN hi hie Z hx hen hel hx0 hg hgT hdb hdT hde hce hsw Im hf hfe,fun C L σ H n De D' S hw gd=>?_⟩
 obtain⟨ho,hw⟩:=hw;refine h C L σ H n _ _ S hw fun ts n1 vs H1 r1 e1 h1 q1 l1=>?_
 have S1:=S.on e1 h1;refine⟨C.hd,Own C L σ,ts,n1,_,_,q1,h1,fun a=>S1.lst,fun a z=>.inl (S.hx a z),l1.trans hm,r1,fun t n' v H' rt U h2 q2=>gd.nx L σ H' n' rt (S1.on U h2) ((e1.trans U).keep),fun c n' H' J rx U h2 hC=>⟨J,rfl,hM c rx.1 J hC,fun R u=>?_⟩⟩
 have S2:=S1.on U h2;have e3:ExtE C.hd H (upd H' R (EXO R J)):=(e1.trans U).trans (ExtE.new u);have S3:=S2.on (ExtE.new (o:=EXO R J) u) (h2.same (JS u));have S4:=S3.hole (v:=.ref R) ho;have li:ie<σ.length:=by
  have:ie<L.length:=(aA.mp ho).1;rw[<- S.len];exact this
 have S5:=S4.put (i:=i) (v:=.ref R) (t:=EXC J) (.exc JM fun z=>S2.free u ((ziw ho).mp z))
 have Y:(L.set i (some (Cell.val (EXC J))))[ie]?=some none:=by rw[aM Z];exact ho
 refine gd.nx _ _ _ n' (rx.2 J hC) (S5.hole0 Y) fun a o ha nh no=>⟨e3 a o ha nh,fun⟨j,c',mc,I,z2⟩=>no ⟨j,c',mc,?_,?_⟩⟩
 all_goals
  have nj:ie≠j:=fun z=>by subst z;rw[Y]at I;cases I
  have ni:i≠j:=fun z=>by
   subst z
   by_cases hl:i<L.length
   ·rw[cg hl]at I;cases I;cases mc
   ·rw[cH (by rw[fc];omega)]at I;cases I
 ·rw[aM ni]at I;exact I
 ·rw[aM nj,aM ni,aM nj]at z2;exact z2
end
end L2
namespace L2
open PySem PySem.Spec PySem.W PySem.Calls PyProof.Rows Builtin Builtin.ObjectAttr Builtin.Getset_descriptor
def ExAt(x C:ak)(h:aN):Prop:=∃o,h.get? x=some o/\o.cls=.ref C
def clsB(K:qF)(D:ak):Bool:=(clsIn K D).isSome&&(findIn K (.ref D) "__getattribute__" == some (some (.builtin "BaseException.__getattribute__")))&&(findIn K (.ref D) "__getattr__" == some none)&&(findIn K (.ref D) "__class__" == some (some (.builtin "object.__class__")))
 && (specialIn K (.builtin "object.__class__") "__get__" == some (some (.builtin "getset_descriptor.__get__")))&&(takesIn K (.builtin "object.__class__") == some true)&&(mroIn K D (.type "object") == some true)&&(mroIn K D (.type "BaseException") == some true)
section
variable{K:qF}{x D:ak}
theorem ExAt.type{M:rM}{h:aN}(I:ExAt x D h):se M h (typeOf (.ref x)) (.ref D):=by
 obtain⟨o,l,hc⟩:=I;exact hc▸(y7 l).andThen .now
theorem zjS{prog:aG}{w:aP}{A:bo}{s:au}{R:lY->au->Prop}{v:ah}(X:K.In s.heap)(I:ExAt x D s.heap)(C:mroIn K D (.type "object")=some true)
  (h:R (.ok (.ret (.ref D))) s):codeAny (model prog w) A (.call (.builtin "getset_descriptor.__get__") ⟨[.builtin "object.__class__",.ref x,v],[]⟩) R s:=by
 obtain⟨G,g,L,t,os⟩:=s;have N:se (model prog w) G (typeOf (.ref x)) (.ref D):=I.type;have J:=looks_mroIn (M:=model prog w) X C;refine lG KF.slot_gs.plain KF.entry_gs (KF.slot_gs.check _ _ _ _ _ _ _ _ KF.type_class (KF.args_gs _ _ _) ?_);unfold fH.«getset_descriptor.__get__» descrGet;rw[dga_obj];refine aa (aj ?_);unfold descrGetter descrCheckInstance descrNameAndClass isInstance
 simp only[KF.owner_class]
 repeat lk
 refine⟨ma _ (by decide +kernel),fe KF.entry_class ?_⟩
 unfold fH.«object.__class__» shownTypeOf
 repeat lk
 exact h
theorem zjZ{M:rM}{A:bo}{E:qV}{Q:Unit->au->Prop}{s:au}{m:Sem Unit}(e:m=pure ())(h:Q () s):wpAny M A m Q E s:=by rw[e];exact aj h
theorem ziP(hB:clsB K D=true):KitX K (.ref x) (.ref D) (ExAt x D):=by
 unfold clsB at hB;simp only[aF,beq_iff_eq]at hB;obtain⟨⟨⟨⟨⟨⟨⟨Z,Y⟩,R⟩,hca⟩,hsp⟩,htk⟩,hm⟩,U⟩:=hB;obtain⟨cdD,v⟩:=i8.mp Z;refine⟨fun M h _ I=>I.type,fun M h X _=>?_,fun h tp dd its n sl X htp=>?_,fun {prog w A E Q s} X I k=>?_⟩
 ·unfold clsIn at v;split at v
  ·rename_i c' d' N J L;intro A' Q' E' s' k q;unfold isType loadHead;exact aa (wpAny_loadPart (k _ _ (X _ _ L)) (aj q))
  ·cases v
 ·refine dG.mpr fun q=>?_
  have e:D=tp:=Value.ref.inj (beq_iff_eq.mp q);subst e;unfold clsIn at v;split at v
  ·rename_i c' d' N J L;have z:=(X _ _ L).symm.trans htp;cases z
  ·cases v
 ·obtain⟨C,g,d,t,os⟩:=s;have S:se (model prog w) C (typeOf (.ref x)) (.ref D):=I.type;have L1:=m5 (M:=model prog w) X Y;have Lf:se (model prog w) C (find (.ref x) (.ref D) "__class__") (.bind (.builtin "getset_descriptor.__get__") (.builtin "object.__class__")):=by
   refine(m5 X hca).andThen ((show se (model prog w) C (getOf (some (.builtin "object.__class__"))) (some (.builtin "getset_descriptor.__get__")) from looks_specialIn X hsp).andThen ?_)
   exact(show se (model prog w) C (dataDescriptor? (some (.builtin "object.__class__")) (some (.builtin "getset_descriptor.__get__"))) (some (.builtin "getset_descriptor.__get__",.builtin "object.__class__")) from(looks_takesIn X htk).andThen .now).andThen (Looks.tag .now)
  have Lh:=m5 (M:=model prog w) X R;have f3:=iO.ga.bind (.ref x);have L2:=looks_mroIn (M:=model prog w) X U;have hk:builtinKind "BaseException.__getattribute__" = some .slot:=by decide +kernel
  have Io:splitId "BaseException.__getattribute__" = some ("BaseException","__getattribute__"):=by decide +kernel
  unfold getAttr? getAttrBy? getAttrBy;refine aa (wpAny_mkText (aa (gW (bz (aa (S.at (aa (L1.at ?_))))))));show wpAny _ _ (if (onTheHeap (bT D)&&kc "BaseException.__getattribute__" == kc "object.__getattribute__")=true then _ else getAttrByItsOwn _ _ _ _ _ _) _ _ _
  have G:(kc "BaseException.__getattribute__" == kc "object.__getattribute__")=false:=by decide +kernel
  rw[if_neg (by rw[G,gH];decide)]
  unfold getAttrByItsOwn;refine aa (show wpAny _ _ (typeLookup (.ref D) "__getattr__") _ _ _ from Lh.at ?_)
  unfold callGetattribute boundAndCalled;rw[if_neg (by decide)]
  refine aa (gW (bz (aa ?_)));rw[f3];refine aj ?_;refine lZ (lG iO.ga.plain PySem.F.entry_bexc_ga ?_);have ha:=PySem.F.args_bexc_ga (.ref x) (.str "__class__" t);simp only[checkBuiltinCall,hk,Io,dQ,eD];unfold isInstance;refine aa (aa (S.at (L2.at ?_)));rw[if_neg (by decide)]
  refine zjZ ha ?_;unfold fH.«object.__getattribute__»;refine aa (aj (aa (aj (aa (S.at (aa (Lf.at ?_)))))));show wpAny _ _ (holding [.builtin "object.__class__"] (call (.builtin "getset_descriptor.__get__") [.builtin "object.__class__",.ref x,.ref D]) >>= ret) _ _ _
  refine aa (bz (lZ (zjS (s:=⟨C,g,d,t+1,os⟩) X I hm ?_)));refine aj ?_;exact handed_on rfl (aj k)
end
end L2
namespace L2
open PySem PySem.Spec PySem.W PySem.Calls PyProof.Rows
def excT(l:qF)(mg:qM)(cs ys:List Str)(T:Str):Bool:=cs.all fun c=>match mg c,mg T with
 | some (.ref C),some (.ref D)=>clsB l C&&(exmOne l (.ref C) (.ref D) == some true)&&(kitOne l (.ref C) (.type "ValueError") == some true)&&ys.all fun y=>match mg y with
  | some (.ref E)=>kitOne l (.ref C) (.ref E) == some (decide (c=y))
  | _=>false
 | _,_=>false
def QO(K:qF)(mg:qM)(cs ys:List Str)(T:Str):Prop:=∃l,SubK l K/\((∃D,mg T=some (.ref D))/\∀y∈ys,∃E,mg y=some (.ref E))/\excT l mg cs ys T=true
section
variable{K:qF}{mg:qM}{cs ys:List Str}{T:Str}
theorem QO.at(M:QO K mg cs ys T):∃l,SubK l K/\∀c∈cs,∀C,mg c=some (.ref C)->clsB l C=true/\(∀D,mg T=some (.ref D)->exmOne l (.ref C) (.ref D)=some true)/\kitOne l (.ref C) (.type "ValueError")=some true/\∀y∈ys,∃E,mg y=some (.ref E)/\kitOne l (.ref C) (.ref E)=some (decide (c=y)):=by
 obtain⟨l,sK,⟨⟨D,v⟩,_⟩,e⟩:=M;refine⟨l,sK,fun c hc C x=>?_⟩
 have e:=bc.mp e c hc;rw[x,v]at e;simp only[aF,beq_iff_eq]at e;obtain⟨⟨⟨J,N⟩,G⟩,u⟩:=e;refine⟨J,fun R h'=>by rw[v]at h';cases h';exact N,G,fun y L=>?_⟩
 have u:=bc.mp u y L;split at u
 ·rename_i E I;exact⟨E,I,beq_iff_eq.mp u⟩
 ·cases u
theorem QO.under(M:QO K mg cs ys T):zjm K mg cs T:=by
 obtain⟨u,sK,h⟩:=M.at;obtain⟨_,_,⟨⟨D,l⟩,_⟩,_⟩:=M;exact⟨D,l,fun c hc C v=>⟨u,sK,(h c hc C v).2.1 D l⟩⟩
end
theorem Rep.excI{K:qF}{hd:Option ak}{O:ak->Prop}{H:Hp}{v:V}{C:ak}(h:Rep K hd O H v (EXC C)):∃a,v=.ref a/\H a=some (EXO a C):=by
 generalize e:EXC C=d at h;cases h with
 | exc h _ =>
  simp only[EXC,iZ,fX,ka,PyData.int.injEq,true_and,and_true]at e;have e:=Int.ofNat.inj e;subst e;exact⟨_,rfl,h⟩
 | dct _ _=>cases e
 | dcK _ _ _ u=>cases e;exact(dict_noK u).elim
 | dcT _ _ _ u=>cases e;exact(dict_noT u).elim
 | hand _=>simp[HAND,EXC]at e
 | scr _ _=>simp[SCR,EXC]at e
 | scrS _=>simp[SCR,EXC]at e
 | _=>cases e
section
variable{X:Cx}
theorem ztf{pins:qO}{σ:St}{H:Hp}{s:au}{a C:ak}(I:Inv X pins σ H s)(h:H a=some (EXO a C)):ExAt a C s.heap:=by
 obtain⟨⟨o,l,hc,_⟩,_⟩:=I.hok a _ h;exact⟨o,l,hc⟩
theorem zjh:JN X (.builtin "isinstance") (fun xs H Q=>∃a C c w b v,xs=[.ref a,w]/\(w=.ty "ValueError" /\ c=bh "ValueError" \/ ∃D,w=.ref D/\c=bT D)/\H a=some (EXO a C)/\SubK v X.K/\clsB v C=true/\kitOne v (.ref C) c=some b/\Q (.bl b) H):=by
 intro pins s σ H xs U Q I r h;obtain⟨a,C,c,w,b,v,rfl,hw,J,sK,S,e,q⟩:=h;cases r with
 | cons R G =>
  cases G with
  | cons x N =>
   cases N;cases R;have key:∀u,u=c->wpAny (model X.prog X.w) X.A (call (.builtin "isinstance") [.ref a,u]) (EP X pins σ Q) X.xe s:=fun u L=>by
    subst L;exact kia_one (ziP S) (sK.in I.kIn) (ztf I J) e (fun z=>by cases z) fun tk=>⟨.bl b,H,I.tok tk,rfl,q⟩
   rcases hw with⟨rfl,rfl⟩|⟨D,rfl,rfl⟩ <;> exact key _ x
theorem zl2:JN X (.builtin "isinstance") (fun xs H Q=>∃a C p N L v x y,xs=[.ref a,.ref p]/\H p=some (.tup [.ref N,.ref L])/\H a=some (EXO a C)/\SubK y X.K/\clsB y C=true/\kitOne y (.ref C) (.ref N)=some v/\kitOne y (.ref C) (.ref L)=some x/\Q (.bl (v||x)) H):=by
 intro pins s σ H xs us Q I r h;obtain⟨a,C,p,N,L,v,x,y,rfl,hp,Z,sK,hB,e1,e2,q⟩:=h;cases r with
 | cons r1 Y =>
  cases Y with
  | cons R r4 =>
   cases r4;cases r1;cases R;obtain⟨_,S,G,⟨oc,od,dt,sl⟩,ho,hc,⟨n,hd⟩,J⟩:=I.hok p _ hp;cases G with
   | cons U G =>
    cases G with
    | cons v2 G =>
     cases G;cases U;cases v2;dsimp only at hc hd J;subst hc hd J;have e:kitAny y (.ref C) [.ref N,.ref L]=some (v||x):=by
      unfold kitAny;rw[e1];cases v with
      | true=>rfl
      | false =>
       dsimp only;unfold kitAny;rw[e2];cases x <;> rfl
     exact kia_tup (ziP hB) (sK.in I.kIn) (ztf I Z) ho e (fun z=>by cases z) fun tk=>⟨.bl (v||x),H,I.tok tk,rfl,q⟩
end
def lIsE(mg:qM)(cs:List Str)(f:Str->Bool)(t:af)(R:af->Prop):Prop:=∃c C,c∈cs/\mg c=some (.ref C)/\t=EXC C/\R (.bool (f c))
def dIsE(mg:qM)(cs:List Str)(f:Str->Bool)(d:DTE):DTE:=fun u n R=>d u n fun t l=>lIsE mg cs f t fun z=>R z l
theorem isE{mg:qM}{cs:List Str}{f:Str->Bool}{c:Str}{C:ak}{R:af->Prop}(hc:c∈cs)(u:mg c=some (.ref C))(h:R (.bool (f c))):lIsE mg cs f (EXC C) R:=⟨c,C,hc,u,rfl,h⟩
section
variable{X:Cx}{e:aO}{d:DTE}{y y1 y2 T:Str}{cs ys:List Str}{p p2 p3 p4 pos:Pos}{k:Nat}
theorem zhC{D:ak}(l:X.mg y=some (.ref D))(u:Gl X y)(hd:(y == ("__debug__":Str))=false):PE X (.Name y p) (tC (.ref D)):=fun pins s σ H Q I h=>UM I u l ⟨.ref D,H,I,rfl,h⟩ hd
theorem zlI(M:QO X.K X.mg cs ys T)(L:y∈ys)(hm:X.mg "isinstance" = none) (h:DE X e d) (hs:starEach (e::[.Name y p2]) X.env=(false,eval e X.env)::starEach [.Name y p2] X.env) (hg:Gl X "isinstance":=by rfl) (x:Gl X y:=by rfl) (hd:(y == ("__debug__":Str))=false:=by rfl) :
  DE X (.Call (.Name "isinstance" p) [e,.Name y p2] [] pos) (dIsE X.mg cs (fun c=>decide (c=y)) d):=by
 obtain⟨ta,pa,h⟩:=h;obtain⟨K0,sK,hK⟩:=M.at;obtain⟨_,_,⟨_,Z⟩,_⟩:=M;obtain⟨D,J⟩:=Z y L;refine⟨_,Uf zjh hm Vi (J1 pa (zhD (zhC J x hd) Qz) hs) hg,fun C ρ σ H n Q R S hd hq=>?_⟩
 refine h C ρ σ H n _ _ S hd fun t n1 v Y G e1 h1 q1=>?_
 obtain⟨c,I,hc,U,rfl,G⟩:=G;obtain⟨a,rfl,ha⟩:=q1.excI;obtain⟨k1,k2,k3,k4⟩:=hK c hc I U;obtain⟨E,u,k5⟩:=k4 y L;rw[J]at u;cases u;exact⟨a,I,.ref D,.ref D,_,K0,rfl,.inr ⟨D,rfl,rfl⟩,ha,sK,k1,k5,hq _ n1 _ Y G e1 h1 (.bl _)⟩
theorem zn5:bootBuiltins "ValueError" = some (.type "ValueError"):=by decide +kernel
theorem ztp(M:QO X.K X.mg cs ys T)(Z:X.mg "isinstance" = none) (U:X.mg "ValueError" = none) (h:DE X e d) (hs:starEach (e::[.Name "ValueError" p2]) X.env=(false,eval e X.env)::starEach [.Name "ValueError" p2] X.env) (hg:Gl X "isinstance":=by rfl) (u:Gl X "ValueError":=by rfl) :
  DE X (.Call (.Name "isinstance" p) [e,.Name "ValueError" p2] [] pos) (dIsE X.mg cs (fun _=>true) d):=by
 obtain⟨ta,pa,h⟩:=h;obtain⟨K0,sK,hK⟩:=M.at;refine⟨_,Uf zjh Z Vi (J1 pa (zhD (Bd.zrp U zn5 u) Qz) hs) hg,fun C ρ σ H n Q R S hd Y=>?_⟩
 refine h C ρ σ H n _ _ S hd fun t n1 v J x e1 L q1=>?_
 obtain⟨c,G,hc,I,rfl,x⟩:=x;obtain⟨a,rfl,ha⟩:=q1.excI;obtain⟨k1,k2,k3,k4⟩:=hK c hc G I;exact⟨a,G,.type "ValueError",.ty "ValueError",_,K0,rfl,.inl ⟨rfl,rfl⟩,ha,sK,k1,k3,Y _ n1 _ J x e1 L (.bl _)⟩
theorem zp7(M:QO X.K X.mg cs ys T)(J:y1∈ys)(G:y2∈ys)(hm:X.mg "isinstance" = none) (h:DE X e d) (hs:starEach (e::[.Tuple [.Name y1 p2,.Name y2 p3] k p4]) X.env=(false,eval e X.env)::starEach [.Tuple [.Name y1 p2,.Name y2 p3] k p4] X.env)
  (hs2:starEach [.Tuple [.Name y1 p2,.Name y2 p3] k p4] X.env=[(false,eval (.Tuple [.Name y1 p2,.Name y2 p3] k p4) X.env)]:=by rfl) (hs3:starEach [.Name y1 p2,.Name y2 p3] X.env=(false,eval (.Name y1 p2) X.env)::starEach [.Name y2 p3] X.env:=by rfl) (hs4:starEach [.Name y2 p3] X.env=(false,eval (.Name y2 p3) X.env)::starEach [] X.env:=by rfl)
  (hg:Gl X "isinstance":=by rfl) (hg1:Gl X y1:=by rfl) (Z:Gl X y2:=by rfl) (hd1:(y1 == ("__debug__":Str))=false:=by rfl) (hd2:(y2 == ("__debug__":Str))=false:=by rfl) :
  DE X (.Call (.Name "isinstance" p) [e,.Tuple [.Name y1 p2,.Name y2 p3] k p4] [] pos) (dIsE X.mg cs (fun c=>decide (c=y1)||decide (c=y2)) d):=by
 obtain⟨ta,pa,h⟩:=h;obtain⟨K0,sK,hK⟩:=M.at;obtain⟨_,_,⟨_,hE⟩,_⟩:=M;obtain⟨D1,L⟩:=hE y1 J;obtain⟨D2,Y⟩:=hE y2 G;refine⟨_,Uf zl2 hm Vi (J1 pa (J1 (zoj (QH (zhC L hg1 hd1) (QH (zhC Y Z hd2) Uo hs4) hs3)) Qz hs2) hs) hg,fun C ρ σ H n Q R S hd hq=>?_⟩
 refine h C ρ σ H n _ _ S hd fun t n1 v H1 r1 e1 h1 q1=>?_
 obtain⟨c,Cc,hc,hC,rfl,r1⟩:=r1;obtain⟨a,rfl,ha⟩:=q1.excI;obtain⟨k1,k2,k3,k4⟩:=hK c hc Cc hC;obtain⟨E1,U,k5⟩:=k4 y1 J;obtain⟨E2,I,k6⟩:=k4 y2 G;rw[L]at U;cases U;rw[Y]at I;cases I;refine⟨by show 2<=sizeLine;rw[kZ];decide,fun q x=>?_⟩
 refine⟨a,Cc,q,D1,D2,_,_,K0,rfl,JM,?_,sK,k1,k5,k6,hq _ n1 _ _ r1 (e1.trans (ExtE.new x)) (h1.same (JS x)) (.bl _)⟩;rw[Jn (Qs ha x)];exact ha
instance zwg {mg:qM}{f:Str->Bool}{ρ:En}{n:Nat}{R:qN}:Stp (dIsE mg cs f d ρ n R) (d ρ n fun t n1=>lIsE mg cs f t fun z=>R z n1):=⟨fun h=>h⟩
instance zv_ {mg:qM}{i ie:Nat}{g:GX}{ds:DTA}{D:JO}{ρ:En}{n:Nat}:Stp (sTry mg cs i ie g ds D ρ n) (ρ[ie]?=some none/\ds ρ n fun ts n1=>g ts n1 (fun _ n2=>D.nx ρ n2) fun c n2=>c∈cs/\∀C,mg c=some (.ref C)->D.nx (ρ.set i (some (.val (EXC C)))) n2):=⟨fun h=>h⟩
end
section
variable{X:Cx}{a:aO}{da:DTE}
theorem zkZ:MtR X "list.index" (fun x xs H Q=>∃(l:ak) (bs:List Bool) (k:Bool),x=.ref l/\xs=[.bl k]/\SqL X.K H l (bs.map V.bl)/\k∈bs/\bs.length<=1000000/\Q (.int (bs.idxOf k:Nat)) H):=by
 intro pins s σ H x xs v us Q I Y rs h;obtain⟨l,bs,k,rfl,rfl,S,J,hz,q⟩:=h;cases Y;cases rs with
 | cons r1 Z =>
  cases Z;cases(show _=dS k from r1)
  obtain⟨C,R,p,sz⟩:=I.list S;have e:C=bs.map dS:=by
   clear p S J hz q sz;induction bs generalizing C with
   | nil=>cases R;rfl
   | cons b bs ih =>
    cases R with
    | cons a b=>cases(show _=dS _ from a);rw[ih _ b];rfl
  subst e;obtain⟨⟨cls,dd,data,sl⟩,N,hc,n,hd⟩:=p.isList;simp only at hc hd;subst hc hd;have hj:bs.idxOf k<bs.length:=ke.mpr J;refine call_meets ky ⟨_,N,rfl⟩ PySem.F.entry_list_index (PySem.F.args_list_index_2 _ _)
   (rG l (bs.map dS).toArray n dd sl (.bool k) (fun u=>match u with|.bool b=>b == k|_=>false) (bs.idxOf k) (by simpa using hj) (by omega) ?_ ?_) ⟨N,fun y hy=>?_,⟨.int _,H,I.tok _,⟨_,rfl⟩,q⟩⟩
  ·simp
  ·intro j L G;have U:j<bs.length:=by simpa using L
   have:bs[j]≠k:=fun z=>by
    have:=ke.mpr J;exact absurd (List.not_of_lt_findIdx (p:=(· == k)) (xs:=bs) (i:=j) G) (by simp[z])
   simpa using this
  ·obtain⟨b,_,rfl⟩:=ba.mp (by simpa using hy:y∈bs.map dS)
   exact oW b k
def zqc(k:Bool)(d:DTE):DTE:=fun v n R=>d v n fun t u=>∃bs:List Bool,t=.list (bs.map cq)/\k∈bs/\bs.length<=1000000/\R (.int (bs.idxOf k:Nat)) u
theorem zlJ{k:Bool}{j}{Y p2 y:Pos}(h:DL X a da)(G:attributeBase a "index" X.env (eval a X.env)=eval a X.env:=by rfl) (E8:(p2.endLine == y.line)=true:=by rfl):DE X (.Call (.Attribute a "index" p2) [.Constant (.bool k) j Y] [] y) (zqc k da):=by
 obtain⟨ta,pa,h⟩:=h;refine⟨_,zo0 gi ky PySem.F.type_list_index zkZ pa (QH zo2 Uo rfl) G rfl E8 rfl rfl,fun C U σ H n Q R S hd N=>?_⟩
 refine h C U σ H n _ _ S hd fun t n1 v I r e1 J Z=>?_
 obtain⟨bs,rfl,L,hz,r⟩:=r;obtain⟨p,vs,rfl,x,h3⟩:=Z.lstI;rw[Vx h3]at x;exact⟨.inl ⟨rfl,_,SqL.of x⟩,p,bs,k,rfl,rfl,.of x,L,hz,N _ n1 _ I r e1 J (.int _)⟩
end
end L2
namespace Bd
open PySem PySem.W PySem.Calls L2 PyProof.Rows
def kOne(h:aN)(v:Option ah):qF:=match v with
 | some (.ref C)=>(match h.get? C with
  | some o=>(C,o)::(match o.data with
   | .cls cd=>(match h.get? cd.ns with|some n=>[(cd.ns,n)]|none=>[])
   | _=>[])
  | none=>[])
 | _=>[]
def kOf(h:aN)(mg:qM)(xs:List Str):qF:=xs.flatMap fun x=>kOne h (mg x)
theorem zpz{h:aN}{v:Option ah}{p:ak×Obj}(m:p∈kOne h v):h.get? p.1=some p.2:=by
 unfold kOne at m;split at m
 ·split at m
  ·rename_i C o u;rcases aw.mp m with rfl|m
   ·exact u
   ·split at m
    ·split at m
     ·rename_i n l;cases aC.mp m;exact l
     ·cases m
    ·cases m
  ·cases m
 ·cases m
theorem znb{K:qF}{a:ak}{o:Obj}(e:K.lookup a=some o):(a,o)∈K:=by
 induction K with
 | nil=>cases e
 | cons p K v =>
  obtain⟨b,u⟩:=p;rw[cA]at e;cases q:a == b with
  | true=>rw[q]at e;cases e;rw[eq_of_beq q];exact .head _
  | false=>rw[q]at e;exact .tail _ (v e)
theorem zsc{h:aN}{mg:qM}{xs:List Str}:(kOf h mg xs).In h:=fun a o e=>by
 obtain⟨x,_,m⟩:=List.mem_flatMap.mp (znb e);exact zpz m
def isRef:Option ah->Bool
 | some (.ref _)=>true
 | _=>false
def excAt(xs cs ys:List Str)(T:Str)(s:au):Bool:=isRef (s.heap.nsMap mainGlobals T)&&ys.all (fun y=>isRef (s.heap.nsMap mainGlobals y))&&excT (kOf s.heap (s.heap.nsMap mainGlobals) xs) (s.heap.nsMap mainGlobals) cs ys T
def ExcsAre(cs ys:List Str)(T:Str)(mg:qM)(h:aN):Prop:=∃l:qF,l.In h/\((∃D,mg T=some (.ref D))/\∀y∈ys,∃E,mg y=some (.ref E))/\excT l mg cs ys T=true
theorem ziT{v:Option ah}(h:isRef v=true):∃D,v=some (.ref D):=by
 unfold isRef at h;split at h
 ·exact⟨_,rfl⟩
 ·cases h
theorem ztd{xs cs ys:List Str}{T:Str}{s:au}(x:excAt xs cs ys T s=true):ExcsAre cs ys T (s.heap.nsMap mainGlobals) s.heap:=by
 unfold excAt at x;simp only[aF]at x;exact⟨_,zsc,⟨ziT x.1.1,fun y l=>ziT (bc.mp x.1.2 y l)⟩,x.2⟩
theorem ExcsAre.keeps{cs ys:List Str}{T:Str}{mg:qM}{h h':aN}(x:ExcsAre cs ys T mg h)(k:∀b o,h.get? b=some o->h'.get? b=some o):ExcsAre cs ys T mg h':=by
 obtain⟨l,i,r⟩:=x;exact⟨l,fun a o e=>k a o (i a o e),r⟩
theorem ExcsAre.ok{cs ys:List Str}{T:Str}{mg:qM}{h:aN}(x:ExcsAre cs ys T mg h):QO (JF h) mg cs ys T:=by
 obtain⟨l,i,r⟩:=x;exact⟨l,fun a o e=>UX (i a o e),r⟩
theorem zrA{q:aG}{loose:List Str}{v:m4->Option ah}{mg l:qM}{h:aN}{x:Str}(T:Top q loose v mg l h)(u:specOf q x=some ("ValueError.__new__",zte)):OwnE (JF h) mg x:=by
 obtain⟨C,O,_⟩:=T.ownAt u;exact⟨C,O.bound,fun h' y=>(O.keeps fun b o e=>y b o (UX e)).own⟩
end Bd
namespace Bd
open PySem L2
theorem zpj{rs u L:List NP}(p:rs.Perm L)(y:u.Perm L)(h:rs.Pairwise fun a b=>npRk rs a<=npRk rs b)(h':u.Pairwise fun a b=>npRk u a<=npRk u b):rs=u:=by
 have q:=p.trans y.symm;have e:∀a,npRk rs a=npRk u a:=fun a=>by unfold npRk;rw[(q.filter _).length_eq]
 refine List.Perm.eq_of_pairwise (le:=fun a b=>npRk rs a<=npRk rs b) (fun a b x v C G=>?_) h (h'.imp fun {a b} z=>by rw[e,e];exact z) q
 rcases ziz a b with z|z|z
 ·have:=Y4 x z;lia
 ·exact z
 ·have:=Y4 (q.mem_iff.mpr v) z;lia
def Nb(p:NP):Prop:=p.1.1.natAbs<10 ^ 40/\p.1.2.natAbs<10 ^ 40/\IsNm p.2
theorem zpp{bits:Int}{p:NP}(x:1<=bits)(l:bits<=64)(B:IsBk bits p.1.1 p.1.2)(N:IsNm p.2):Nb p:=by
 have v:=B.lt (by lia) l
 have:=B.1;have:=B.2.1;have u:=B.bounds (by lia)
 exact⟨by lia,by lia,N⟩
theorem zqN{os:List NP}{a:Nat}(h:∀p∈os,Nb p)(l:os.length<=a):Sm (567*a) 3 (.tuple (oD os)):=by
 refine(zfj (w:=566) (k:=2) (xs:=oD os) fun x hx=>?_).mono (by rw[ziy];lia) (az _)
 obtain⟨p,v,rfl⟩:=ba.mp hx;obtain⟨a,b,N⟩:=h p v;exact zqL (zke a b) ((zut N).mono (by decide) (by decide))
theorem zkh{d:Deal}{a b:Nat}(x:567*a+567*b+200<=380000)(y:1<=d.1)(G:d.1<=64)(l:∀p∈d.2.1,Nb p)(v:d.2.1.length<=a)(u:∀p∈d.2.2,Nb p)(l2:d.2.2.length<=b):Shd (dlD d):=by
 have A:=zqN l v;have B:=zqN u l2;have C:Sm 140 0 (.int d.1):=zkf (by lia)
 have:=A.wt;have:=B.wt;have:=C.wt;have:=A.dp;have:=B.dp;have:=C.dp;exact Sm.shd (w:=567*a+567*b+143) (k:=4) ⟨by have a:=A.ls;have b:=B.ls;have c:=C.ls;simp only[dlD,fY,fo,gY,aF]at a b c ⊢;exact⟨c,a,b⟩,by have a:=A.sh;have b:=B.sh;have c:=C.sh;simp only[dlD,hW,fZ,gY,aF]at a b c ⊢;exact⟨c,a,b⟩,by have a:=A.cl;have b:=B.cl;have c:=C.cl;simp only[dlD,bp,aZ,gY,aF]at a b c ⊢;first|exact⟨c,a,b⟩|exact⟨a,b⟩|simp_all,by simp only[dlD,cC,bN]at *;lia,by simp only[dlD,lT,gQ]at *;lia⟩ (by lia) (by decide)
theorem Dl.o{d:Deal}(D:Dl d):∀p∈d.2.1,Nb p:=fun p l=>zpp D.1 D.2.1 (D.2.2.1.1.1 _ (ba.mpr ⟨p,l,rfl⟩)) (D.2.2.1.2 p l)
theorem Dl.k{d:Deal}(D:Dl d):∀p∈d.2.2,Nb p:=fun p l=>zpp D.1 D.2.1 (D.2.2.2.1.1.1 _ (ba.mpr ⟨p,l,rfl⟩)) (D.2.2.2.1.2 p l)
theorem zkR{p:NP}(h:IsNm p.2):Okd (.tuple [prD p.1,.str p.2]):=by
 have e:=(YB h).1;exact⟨by simp[prD,bp,aZ]at e ⊢;exact e,by simp[prD,cC,bN]⟩
end Bd
namespace Bd
open PySem L2
def top(i:Nat):cT:=PySem.Challenge.pw_blockdeal_k26_blocks_taken.main.body.getD i (.Pass ⟨0,0,0,0⟩)
set_option maxHeartbeats 4000000
local macro_rules | `(tactic| walk_at "S") => `(tactic| first | with_reducible refine zjq ?_ | with_reducible refine Stp.go ?_ | with_reducible refine j_all (by with_unfolding_all rfl) ?_ | with_reducible refine j_any (by with_unfolding_all rfl) ?_ | with_reducible refine zop (by with_unfolding_all rfl) ?_ | with_reducible refine zoq (by with_unfolding_all rfl) ?_ | with_reducible refine ziW (by with_unfolding_all rfl) ?_ | with_reducible refine ziV (by with_unfolding_all rfl) ?_)
set_option hygiene false in
local macro_rules | `(tactic| walk_at "K") => `(tactic| first | walk_at "S" | with_reducible refine zsL (fun hc => ?_) (fun hc => ?_) | with_reducible refine zvC (fun hc => ?_) (fun hc => ?_) | with_reducible refine And.intro ?_ ?_)
set_option hygiene false in
local macro_rules | `(tactic| wp_walk using $ts:term,*) => `(tactic| repeat' (first $[| with_reducible refine $ts:term]* | walk_at "K"))
local macro_rules | `(tactic| wp_walk) => `(tactic| repeat' walk_at "K")
structure Txt(mg:qM):Prop where
 isi:mg "isinstance" = none
 int:mg "int" = none
 boo:mg "bool" = none
 tup:mg "tuple" = none
 len:mg "len" = none
 min:mg "min" = none
 max:mg "max" = none
 str:mg "str" = none
 rep:mg "repr" = none
 all:mg "all" = none
 any:mg "any" = none
 ran:mg "range" = none
 sum:mg "sum" = none
 srt:mg "sorted" = none
 lst:mg "list" = none
 abs:mg "abs" = none
 zip:mg "zip" = none
 dct:mg "dict" = none
 rev:mg "reversed" = none
 enu:mg "enumerate" = none
 vae:mg "ValueError" = none
def EXS:List Str:=["NoDeed","NotTheirs","NoRoom"]
def EYS:List Str:=["NoDeed","NotTheirs","NoRoom","NoLine","NoText"]
section
open PySem.W PyProof.Rows
def pw:aG:=PySem.Challenge.pw_blockdeal_k26_blocks_taken
def PL:PLs:=[(ae "PARTS",[(ae "take",[ae "height"]),(ae "near",[ae "height",ae "address"]),(ae "give",[ae "block"]),(ae "grow",[ae "block"]),(ae "keep",[ae "block"]),(ae "loose",[ae "block"]),(ae "move",[ae "block",ae "block"])])]
def FL:FLs:=[(ae "DEEDS",["take","near","give","grow","keep","loose","move"])]
def DL:FLs:=[(ae "PARTS",["take","near","give","grow","keep","loose","move"]),(ae "DEEDS",["take","near","give","grow","keep","loose","move"])]
def TL:List (Str×List Str):=[]
def zvb:cT->Bool
 | .FunctionDef ..=>true
 | .ClassDef ..=>true
 | .Assign [.Name x _] _ _=>!(x == ae "__name__")
 | _=>false
def qv:aG:={ pw with main:={ pw.main with body:=pw.main.body.filter zvb } }
theorem zoJ:recsOf qv=(pw.main.body.filter ZK).map recD:=by kernel_rfl
theorem zol{i:Nat}(h:ZK (top i)=true):recD (top i)∈recsOf qv:=by
 rw[zoJ];exact lP (cU.mpr ⟨getD_mem h,h⟩)
theorem dqG{i:Nat}{x:Str}{ps:List Str}{y:m4->Option ah}{mg l:qM}{h:aN}(T:gT qv (looseW qv [ae "DEEDS",ae "PARTS"]) y mg l h) (u:BndA x (top i) ps) (v:ZK (top i)=true:=by kernel_rfl) (C:defName (top i)=x:=by kernel_rfl):Dq (JF h) mg x (top i) ps:=dq_g T (zol v) C u
def zs9:List Str:=[ae "isinstance",ae "int",ae "bool",ae "tuple",ae "len",ae "min",ae "max",ae "str",ae "repr",ae "all",ae "any",ae "range",ae "sum",ae "sorted",ae "list",ae "abs",ae "zip",ae "dict",ae "reversed",ae "enumerate",ae "ValueError"]
def zs_(x:Str):Bool:=!startupNames.contains x&&!(looseW qv [ae "DEEDS",ae "PARTS"]).contains x&&!((recsOf qv).map (·.name)).contains x&&!((litsOf qv).map (·.1)).contains x&&!((clssOf qv (looseW qv [ae "DEEDS",ae "PARTS"])).map (·.name)).contains x
theorem zpU:zs9.all zs_=true:=by kernel_rfl
theorem zpV{u:m4->Option ah}{mg l:qM}{h:aN}(T:gT qv (looseW qv [ae "DEEDS",ae "PARTS"]) u mg l h) {x:Str} (m:x∈zs9):mg x=none:=by
 have e:=bc.mp zpU x m;unfold zs_ at e;simp only[aF,i5,List.contains_eq_mem,decide_eq_false_iff_not]at e;obtain⟨⟨⟨⟨a,b⟩,c⟩,d⟩,f⟩:=e;exact T.free x a b c d f
theorem zqB{u:m4->Option ah}{mg l:qM}{h:aN}(T:gT qv (looseW qv [ae "DEEDS",ae "PARTS"]) u mg l h):Txt mg:=by
 constructor <;> exact zpV T (List.contains_iff_mem.mp (by kernel_rfl))
theorem zoG:PySem.Challenge.rw_blockdeal_k26_blocks_taken.wellSaid=true:=by kernel_rfl
theorem zr6(w:aP)(os:eP):(JU treeTable pw (w.withFollow "special-get-raises" false) 11 ((bf ((w.withFollow "special-get-raises" false)).params).nsMap mainGlobals "__annotations__") 20000 (zb_ (w.withFollow "special-get-raises" false) os) (topStub pw)).map (fun s=>(UC pw (bf ((w.withFollow "special-get-raises" false)).params) s.abs,(fun s=>hshs DL s.heap) s.abs,s.abs.heap.bltView,plainSeenD qv [ae "DEEDS",ae "PARTS"] s.abs,clsSeenW qv [ae "DEEDS",ae "PARTS"] s.abs,pinSeenD qv (drecsOf qv) s.abs))=some (true,(hshW DL) (w.withFollow "special-get-raises" false),bltViewBooted,plainGoodD qv [ae "DEEDS",ae "PARTS"],clsGoodW qv [ae "DEEDS",ae "PARTS"],pinGoodD (drecsOf qv)):=by kernel_rfl
theorem zr5(w:aP)(os:eP):(JU treeTable pw (w.withFollow "special-get-raises" false) 11 ((bf ((w.withFollow "special-get-raises" false)).params).nsMap mainGlobals "__annotations__") 20000 (zb_ (w.withFollow "special-get-raises" false) os) (topStub pw)).map (fun s=>seen ((recsOf qv).map (·.name)) (ownsOf qv) [] { s.abs with gens:=#[] })=some (expectedOf qv):=by kernel_rfl
theorem zr2(w:aP)(os:eP):(JU treeTable pw (w.withFollow "special-get-raises" false) 11 ((bf ((w.withFollow "special-get-raises" false)).params).nsMap mainGlobals "__annotations__") 20000 (zb_ (w.withFollow "special-get-raises" false) os) (topStub pw)).map (fun s=>plainSeenE qv (looseW qv [ae "DEEDS",ae "PARTS"]) s.abs)=some (plainGoodE qv (looseW qv [ae "DEEDS",ae "PARTS"])):=by kernel_rfl
theorem zr1(w:aP)(os:eP):(JU treeTable pw (w.withFollow "special-get-raises" false) 11 ((bf ((w.withFollow "special-get-raises" false)).params).nsMap mainGlobals "__annotations__") 20000 (zb_ (w.withFollow "special-get-raises" false) os) (topStub pw)).map (fun s=>wideSeen qv s.abs)=some (wideGood qv):=by kernel_rfl
theorem zr4(w:aP)(os:eP):(JU treeTable pw (w.withFollow "special-get-raises" false) 11 ((bf ((w.withFollow "special-get-raises" false)).params).nsMap mainGlobals "__annotations__") 20000 (zb_ (w.withFollow "special-get-raises" false) os) (topStub pw)).map (fun s=>(s.abs.heap.keysOk (looseW qv [ae "DEEDS",ae "PARTS"]) ((recsOf qv).map (·.name)) ((litsOf qv).map (·.1)) ((clssOf qv (looseW qv [ae "DEEDS",ae "PARTS"])).map (·.name))&&s.abs.heap.accountedOkI (importedModules pw.main.body)&&s.abs.heap.isNs mainGlobals&&s.abs.heap.isNs builtinsNs&&tablesOk qv s.abs.heap&&(fun s=>xlAt qv [] s&&recOk (gL PySem.Challenge.rw_blockdeal_k26_blocks_taken.row.toRowW) s&&UA TL s&&UB PL FL s&&excAt ["DealError","NoDeed","NotTheirs","NoRoom","NoLine","NoText"] EXS EYS (ae "DealError") s) s.abs&&(if true then s.abs.gens.size == 0 else !leftWithCleanup s.abs.gens)))=some true:=by kernel_rfl
theorem zr3(w:aP)(os:eP):(JU treeTable pw (w.withFollow "special-get-raises" false) 11 ((bf ((w.withFollow "special-get-raises" false)).params).nsMap mainGlobals "__annotations__") 20000 (zb_ (w.withFollow "special-get-raises" false) os) (topStub pw)).map (fun s=>tabsOk qv s.abs)=some true:=by kernel_rfl
theorem zva(w:aP)(os:eP):(JU treeTable pw (w.withFollow "special-get-raises" false) 11 ((bf ((w.withFollow "special-get-raises" false)).params).nsMap mainGlobals "__annotations__") 20000 (zb_ (w.withFollow "special-get-raises" false) os) (topStub pw)).map (fun s=>(UC pw (bf ((w.withFollow "special-get-raises" false)).params) s.abs,openSeen qv [ae "DEEDS",ae "PARTS"] (importedModules pw.main.body) (fun s=>xlAt qv [] s&&recOk (gL PySem.Challenge.rw_blockdeal_k26_blocks_taken.row.toRowW) s&&UA TL s&&UB PL FL s&&excAt ["DealError","NoDeed","NotTheirs","NoRoom","NoLine","NoText"] EXS EYS (ae "DealError") s) true s.abs,(fun s=>hshs DL s.heap) s.abs))=some (true,openGood qv [ae "DEEDS",ae "PARTS"],(hshW DL) (w.withFollow "special-get-raises" false)):=zrU (zr6 w os) (zr5 w os) (zr4 w os) (zr3 w os) (zr2 w os) (zr1 w os)
theorem zr0(w:aP)(os:eP):(JU treeTable pw (w.withFollow "special-get-raises" true) 11 ((bf ((w.withFollow "special-get-raises" true)).params).nsMap mainGlobals "__annotations__") 20000 (zb_ (w.withFollow "special-get-raises" true) os) (topStub pw)).map (fun s=>(UC pw (bf ((w.withFollow "special-get-raises" true)).params) s.abs,(fun s=>hshs DL s.heap) s.abs,s.abs.heap.bltView,plainSeenD qv [ae "DEEDS",ae "PARTS"] s.abs,clsSeenW qv [ae "DEEDS",ae "PARTS"] s.abs,pinSeenD qv (drecsOf qv) s.abs))=some (true,(hshW DL) (w.withFollow "special-get-raises" true),bltViewBooted,plainGoodD qv [ae "DEEDS",ae "PARTS"],clsGoodW qv [ae "DEEDS",ae "PARTS"],pinGoodD (drecsOf qv)):=by kernel_rfl
theorem zrZ(w:aP)(os:eP):(JU treeTable pw (w.withFollow "special-get-raises" true) 11 ((bf ((w.withFollow "special-get-raises" true)).params).nsMap mainGlobals "__annotations__") 20000 (zb_ (w.withFollow "special-get-raises" true) os) (topStub pw)).map (fun s=>seen ((recsOf qv).map (·.name)) (ownsOf qv) [] { s.abs with gens:=#[] })=some (expectedOf qv):=by kernel_rfl
theorem zrW(w:aP)(os:eP):(JU treeTable pw (w.withFollow "special-get-raises" true) 11 ((bf ((w.withFollow "special-get-raises" true)).params).nsMap mainGlobals "__annotations__") 20000 (zb_ (w.withFollow "special-get-raises" true) os) (topStub pw)).map (fun s=>plainSeenE qv (looseW qv [ae "DEEDS",ae "PARTS"]) s.abs)=some (plainGoodE qv (looseW qv [ae "DEEDS",ae "PARTS"])):=by kernel_rfl
theorem zrV(w:aP)(os:eP):(JU treeTable pw (w.withFollow "special-get-raises" true) 11 ((bf ((w.withFollow "special-get-raises" true)).params).nsMap mainGlobals "__annotations__") 20000 (zb_ (w.withFollow "special-get-raises" true) os) (topStub pw)).map (fun s=>wideSeen qv s.abs)=some (wideGood qv):=by kernel_rfl
theorem zrY(w:aP)(os:eP):(JU treeTable pw (w.withFollow "special-get-raises" true) 11 ((bf ((w.withFollow "special-get-raises" true)).params).nsMap mainGlobals "__annotations__") 20000 (zb_ (w.withFollow "special-get-raises" true) os) (topStub pw)).map (fun s=>(s.abs.heap.keysOk (looseW qv [ae "DEEDS",ae "PARTS"]) ((recsOf qv).map (·.name)) ((litsOf qv).map (·.1)) ((clssOf qv (looseW qv [ae "DEEDS",ae "PARTS"])).map (·.name))&&s.abs.heap.accountedOkI (importedModules pw.main.body)&&s.abs.heap.isNs mainGlobals&&s.abs.heap.isNs builtinsNs&&tablesOk qv s.abs.heap&&(fun s=>xlAt qv [] s&&recOk (gL PySem.Challenge.rw_blockdeal_k26_blocks_taken.row.toRowW) s&&UA TL s&&UB PL FL s&&excAt ["DealError","NoDeed","NotTheirs","NoRoom","NoLine","NoText"] EXS EYS (ae "DealError") s) s.abs&&(if true then s.abs.gens.size == 0 else !leftWithCleanup s.abs.gens)))=some true:=by kernel_rfl
theorem zrX(w:aP)(os:eP):(JU treeTable pw (w.withFollow "special-get-raises" true) 11 ((bf ((w.withFollow "special-get-raises" true)).params).nsMap mainGlobals "__annotations__") 20000 (zb_ (w.withFollow "special-get-raises" true) os) (topStub pw)).map (fun s=>tabsOk qv s.abs)=some true:=by kernel_rfl
theorem zu_(w:aP)(os:eP):(JU treeTable pw (w.withFollow "special-get-raises" true) 11 ((bf ((w.withFollow "special-get-raises" true)).params).nsMap mainGlobals "__annotations__") 20000 (zb_ (w.withFollow "special-get-raises" true) os) (topStub pw)).map (fun s=>(UC pw (bf ((w.withFollow "special-get-raises" true)).params) s.abs,openSeen qv [ae "DEEDS",ae "PARTS"] (importedModules pw.main.body) (fun s=>xlAt qv [] s&&recOk (gL PySem.Challenge.rw_blockdeal_k26_blocks_taken.row.toRowW) s&&UA TL s&&UB PL FL s&&excAt ["DealError","NoDeed","NotTheirs","NoRoom","NoLine","NoText"] EXS EYS (ae "DealError") s) true s.abs,(fun s=>hshs DL s.heap) s.abs))=some (true,openGood qv [ae "DEEDS",ae "PARTS"],(hshW DL) (w.withFollow "special-get-raises" true)):=zrU (zr0 w os) (zrZ w os) (zrY w os) (zrX w os) (zrW w os) (zrV w os)
theorem zpt:LeftO pw qv [ae "DEEDS",ae "PARTS"] (fun s=>xlAt qv [] s&&recOk (gL PySem.Challenge.rw_blockdeal_k26_blocks_taken.row.toRowW) s&&UA TL s&&UB PL FL s&&excAt ["DealError","NoDeed","NotTheirs","NoRoom","NoLine","NoText"] EXS EYS (ae "DealError") s) (fun s=>hshs DL s.heap) (hshW DL) 20000:=zla (by kernel_rfl) (by decide) (fun _=>rfl) (fun w=>zkp (w:=w) (P:=fun w=>∀os:eP,(JU treeTable pw w 11 ((bf (w).params).nsMap mainGlobals "__annotations__") 20000 (zb_ w os) (topStub pw)).map (fun s=>(UC pw (bf (w).params) s.abs,openSeen qv [ae "DEEDS",ae "PARTS"] (importedModules pw.main.body) (fun s=>xlAt qv [] s&&recOk (gL PySem.Challenge.rw_blockdeal_k26_blocks_taken.row.toRowW) s&&UA TL s&&UB PL FL s&&excAt ["DealError","NoDeed","NotTheirs","NoRoom","NoLine","NoText"] EXS EYS (ae "DealError") s) true s.abs,(fun s=>hshs DL s.heap) s.abs))=some (true,openGood qv [ae "DEEDS",ae "PARTS"],(hshW DL) w)) "special-get-raises" zva zu_)
end
section
variable{P:aG}{w:aP}{K:qF}{mg:qM}{base:aN}{Z:ZZ}
def zpB:af->Bool|.int _=>true|_=>false
def zc2:GD:=fun ts n R=>match ts with
 | [d]=>Pln d/\R (.bool (zpB d)) n
 | _=>False
theorem Ud{d:af}{b:Bool}{n:Nat}{R:qN}(e:zpB d=b)(h:Pln d)(h':R (.bool b) n):zc2 [d] n R:=⟨h,e▸h'⟩
def Vw(Z:ZZ):Prop:=FQ Z "is_whole" (top 1) ["thing"] 1 (spD Z.K 1 zc2)
theorem zhG(D:Dq Z.K Z.mg "is_whole" (top 1) ["thing"]) (T:Txt Z.mg):Vw Z:=by
 refine' okQ D (fnS (N:=["thing"]) (by decide +kernel)) rfl fun f l A outer s H E v=>⟨_,(Jc (Jg (YU (Yj zs4 T.isi T.int boot_int (dlv 0) Jr) (Ui (zp5 (Yj zpP T.isi T.boo zjW (dlv 0) Jr)))))),?_⟩
 intro ts n R x h;unfold zc2 at h;split at h
 ·rename_i d;obtain⟨p,h⟩:=h;cases d with
  | dict u =>
   cases u with
   | nil =>
    wp_walk
    exact h
   | cons a b=>exact absurd rfl p
  | _ =>
   wp_walk
   exact h
 ·exact h.elim
def Q1(bits:Int):af->Bool
 | .tuple [.int b,.int h]=>decide (0<=h/\h<=bits/\0<=b/\b<2 ^ bits.toNat/\b % 2 ^ h.toNat=0)
 | _=>false
theorem zhX{bits b h:Int}:Q1 bits (.tuple [.int b,.int h])=decide (0<=h/\h<=bits/\0<=b/\b<2 ^ bits.toNat/\b % 2 ^ h.toNat=0):=rfl
def Pl2(d:af):Prop:=Pln d/\∀ts,d=.tuple ts->∀t∈ts,Pln t
def ze3:GD:=fun ts n R=>∃(bits:Int) (d:af),ts=[.int bits,d]/\0<=bits/\bits<=64/\Pl2 d/\R (.bool (Q1 bits d)) n
theorem zjT{bits:Int}{d:af}{n:Nat}{R:qN}(u:0<=bits)(v:bits<=64)(h:Pl2 d)(h':R (.bool (Q1 bits d)) n):ze3 [.int bits,d] n R:=⟨bits,d,rfl,u,v,h,h'⟩
theorem zll{bits:Int}{d:af}(h:∀b g,d≠.tuple [.int b,.int g]):Q1 bits d=false:=by
 unfold Q1;split
 ·exact absurd rfl (h _ _)
 ·rfl
theorem ztc{b c:Bool}{n:Nat}{R:qN}(e:b=c)(h:R (.bool c) n):R (.bool b) n:=e▸h
def zeU(Z:ZZ):Prop:=FQ Z "is_block" (top 2) ["bits","thing"] 2 (spD Z.K 2 ze3)
theorem zhH(D:Dq Z.K Z.mg "is_block" (top 2) ["bits","thing"]) (I:Vw Z) (T:Txt Z.mg):zeU Z:=by
 refine' okQ D (fnS (N:=["bits","thing","begin","height"]) (by decide +kernel)) rfl fun f J A outer s H E v=>⟨_,(Jb (Jw (Qb (Qu (Qj (Qc (dl (Yj ziY T.isi T.tup QN (dlv 1) Jr)))) (QS (Jp (QU v) QQ (dl (JA Ur Uk T.len Q7 (Ji (dlv 1) Jo Jr))) dli (Jh _))))) (Jc (Jg QP)) Jy) (Jb (QR (Jk 1) (JJ rfl (Jm (dgv 2 (ndB rfl)) (Jm (dgv 3 (ndB rfl)) JK)))) (Jb (Jw (Qb (Qu (Qj (Qc (dl (Jd I v (dbv 2 Ja))))) (QS (Qj (Qc (dl (Jd I v (dbv 3 Ja)))))))) (Jc (Jg QP)) Jy) (Jb (Jw (Qb (Qu (Jp (Qp v) Qm (dlv 3) dli (Jh _)) (QS (Jp QX gp_B (dlv 3) (dlv 0) (Jh _))))) (Jc (Jg QP)) Jy) (Jc (Jg (YU (Vj Qo Qk (Qp v) Qm dli (dlv 2) (dl (JV dli (dlv 0)))) (Ui (Qx (Qy v) Qv (dl (Zy (dlv 2) (dl (JV dli (dlv 3))))) dli (Jh _)))))))))),?_⟩
 intro ts n R S h;obtain⟨bits,d,rfl,U,L,⟨p,p2⟩,h⟩:=h;have no:(∀b g,d≠.tuple [.int b,.int g])->R (.bool false) n:=fun z=>by rw[zll z]at h;exact h
 cases hf:isTup d with
 | false =>
  wp_walk using isiF p hf ?_
  exact no fun b g e=>by rw[e]at hf;cases hf
 | true =>
  obtain⟨ts,rfl⟩:=znD hf;have p2:=p2 ts rfl
  by_cases l2:ts.length=2
  ·obtain⟨x,y,rfl⟩:=zu9 l2;have C:=p2 x (by simp)
   have py:=p2 y (by simp)
   have G:∀t,(∃b,t=.int b)\/zpB t=false:=fun t=>by
    cases t with
    | int b=>exact .inl ⟨b,rfl⟩
    | _=>exact .inr rfl
   rcases G x with⟨b,rfl⟩|wx
   ·rcases G y with⟨g,rfl⟩|wy
    ·wp_walk using Ud (b:=true) rfl C ?_,Ud (b:=true) rfl py ?_
     all_goals first
      | exact cpow (by lia) (by lia)
      | (rw[JX];exact QB _)
      | skip
     all_goals
      refine ztc ?_ h
      try simp only[JX]at *
      rw[zhX];generalize (2:Int) ^ bits.toNat=X at *;generalize b % (2:Int) ^ g.toNat=Y at *
      first
       | (symm;rw[decide_eq_false_iff_not];lia)
       | (rw[decide_eq_decide];lia)
       | (exfalso;simp at hc;done)
    ·wp_walk using Ud (b:=true) rfl C ?_,Ud wy py ?_
     all_goals first|exact no fun _ _ e=>by cases e;cases wy|(exfalso;simp at hc;done)
   ·wp_walk using Ud wx C ?_
    all_goals first|exact no fun _ _ e=>by cases e;cases wx|(exfalso;simp at hc;done)
  ·wp_walk
   all_goals first|exact no fun _ _ e=>l2 (by cases e;rfl)|(exfalso;lia)
def zgW:GD:=fun ts n R=>∃i h:Int,ts=[.tuple [.int i,.int h]]/\0<=h/\h<=1000/\R (.int (2 ^ h.toNat)) n
theorem zl3{i h:Int}{n:Nat}{R:qN}(v:0<=h)(g1:h<=1000)(h':R (.int (2 ^ h.toNat)) n):zgW [.tuple [.int i,.int h]] n R:=⟨_,_,rfl,v,g1,h'⟩
def zf_(Z:ZZ):Prop:=FQ Z "size_of" (top 3) ["block"] 1 (spD Z.K 1 zgW)
theorem zjx(D:Dq Z.K Z.mg "size_of" (top 3) ["block"]) (T:Txt Z.mg):zf_ Z:=by
 refine' okQ D (fnS (N:=["block"]) (by decide +kernel)) rfl fun f u A outer s H E v=>⟨_,(Jc (Jg (JV dli (dl (Jj (dlv 0) dli))))),?_⟩
 intro ts n R y l;obtain⟨i,h,rfl,x,g1,l⟩:=l
 wp_walk
 ·exact cpow (by lia) (by lia)
 ·rw[JX];exact l
def zg0:GD:=fun ts n R=>∃d,ts=[d]/\PlnD d/\R (.bool (nmD d)) n
theorem zhe{d:af}{n:Nat}{R:qN}(p:PlnD d)(h:R (.bool (nmD d)) n):zg0 [d] n R:=⟨d,rfl,p,h⟩
def zgc(Z:ZZ):Prop:=FQ Z "is_name" (top 8) ["thing"] 1 (spD Z.K 1 zg0)
theorem zjB(D:Dq Z.K Z.mg "is_name" (top 8) ["thing"]) (T:Txt Z.mg):zgc Z:=by
 refine' okQ D (fnS (N:=["thing"]) (by decide +kernel)) rfl fun f I A outer s H E hr=>⟨_,(Jb (Jw (Qb (Qu (Qj (Qc (dl (Yj zor T.isi T.str zhk (dlv 0) Jr)))) (QS (Qj (znR Qo Qk Qo Qk dli (dl (JA Ur Uk T.len Q7 (Ji (dlv 0) Jo Jr))) dli))))) (Jc (Jg QP)) Jy) (Jc (Jg (JA (VA rfl) Z2 T.all Vy (Ji (dl (Jl (dnc ["letter"] [] (dil (ztl (Jk 0))) (fun _ _ _ _=>(dgv 0 (ndB rfl))) (fun _ _ _ _=>(Vj Qo Qk Qo Qk (dl Qi) (dlv 0) (dl Qi)))))) Jo UP))))),?_⟩
 intro ts n R hl h;obtain⟨d,rfl,p,h⟩:=h;cases d with
 | str z =>
  have hz:=p.str;have C:(ae "a").cps.toList=[97]:=by decide +kernel
  have G:(ae "z").cps.toList=[122]:=by decide +kernel
  have e:nmD (.str z)=(decide (1<=z.length)&&decide (z.length<=8)&&z.cps.toList.all fun c=>decide (97<=c)&&decide (c<=122)):=rfl
  rw[e]at h
  wp_walk
  ·lia
  ·refine Ub (cs:=z.cps.toList) (D:=fun c=>.str ⟨#[c]⟩) (fun c=>.bool (decide (97<=c)&&decide (c<=122))) (by rw[Qf];lia) ?_ ?_
   ·intro c S K2 Y u
    wp_walk
    ·have z:c<97:=zkQ.mp (show([c]:List Nat)<[97] from C▸hc)
     rw[decide_eq_false (show ¬97<=c by lia),cj]at u
     exact u
    ·have z:¬c<97:=fun y=>hc (C.symm▸zkQ.mpr y)
     rw[decide_eq_true (show 97<=c by lia),df]at u
     have U:(!decide ((ae "z").cps.toList<(⟨#[c]⟩:Str).cps.toList))=decide (c<=122):=by
      rw[G];exact zpu
     rw[U];exact u
   ·wp_walk using ZJ ?_
    have x:1<=z.length:=by lia
    have v:z.length<=8:=by lia
    rw[decide_eq_true x,decide_eq_true v]at h;exact h
  ·have v:¬z.length<=8:=by lia
   rw[decide_eq_false v,gH,cj]at h;exact h
  ·have x:¬1<=z.length:=by lia
   rw[decide_eq_false x,cj,cj]at h;exact h
 | dict J =>
  cases J with
  | nil =>
   wp_walk
   exact h
  | cons a b=>exact absurd rfl (PlnD.pln p)
 | _ =>
  wp_walk
  exact h
def zi4:GD:=fun ts n R=>∃i h:Int,ts=[.tuple [.int i,.int h]]/\0<=h/\h<=1000/\R (.int (i+2 ^ h.toNat)) n
theorem zfU{i h:Int}{n:Nat}{R:qN}(v:0<=h)(g1:h<=1000)(h':R (.int (i+2 ^ h.toNat)) n):zi4 [.tuple [.int i,.int h]] n R:=⟨_,_,rfl,v,g1,h'⟩
def zfn(Z:ZZ):Prop:=FQ Z "end_of" (top 18) ["block"] 2 (spD Z.K 1 zi4)
theorem zkV(D:Dq Z.K Z.mg "end_of" (top 18) ["block"]) (x:zf_ Z) (T:Txt Z.mg):zfn Z:=by
 refine' okQ D (fnS (N:=["block"]) (by decide +kernel)) rfl fun f u A outer s H E v=>⟨_,(Jc (Jg (JH (dl (Jj (dlv 0) dli)) (dl (Jd x v (dbv 0 Ja)))))),?_⟩
 intro ts n R C l;obtain⟨i,h,rfl,y,g1,l⟩:=l
 wp_walk using zl3 ?_ ?_ ?_
 ·lia
 ·lia
 ·exact l
theorem zjN{hi:Int}(h:0<hi):QD 0 hi hi.toNat.log2:=⟨by simp,by have:=zk_ h;lia,fun z=>by have:=zk6 h;have:=z.2;lia⟩
theorem zlu{lo hi:Int}{t:Nat}(h:lo<hi)(u:lo % 2 ^ t=0)(v:¬lo % 2 ^ (t+1)=0):QD lo hi (min (hi - lo).toNat.log2 t):=by
 have a:=zk_ (i:=hi - lo) (by lia)
 have b:=zk6 (i:=hi - lo) (by lia)
 rcases sX (hi - lo).toNat.log2 t with z|z
 ·rw[oa z];exact⟨US z u,a,fun y=>by have:=y.2;lia⟩
 ·rw[Nat.min_eq_right z];exact⟨u,mX (QW z) a,fun y=>v y.1⟩
theorem znc(t:Nat):((2:Int) ^ t).toNat.log2=t:=by
 have e:((2:Int) ^ t).toNat=2 ^ t:=by
  have:((2 ^ t:Nat):Int)=(2:Int) ^ t:=by rw[fg];rfl
  rw[<- this];rfl
 rw[e,Nat.log2_two_pow]
def zbG:GD:=fun ts n R=>∃lo hi:Int,ts=[.int lo,.int hi]/\0<=lo/\lo<hi/\∀g:Nat,QD lo hi g->R (.int g) n
theorem zc_{lo hi:Int}{n:Nat}{R:qN}(l:0<=lo)(u:lo<hi)(h:∀g:Nat,QD lo hi g->R (.int g) n):zbG [.int lo,.int hi] n R:=⟨lo,hi,rfl,l,u,h⟩
def zbA(Z:ZZ):Prop:=FQ Z "greatest_height" (top 19) ["begin","high"] 1 (spD Z.K 2 zbG)
theorem zcJ(D:Dq Z.K Z.mg "greatest_height" (top 19) ["begin","high"]) (T:Txt Z.mg):zbA Z:=by
 refine' okQ D (fnS (N:=["begin","high","room"]) (by decide +kernel)) rfl fun f x A outer s H E y=>⟨_,(Jb (dsv 2 (ndB rfl) (UE (dl (zg5 (dl (UE (dlv 1) (dlv 0))))) dli)) (Jb (Jw (Jp (Qy y) Qv (dlv 0) dli (Jh _)) (Jc (Jg (Jk 2))) Jy) (Jc (Jg (JA (Y6 rfl) YM T.min UQ (Ji (dlv 2) (Ji (dl (UE (dl (zg5 (dl (zts (dlv 0) (dl (U9 (Jk 0))))))) dli)) Jo UJ) Jr)))))),?_⟩
 intro ts n R G h;obtain⟨lo,hi,rfl,C,v,h⟩:=h;have room:=zed (i:=hi - lo) (by lia)
 wp_walk
 ·rw[room];subst hc;have:=h _ (zjN v);rw[Int.sub_zero];exact this
 ·obtain⟨t,t1,t2⟩:=zuj (b:=lo) (by lia)
  have an:=zqn (b:=lo) (by lia) t1 t2
  have u:=zed (i:=(2:Int) ^ t) (QB t);rw[znc]at u;rw[an,room,u];have:=h _ (zlu v t1 t2);have e:(if (t:Int)<((hi - lo).toNat.log2:Int) then(t:Int) else((hi - lo).toNat.log2:Int))=((min (hi - lo).toNat.log2 t:Nat):Int):=by
   split <;> lia
  rw[e];exact this
def YL:GD:=fun ts n R=>∃lo hi:Int,ts=[.int lo,.int hi]/\0<=lo/\lo<=hi/\hi<=2 ^ 64/\∀bs,Jq lo hi bs->R (.tuple (pD bs)) n
theorem ztw{lo hi:Int}{n:Nat}{R:qN}(v:0<=lo)(x:lo<=hi)(l2:hi<=2 ^ 64)(h:∀bs,Jq lo hi bs->R (.tuple (pD bs)) n):YL [.int lo,.int hi] n R:=⟨lo,hi,rfl,v,x,l2,h⟩
def zoh(Z:ZZ):Prop:=FQ Z "span" (top 11) ["low","high"] 3 (spD Z.K 2 YL)
theorem zpc(D:Dq Z.K Z.mg "span" (top 11) ["low","high"]) (ES:zfn Z) (EM:zbA Z) (T:Txt Z.mg):zoh Z:=by
 refine' okQ D (fnS (N:=["low","high","blocks","begin","block"]) (by decide +kernel)) rfl fun f Y A outer s H E C=>⟨_,(Jb (Uj (i:=2) (ndB rfl) rfl (dA rfl) (Jz Ja)) (Jb (dsv 3 (ndB rfl) (Jk 0)) (Jb (zfM bO (Jp (Qp C) Qm (dlv 3) (dlv 1) (Jh _)) (Jb (dsv 4 (ndB rfl) (Js (dbv 3 (dbc (Jd EM C (dbv 3 (dbv 1 Ja))) Ja)))) (Jb (Qe 2 (Jk 4)) (Jc (dsv 3 (ndB rfl) (Jd ES C (dbv 4 Ja))))))) (Uc 2 (Jc (Jg (Qg Ua Q6 T.tup QN (Ji (dlv 2) Jo Jr)))))))),?_⟩
 intro ts n R hl h;obtain⟨lo,hi,rfl,U,l1,l2,h⟩:=h;obtain⟨all,A⟩:=zhy _ lo hi (az _) l1;have al:=A.len U l2
 wp_walk
 refine zhu (fun m I J=>J=n/\∃(bs rest:qB) (y:Int) (L:Option Cell),I=[some (.val (.int lo)),some (.val (.int hi)),some (.own (pD bs)),some (.val (.int y)),L]/\all=bs++rest/\Jq y hi rest/\lo<=y/\m=rest.length) (m:=all.length) ⟨rfl,[],all,lo,_,rfl,rfl,A,aX _,rfl⟩ ?_
 rintro m I J NX RT BK ⟨rfl,bs,rest,y,L,rfl,x,S,lb,rfl⟩ hN hR hB
 wp_walk
 ·cases rest with
  | nil=>have:y=hi:=S;lia
  | cons b r =>
   obtain⟨s1,s2,s3,s4,s5⟩:=S;refine zc_ (by lia) hc fun g G=>?_
   have eg:b.2.toNat=g:=s4.uniq G;have eb:b=(y,(g:Int)):=fU s2 (by show b.2=(g:Int);lia)
   have gl:g<=64:=by
    rcases br 64 g with z|z
    ·have:=QW (show 65<=g by lia)
     have:=G.2.1;have e:(2:Int) ^ 65=2*2 ^ 64:=by decide
     lia
    ·exact z
   wp_walk using zfU (by lia) (by lia) ?_
   ·rw[Ju];have:=congrArg cM x;rw[bw]at this;lia
   ·refine hN r.length _ _ (by simp) ⟨rfl,bs++[b],r,y+2 ^ (g:Int).toNat,some (.val (.tuple [.int y,.int (g:Int)])),by rw[eb,<- Q4],by rw[x];simp,?_,?_,rfl⟩
    ·rw[eg]at s5;simpa using s5
    ·have:=QB (g:Int).toNat;lia
 ·have e:y=hi:=by have:=S.le;lia
  cases rest with
  | cons b r=>have:=S.1;lia
  | nil =>
   refine hB _ _ ?_
   wp_walk
   rw[bM]at x;rw[<- x];exact h _ A
def ze2:GD:=fun ts n R=>∃rs:List (Int×Int),ts=[.list (pD rs)]/\(∀r∈rs,0<=r.1/\r.1<=r.2/\r.2<=2 ^ 64)/\rs.length<=100000/\∀ps,PatS rs ps->R (.tuple (pD ps)) n
theorem zfb{rs:qB}{n:Nat}{R:qN}(w:∀r∈rs,0<=r.1/\r.1<=r.2/\r.2<=2 ^ 64)(l:rs.length<=100000)(h:∀ps,PatS rs ps->R (.tuple (pD ps)) n):ze2 [.list (pD rs)] n R:=⟨rs,rfl,w,l,h⟩
theorem zkJ:∀{rs:qB},(∀r∈rs,r.1<=r.2)->∃ps,PatS rs ps
 | [],_=>⟨[],rfl⟩
 | r::rs,h=>by
  obtain⟨a,A⟩:=zhy _ r.1 r.2 (az _) (h r (by simp))
  obtain⟨b,B⟩:=zkJ (rs:=rs) fun s l=>h s (by simp[l])
  exact⟨a++b,a,b,rfl,A,B⟩
theorem zjf{g:DTG}{d:DTE}{v:En}{n:Nat}{C:List af->Nat->Prop}:∀(xs l:qD),(∀x∈xs,∀K:af->Nat->Prop,K x n->g x v fun u=>d u n K)->l.length+xs.length<=16777216->C (l++xs) n->JR g dYes d v xs l n C
 | [],l,_,_,h=>by simpa[JR] using h
 | x::xs,l,hg,hl,h=>by
  have e:(fun u=>dYes u n fun b G=>if b=true then d u G fun t I=>l.length<16777216/\JR g dYes d v xs (l++[t]) I C else JR g dYes d v xs l G C)=fun u=>d u n fun t I=>l.length<16777216/\JR g dYes d v xs (l++[t]) I C:=by
   funext u
   exact propext ⟨fun z=>by simpa[dYes] using z,fun z=>by simpa[dYes] using z⟩
  show g x v fun u=>dYes u n fun b G=>if b=true then d u G fun t I=>l.length<16777216/\JR g dYes d v xs (l++[t]) I C else JR g dYes d v xs l G C
  rw[e];refine hg x (by simp) _ ⟨by simp at hl;lia,zjf xs (l++[x]) (fun y J=>hg y (by simp[J])) (by simp at hl ⊢;lia) (by simpa using h)⟩
def zcX(Z:ZZ):Prop:=FQ Z "patch_of" (top 20) ["runs"] 4 (spD Z.K 1 ze2)
theorem zhF(D:Dq Z.K Z.mg "patch_of" (top 20) ["runs"]) (HP:zoh Z) (T:Txt Z.mg):zcX Z:=by
 refine' okQ D (fnS (N:=["runs"]) (by decide +kernel)) rfl fun f cdv A outer s H E J=>⟨_,(Jc (Jg (Qg Ua Q6 T.tup QN (Ji (dl (Jl (znV (own:=["low","high","block"]) (capt:=[]) rfl (JG.of rfl) (dil (zot (Jk 0))) (fun _ _ _ _=>(JJ rfl (Jm (dgv 0 (ndB rfl)) (Jm (dgv 1 (ndB rfl)) JK)))) (by decide) (fun _ _ _ _=>Vb) (fun _ _ _ _=>(QL (Jd HP J (dbv 0 (dbv 1 Ja))))) (fun _ _ _ _=>(dgv 2 (ndB rfl))) (by decide) (fun _ _ _ _=>Vb) (fun _ _ _ _=>(Jk 2))))) Jo UP)))),?_⟩
 intro ts n R hl h;obtain⟨rs,rfl,w,l,h⟩:=h
 wp_walk
 have key:∀(rs:qB) (v ps:qB),(∀r∈rs,0<=r.1/\r.1<=r.2/\r.2<=2 ^ 64)->v.length+130*rs.length<=16777216->PatS rs ps->∀K:List af->Nat->Prop,K (pD (v++ps)) n ->
   Uu (U3 (Q5 (Qd 0) (Q5 (Qd 1) U2))) dYes (dItT (dFn YL (Qa (dVar 0) (Qa (dVar 1) dNil)))) (Qd 2) dYes (dVar 2) [none,none,none] (pD rs) (pD v) n K:=by
  intro rs;induction rs with
  | nil =>
   intro v ps _ _ P K I;cases(show ps=[] from P)
   rw[bM]at I;exact I
  | cons r rs ih =>
   intro v ps w la P K I;obtain⟨a,b,rfl,S,Y⟩:=P;have C:=w r (by simp)
   have ll:=S.len C.1 C.2.2;show U3 (Q5 (Qd 0) (Q5 (Qd 1) U2)) (.tuple [.int r.1,.int r.2]) [none,none,none] fun y=>dYes y n fun b U=>if b=true then dItT (dFn YL (Qa (dVar 0) (Qa (dVar 1) dNil))) y U fun ts n3=>JR (Qd 2) dYes (dVar 2) y ts (pD v) n3 fun G n4=>Uu (U3 (Q5 (Qd 0) (Q5 (Qd 1) U2))) dYes (dItT (dFn YL (Qa (dVar 0) (Qa (dVar 1) dNil)))) (Qd 2) dYes (dVar 2) [none,none,none] (pD rs) G n4 K else _
   rw[aR]at la
   wp_walk using ztw C.1 C.2.1 C.2.2 (fun bs B=>?_)
   rw[B.uniq S];refine zjf _ _ (fun x hx K2 L=>?_) (by rw[Ju,Ju];lia) ?_
   ·wp_walk
    exact L
   ·rw[Zz];exact ih (v++a) b (fun s hs=>w s (by simp[hs])) (by rw[bw];lia) Y K (by rw[i6];exact I)
 obtain⟨ps,P⟩:=zkJ (rs:=rs) fun r J=>(w r J).2.1
 refine key rs [] ps w (by simp;lia) P _ ?_
 wp_walk
 exact h ps P
theorem zli{bits:Int}{bs:qB}{t:af}{I:List af->Prop}(Y:t=.list (pD bs)\/t=.tuple (pD bs))(y:bits<=64)(B:Bks bits bs)(G:bs.length<64)
  (h:∀cs:List (Int×Int),cs.Perm bs->cs.Pairwise (fun a b=>a.1<=b.1)->I (pD cs)):Yy t I:=by
 have key:(pD bs).length<64/\(∀x∈pD bs,IsPr x)/\∀v:List af,v.Perm (pD bs)->v.Pairwise (fun a b=>rkD a<=rkD b)->I v:=by
  refine⟨by rw[Ju];exact G,fun x hx=>?_,fun v pm pw=>?_⟩
  ·obtain⟨b,J,rfl⟩:=ba.mp hx;have:=B b J;exact⟨b.1,b.2,rfl,this.1,by have:=this.2.1;lia⟩
  ·have L:v.Perm ((bs.map fun b=>(b,prD b)).map (·.2)):=by
    have:(bs.map fun b=>(b,prD b)).map (·.2)=pD bs:=by simp[pD]
    rw[this];exact pm
   obtain⟨zs,S,p2⟩:=Vs L;have ez:∀z∈zs,z.2=prD z.1:=fun z N=>by
    obtain⟨b,_,rfl⟩:=ba.mp (S.mem_iff.mp N)
    rfl
   have e:v=pD (zs.map (·.1)):=by
    rw[<- p2];unfold pD;rw[cB];exact ib fun z N=>ez z N
   have pc:(zs.map (·.1)).Perm bs:=by
    have:=S.map (·.1);rw[cB]at this;have e2:bs.map ((fun x:(Int×Int)×af=>x.1)∘fun b=>(b,prD b))=bs:=by
     show bs.map id=bs
     exact uG _
    rwa [e2]at this
   rw[e];have C:Bks bits (zs.map (·.1)):=fun b y=>B b (pc.mem_iff.mp y)
   rw[e]at pw;unfold pD at pw;rw[dF]at pw;refine h _ pc (fW ?_ pw);intro a b U y R;have R:a.1*1000+a.2<=b.1*1000+b.2:=R;have a0:=(C a U).1;have a1:=(C a U).2.1;have b0:=(C b y).1;have b1:=(C b y).2.1;lia
 rcases Y with rfl|rfl <;> exact key
def zgX:GD:=fun ts n R=>∃(bits:Int) (bs:qB) (t:af),ts=[t]/\(t=.list (pD bs)\/t=.tuple (pD bs))/\0<=bits/\bits<=64/\Bks bits bs/\bs.length<64/\∀rs,NR rs->(∀x,mR x rs↔mB x bs)->rs.length<=bs.length->R (.list (pD rs)) n
theorem zhd{bits:Int}{bs:qB}{t:af}{n:Nat}{R:qN}(v:t=.list (pD bs)\/t=.tuple (pD bs))(y:0<=bits)(C:bits<=64)(B:Bks bits bs)(l:bs.length<64)(h:∀rs,NR rs->(∀x,mR x rs↔mB x bs)->rs.length<=bs.length->R (.list (pD rs)) n):zgX [t] n R:=⟨bits,bs,t,rfl,v,y,C,B,l,h⟩
def zdS(Z:ZZ):Prop:=FQ Z "runs_of" (top 21) ["blocks"] 3 (spD Z.K 1 zgX)
theorem zjy(D:Dq Z.K Z.mg "runs_of" (top 21) ["blocks"]) (ES:zfn Z) (T:Txt Z.mg):zdS Z:=by
 refine' okQ D (fnS (N:=["blocks","runs","block","low","high"]) (by decide +kernel)) rfl fun f cdv A outer s H E G=>⟨_,(Jb (Uj (i:=1) (ndB rfl) rfl (dA rfl) (Jz Ja)) (Jb (QM bO rfl (QG (Jl (zeq G T.srt (dlv 0) Jr))) (dgv 2 (ndB rfl)) (Jc (Jw (Qb (YT (Qc (Yb 1)) (YV (Jp Qo Qk (dl (Jj (dlv 2) dli)) (dl (Jj (dl (Jj (Yb 1) (dl (U9 Je)))) dli)) (Jh _))))) (Jb (QR (Jj (Yb 1) (dl (U9 Je))) (JJ rfl (Jm (dgv 3 (ndB rfl)) (Jm (dgv 4 (ndB rfl)) JK)))) (Jc (zti 1 (U9 Je) (Js (dbv 3 (dbc (JA (VB rfl) Z4 T.max Vz (Ji (dlv 4) (Ji (dl (Jd ES G (dbv 2 Ja))) Jo Q9) Jr)) Ja)))))) (Jc (Qe 1 (Js (dbc (Jj (dlv 2) dli) (dbc (Jd ES G (dbv 2 Ja)) Ja)))))))) (Uc 1 (Jc (Jg (Jk 1)))))),?_⟩
 intro ts n R hl h;obtain⟨bits,bs,t,rfl,ht,b0,b1,B,l,h⟩:=h
 wp_walk
 refine zli ht b1 B l fun cs pm pw=>?_
 have Bc:Bks bits cs:=fun b C=>B b (pm.mem_iff.mp C)
 have lc:=pm.length_eq;refine Z1 1 2 3 4 (fun k a1 _ _ _ m=>m=n/\∃rs:List (Int×Int),a1=some (.own (pD rs))/\NR rs/\(∀x,mR x rs↔mB x (cs.take k))/\rs.length<=k/\∀r∈rs,∀b∈cs.drop k,r.1<=b.1) ⟨rfl,[],rfl,⟨(fun r G=>nomatch G),.nil⟩,(fun x=>⟨fun z=>absurd z Qn,fun z=>absurd z YQ⟩),az _,fun r G=>nomatch G⟩ ?_ ?_
 ·rintro k t' a1 a2 a3 a4 m K RT BK et ⟨rfl,rs,rfl,J,S,lr,lo⟩ hK hRT hBK;obtain⟨i,g,eb,rfl⟩:=Um et;have kl:=(aA.mp eb).1;have Bb:=Bc _ (aV eb);have g0:0<=g:=Bb.1;have g1:g<=bits:=Bb.2.1;have pg:=QB g.toNat;have tk:cs.take (k+1)=cs.take k++[(i,g)]:=by rw[dz,eb];rfl
  have Y:cs.drop k=(i,g)::cs.drop (k+1):=by
   rw[cf kl];congr 1;have:=aI kl;rw[eb]at this;exact(aJ this).symm
  have after:∀b∈cs.drop (k+1),i<=b.1:=fun b C=>by
   have:cs.Pairwise fun a b=>a.1<=b.1:=pw
   have:=(this.sublist (i7 k cs));rw[Y]at this;exact(c8.mp this).1 b C
  have m1:∀x,mB x (cs.take (k+1))↔mB x (cs.take k)\/(i<=x/\x<i+2 ^ g.toNat):=fun x=>by
   rw[tk,YO,zhM];constructor
   ·rintro(z|z|z)
    ·exact .inl z
    ·exact .inr z
    ·exact absurd z YQ
   ·rintro(z|z)
    ·exact .inl z
    ·exact .inr (.inl z)
  have new:(∀r∈rs,r.2<i)->∀c2 c3 c4,K [some (.val t),some (.own (pD rs++[.tuple [.int i,.int (i+2 ^ g.toNat)]])),c2,c3,c4] m:=fun hlt c2 c3 c4 =>
   hK _ _ _ _ _ ⟨rfl,rs++[(i,i+2 ^ g.toNat)],by rw[<- Q4],⟨fun r G=>by
    rcases aE.mp G with z|z
    ·exact J.1 r z
    ·cases aC.mp z;show i<i+2 ^ g.toNat;lia,by
    rw[bR];exact⟨J.2,cx _ _,fun a ha b C=>by cases aC.mp C;exact hlt a ha⟩⟩,(fun x=>by
    rw[Ul,S,m1,JQ];constructor
    ·rintro(z|z|z)
     ·exact .inl z
     ·exact .inr z
     ·exact absurd z Qn
    ·rintro(z|z)
     ·exact .inl z
     ·exact .inr (.inl z)),by simp;lia,fun r G b C=>by
    rcases aE.mp G with z|z
    ·exact lo r z b (by rw[Y];simp[C])
    ·cases aC.mp z;exact after b C⟩
  rcases List.eq_nil_or_concat rs with rfl|⟨I,r,rfl⟩
  ·wp_walk using zfU g0 (by lia) ?_
   ·show 0<16777216;decide
   ·exact new (fun r G=>nomatch G) _ _ _
   ·exact absurd hc (by simp[pD])
  ·rw[List.concat_eq_append]at *;have sn:pD (I++[r])=pD I++[.tuple [.int r.1,.int r.2]]:=by simp[pD]
   have lr':I.length+1<=k:=by simpa using lr
   have r12:=J.1 r (by simp)
   have rlo:r.1<=i:=lo r (by simp) (i,g) (by rw[Y];simp)
   have L:=bR.mp J.2;rw[sn]at new ⊢
   wp_walk using znz ?_,zfU g0 (by lia) ?_
   all_goals first
    | (exfalso;simp at hc;done)
    | (exfalso;rename_i y;simp at y;done)
    | (simp[Ju];lia)
    | skip
   ·refine zrc ziR ?_
    wp_walk
    rw[List.set_append_right _ _ (az _),kP];have mx:(if i+2 ^ g.toNat > r.2 then i+2 ^ g.toNat else r.2)=max r.2 (i+2 ^ g.toNat):=by split <;> lia
    refine hK _ _ _ _ _ ⟨rfl,I++[(r.1,max r.2 (i+2 ^ g.toNat))],?_,⟨fun s hs=>?_,?_⟩,fun x=>?_,by simp;lia,fun s hs b C=>?_⟩
    ·rw[mx];simp[pD]
    ·rcases aE.mp hs with z|z
     ·exact J.1 s (by simp[z])
     ·cases aC.mp z;show r.1<max r.2 _;lia
    ·rw[bR];exact⟨L.1,cx _ _,fun a ha b C=>by cases aC.mp C;exact L.2.2 a ha r (by simp)⟩
    ·have U:=S x;rw[Ul,JQ]at U;rw[Ul,JQ,m1,<- U];have nn:=Qn (x:=x);show _\/(r.1<=x/\x<max r.2 (i+2 ^ g.toNat))\/_↔_
     constructor
     ·rintro(z|z|z)
      ·exact .inl (.inl z)
      ·by_cases w:x<r.2
       ·exact .inl (.inr (.inl ⟨z.1,w⟩))
       ·exact .inr (by lia)
      ·exact absurd z nn
     ·rintro((z|z|z)|z)
      ·exact .inl z
      ·exact .inr (.inl (by lia))
      ·exact absurd z nn
      ·exact .inr (.inl (by lia))
    ·rcases aE.mp hs with z|z
     ·exact lo s (by simp[z]) b (by rw[Y];simp[C])
     ·cases aC.mp z;exact lo r (by simp) b (by rw[Y];simp[C])
   ·refine new (fun s hs=>?_) _ _ _
    rcases aE.mp hs with z|z
    ·have:=L.2.2 s z r (by simp);have:=J.1 r (by simp);lia
    ·cases aC.mp z;lia
 ·rintro a1 a2 a3 a4 m ⟨rfl,rs,rfl,J,S,lr,lo⟩;rw[Ju]at S lr;rw[cN]at S
  wp_walk
  exact h rs J (fun x=>by rw[S x,zk5 pm]) (by lia)
def zi3:GD:=fun ts n R=>∃(bits:Int) (bs:qB) (t:af),ts=[t]/\(t=.list (pD bs)\/t=.tuple (pD bs))/\0<=bits/\bits<=64/\Bks bits bs/\bs.length<64/\∀ps,CanP (fun x=>mB x bs) ps->ps.length<=bs.length->R (.tuple (pD ps)) n
theorem zn4{bits:Int}{bs:qB}{t:af}{n:Nat}{R:qN}(v:t=.list (pD bs)\/t=.tuple (pD bs))(y:0<=bits)(C:bits<=64)(B:Bks bits bs)(l:bs.length<64)(h:∀ps,CanP (fun x=>mB x bs) ps->ps.length<=bs.length->R (.tuple (pD ps)) n):zi3 [t] n R:=⟨bits,bs,t,rfl,v,y,C,B,l,h⟩
def zio(Z:ZZ):Prop:=FQ Z "fewest" (top 10) ["blocks"] 5 (spD Z.K 1 zi3)
theorem zkU(D:Dq Z.K Z.mg "fewest" (top 10) ["blocks"]) (U:zcX Z) (S:zdS Z) (T:Txt Z.mg):zio Z:=by
 refine' okQ D (fnS (N:=["blocks"]) (by decide +kernel)) rfl fun f L A outer s H E G=>⟨_,(Jc (Jg (Jd U G (dbc (Jd S G (dbv 0 Ja)) Ja)))),?_⟩
 intro ts n R hl h;obtain⟨bits,bs,t,rfl,J,u,v,B,l,h⟩:=h
 wp_walk using zhd J u v B l (fun rs I y Y=>?_)
 have w:=Zs u v I y fun x hx=>Zx u B hx
 wp_walk using zfb w ?_ (fun ps P=>?_)
 ·lia
 ·have C:CanP (fun x=>mB x bs) ps:=⟨rs,I,y,P⟩
  exact h ps C (C.le u B)
def zb1:GD:=fun ts n R=>∃(rs:qB) (top:Int),ts=[.list (pD rs),.int top]/\NR rs/\(∀r∈rs,0<=r.1)/\0<=top/\rs.length<=100000/\∀(gs:qB) (B:Int),NR gs->(∀x,mR x gs↔0<=x/\x<B/\¬mR x rs)->gs.length<=rs.length+1->top<=B->(B=top\/∃r∈rs,B=r.2)->R (.list (pD gs)) n
theorem zfT{rs:qB}{top:Int}{n:Nat}{R:qN}(u:NR rs)(w:∀r∈rs,0<=r.1)(t0:0<=top)(l:rs.length<=100000)(h:∀(gs:qB) (B:Int),NR gs->(∀x,mR x gs↔0<=x/\x<B/\¬mR x rs)->gs.length<=rs.length+1->top<=B->(B=top\/∃r∈rs,B=r.2)->R (.list (pD gs)) n):zb1 [.list (pD rs),.int top] n R:=⟨rs,top,rfl,u,w,t0,l,h⟩
theorem zhg{rs:qB}{top:Int}{n:Nat}{R:qN}(y:NR rs)(w:∀r∈rs,0<=r.1/\r.2<=top)(t0:0<=top)(l:rs.length<=100000)(h:∀gs,NR gs->(∀x,mR x gs↔0<=x/\x<top/\¬mR x rs)->gs.length<=rs.length+1->R (.list (pD gs)) n):zb1 [.list (pD rs),.int top] n R:=zfT y (fun r u=>(w r u).1) t0 l fun gs B C v G J I=>by
 have:B=top:=by
  rcases I with e|⟨r,u,e⟩
  ·exact e
  ·have:=(w r u).2;lia
 subst this;exact h gs C v G
def zdc(Z:ZZ):Prop:=FQ Z "gaps_below" (top 22) ["runs","top"] 1 (spD Z.K 2 zb1)
theorem zfu(D:Dq Z.K Z.mg "gaps_below" (top 22) ["runs","top"]) (T:Txt Z.mg):zdc Z:=by
 refine' okQ D (fnS (N:=["runs","top","gaps","begin","low","high"]) (by decide +kernel)) rfl fun f cdv A outer s H E C=>⟨_,(Jb (Uj (i:=2) (ndB rfl) rfl (dA rfl) (Jz Ja)) (Jb (dsv 3 (ndB rfl) Je) (Jb (QM bO rfl (zot (Jk 0)) (JJ rfl (Jm (dgv 4 (ndB rfl)) (Jm (dgv 5 (ndB rfl)) JK))) (Jb (Jw (Jp (Qp C) Qm (dlv 3) (dlv 4) (Jh _)) (Jc (Qe 2 (Js (dbv 3 (dbv 4 Ja))))) Jy) (Jc (dsv 3 (ndB rfl) (Jk 5))))) (Jb (Jw (Jp (Qp C) Qm (dlv 3) (dlv 1) (Jh _)) (Jc (Qe 2 (Js (dbv 3 (dbv 1 Ja))))) Jy) (Uc 2 (Jc (Jg (Jk 2)))))))),?_⟩
 intro ts n R hl h;obtain⟨rs,top,rfl,nr,w,t0,l,h⟩:=h
 wp_walk
 refine Z1 2 3 4 5 (fun k a2 a3 _ _ m=>m=n/\∃(gs:qB) (G:Int),a2=some (.own (pD gs))/\a3=some (.val (.int G))/\NR gs/\(∀x,mR x gs↔0<=x/\x<G/\¬mR x (rs.take k))/\gs.length<=k/\0<=G/\(G=0\/∃r∈rs,G=r.2)/\(∀r∈rs.take k,r.2<=G)/\(∀g∈gs,g.2<G)/\(∀r∈rs.drop k,(k=0/\G=0/\G<=r.1)\/G<r.1)) ⟨rfl,[],0,rfl,rfl,⟨(fun r C=>nomatch C),.nil⟩,(fun x=>⟨fun z=>absurd z Qn,fun z=>by lia⟩),az _,aX _,.inl rfl,(fun r C=>nomatch C),(fun r C=>nomatch C),fun r C=>.inl ⟨rfl,rfl,w r C⟩⟩ ?_ ?_
 ·rintro k t' a2 a3 a4 a5 m K RT BK et ⟨rfl,gs,G,rfl,rfl,J,S,lg,be0,U,ti,gl,dr⟩ hK hRT hBK;obtain⟨lo,hi,Y,rfl⟩:=Um et;have kl:=(aA.mp Y).1;have mr:=aV Y;have L:=nr.1 _ mr;have L:lo<hi:=L;have wr:=w _ mr;have wr1:0<=lo:=wr;have tk:rs.take (k+1)=rs.take k++[(lo,hi)]:=by rw[dz,Y];rfl
  have dk:rs.drop k=(lo,hi)::rs.drop (k+1):=by
   rw[cf kl];congr 1;have:=aI kl;rw[Y]at this;exact(aJ this).symm
  have after:∀r∈rs.drop (k+1),hi<r.1:=fun r C=>by
   have:=(nr.2.sublist (i7 k rs));rw[dk]at this;exact(c8.mp this).1 r C
  have here:=dr (lo,hi) (by rw[dk];simp)
  have here:G<=lo:=by rcases here with z|z;exact z.2.2;exact iq z
  have mt:∀x,mR x (rs.take (k+1))↔mR x (rs.take k)\/(lo<=x/\x<hi):=fun x=>by
   rw[tk,Ul,JQ];constructor
   ·rintro(z|z|z)
    ·exact .inl z
    ·exact .inr z
    ·exact absurd z Qn
   ·rintro(z|z)
    ·exact .inl z
    ·exact .inr (.inl z)
  have old:∀x,G<=x->¬mR x (rs.take k):=fun x hx ⟨r,C,h1,h2⟩=>by have:=ti r C;lia
  have go:∀(I:qB) (c4 c5:Option Cell),NR I->(∀x,mR x I↔mR x gs\/(G<=x/\x<lo))->I.length<=k+1->(∀g∈I,g.2<hi)->K [some (.val (.list (pD rs))),some (.val (.int top)),some (.own (pD I)),some (.val (.int hi)),c4,c5] m:=fun I c4 c5 n' m' l' g' =>
   hK _ _ _ _ _ ⟨rfl,I,hi,rfl,rfl,n',(fun x=>by
    rw[m',S,mt];have ox:=old x;constructor
    ·rintro(⟨a,b,c⟩|⟨a,b⟩)
     ·exact⟨a,by lia,fun z=>z.elim c fun z=>by lia⟩
     ·exact⟨by lia,by lia,fun z=>z.elim (ox a) fun z=>by lia⟩
    ·rintro⟨a,b,c⟩
     by_cases y:x<G
     ·exact .inl ⟨a,y,fun z=>c (.inl z)⟩
     ·refine .inr ⟨by lia,?_⟩
      by_cases u:x<lo
      ·exact u
      ·exact absurd (.inr ⟨by lia,b⟩) c),l',by lia,.inr ⟨_,mr,rfl⟩,(fun r C=>by
    rw[tk]at C;rcases aE.mp C with z|z
    ·have:=ti r z;lia
    ·cases aC.mp z;exact aX _),g',fun r C=>.inr (after r C)⟩
  wp_walk
  ·rw[Ju];lia
  ·rw[Q4];refine go (gs++[(G,lo)]) _ _ ⟨fun r C=>?_,?_⟩ (fun x=>?_) (by simp;lia) fun g hg=>?_
   ·rcases aE.mp C with z|z
    ·exact J.1 r z
    ·cases aC.mp z;exact hc
   ·rw[bR];exact⟨J.2,cx _ _,fun a ha b hb=>by cases aC.mp hb;exact gl a ha⟩
   ·rw[Ul,JQ];constructor
    ·rintro(z|z|z)
     ·exact .inl z
     ·exact .inr z
     ·exact absurd z Qn
    ·rintro(z|z)
     ·exact .inl z
     ·exact .inr (.inl z)
   ·rcases aE.mp hg with z|z
    ·have:=gl g z;lia
    ·cases aC.mp z;exact L
  ·refine go gs _ _ J (fun x=>⟨.inl,fun z=>z.elim id fun z=>by lia⟩) (by lia) fun g hg=>?_
   have:=gl g hg;lia
 ·rintro a2 a3 a4 a5 m ⟨rfl,gs,G,rfl,rfl,J,S,lg,be0,U,ti,gl,dr⟩;rw[Ju]at S lg ti;rw[cN]at S ti;have old:∀x,G<=x->¬mR x rs:=fun x hx ⟨r,C,h1,h2⟩=>by have:=ti r C;lia
  wp_walk
  ·rw[Ju];lia
  ·rw[Q4];refine h (gs++[(G,top)]) top ⟨fun r C=>?_,?_⟩ (fun x=>?_) (by simp;lia) (aX _) (.inl rfl)
   ·rcases aE.mp C with z|z
    ·exact J.1 r z
    ·cases aC.mp z;exact hc
   ·rw[bR];exact⟨J.2,cx _ _,fun a ha b hb=>by cases aC.mp hb;exact gl a ha⟩
   ·rw[Ul,JQ,S];have ox:=old x;constructor
    ·rintro(⟨a,b,c⟩|z|z)
     ·exact⟨a,by lia,c⟩
     ·exact⟨by have:=z.1;lia,z.2,ox z.1⟩
     ·exact absurd z Qn
    ·rintro⟨a,b,c⟩
     by_cases y:x<G
     ·exact .inl ⟨a,y,c⟩
     ·exact .inr (.inl ⟨by show G<=x;lia,b⟩)
  ·refine h gs G J S (by lia) (by lia) ?_
   rcases U with z|z
   ·exact .inl (by lia)
   ·exact .inr z
def zgY:GD:=fun ts n R=>∃(bits:Int) (ps:qB),ts=[.int bits,.tuple (pD ps)]/\1<=bits/\bits<=64/\Bks bits ps/\ps.length<64/\∀v,CanP (fun x=>0<=x/\x<2 ^ bits.toNat/\¬mB x ps) v->v.length<=130*(ps.length+1)->R (.tuple (pD v)) n
theorem zl4{bits:Int}{ps:qB}{n:Nat}{R:qN}(y:1<=bits)(C:bits<=64)(B:Bks bits ps)(l:ps.length<64)(h:∀v,CanP (fun x=>0<=x/\x<2 ^ bits.toNat/\¬mB x ps) v->v.length<=130*(ps.length+1)->R (.tuple (pD v)) n):zgY [.int bits,.tuple (pD ps)] n R:=⟨bits,ps,rfl,y,C,B,l,h⟩
def zga(Z:ZZ):Prop:=FQ Z "rest_of" (top 12) ["bits","patch"] 5 (spD Z.K 2 zgY)
theorem zjz(D:Dq Z.K Z.mg "rest_of" (top 12) ["bits","patch"]) (EN:zcX Z) (Y:zdc Z) (U:zdS Z) (T:Txt Z.mg):zga Z:=by
 refine' okQ D (fnS (N:=["bits","patch"]) (by decide +kernel)) rfl fun f L A outer s H E u=>⟨_,(Jc (Jg (Jd EN u (dbc (Jd Y u (dbc (Jd U u (dbv 1 Ja)) (dbc (JV dli (dlv 0)) Ja))) Ja)))),?_⟩
 intro ts n R hl h;obtain⟨bits,ps,rfl,b0,y,B,l,h⟩:=h
 wp_walk using zhd (.inr rfl) (by lia) y B l (fun rs G C lr=>?_)
 ·exact cpow (by lia) (by lia)
 have w:=Zs (by lia) y G C fun x hx=>Zx (by lia) B hx
 have wt:∀r∈rs,0<=r.1/\r.2<=1*2 ^ bits.toNat:=fun r u=>by
  have lt:=G.1 r u;have:=Zx (by lia) B ((C (r.2 - 1)).mp ⟨r,u,by lia,by lia⟩)
  have:=(w r u).1;rw[JX];lia
 have tp:=QB bits.toNat
 wp_walk using zhg G wt (by lia) (by lia) (fun gs J mg lg=>?_)
 have v:∀x,mR x gs↔0<=x/\x<2 ^ bits.toNat/\¬mB x ps:=fun x=>by rw[mg,JX,C]
 have I:=Zs (by lia) y J v fun x hx=>⟨hx.1,hx.2.1⟩
 wp_walk using zfb I ?_ (fun S P=>?_)
 ·lia
 ·have:=P.len fun r u=>⟨(I r u).1,(I r u).2.2⟩
  exact h S ⟨gs,J,v,P⟩ (by lia)
def zb2:GD:=fun ts n R=>∃xs:List (af×af),ts=[.tuple (ppD xs)]/\xs.length<=1000000/\R (.tuple (xs.map (·.1))) n
theorem zhh{xs:List (af×af)}{n:Nat}{R:qN}(l:xs.length<=1000000)(h:R (.tuple (xs.map (·.1))) n):zb2 [.tuple (ppD xs)] n R:=⟨xs,rfl,l,h⟩
def zdd(Z:ZZ):Prop:=FQ Z "all_blocks" (top 26) ["pairs"] 1 (spD Z.K 1 zb2)
theorem zfv(D:Dq Z.K Z.mg "all_blocks" (top 26) ["pairs"]) (T:Txt Z.mg):zdd Z:=by
 refine' okQ D (fnS (N:=["pairs"]) (by decide +kernel)) rfl fun f x A outer s H E I=>⟨_,(Jc (Jg (Qg Ua Q6 T.tup QN (Ji (dl (Jl (dnc ["block","name"] [] (dil (QL (Jk 0))) (fun _ _ _ _=>(JJ rfl (Jm (dgv 0 (ndB rfl)) (Jm (dgv 1 (ndB rfl)) JK)))) (fun _ _ _ _=>(Jk 0))))) Jo UP)))),?_⟩
 intro ts n R J h;obtain⟨xs,rfl,l,h⟩:=h
 wp_walk
 refine Ub (cs:=xs) (D:=fun p=>.tuple [p.1,p.2]) (fun p=>p.1) (by lia) ?_ ?_
 ·intro p G C y v
  wp_walk
  exact v
 ·wp_walk
  exact h
def zcw:GD:=fun ts n R=>∃(d:Deal) (nm:af),ts=[dlD d,nm]/\Qt nm/\(∀p∈d.2.2,IsNm p.2)/\d.2.2.length<=1000000/\R (.tuple (pD (JT d nm))) n
theorem zh2{d:Deal}{nm:af}{n:Nat}{R:qN}(hw:Qt nm)(v:∀p∈d.2.2,IsNm p.2)(l:d.2.2.length<=1000000)(h:R (.tuple (pD (JT d nm))) n):zcw [dlD d,nm] n R:=⟨d,nm,rfl,hw,v,l,h⟩
def zdT(Z:ZZ):Prop:=FQ Z "kept_from" (top 28) ["deal","name"] 1 (spD Z.K 2 zcw)
theorem zgk(D:Dq Z.K Z.mg "kept_from" (top 28) ["deal","name"]) (T:Txt Z.mg):zdT Z:=by
 refine' okQ D (fnS (N:=["deal","name"]) (by decide +kernel)) rfl fun f G A outer s H E J=>⟨_,(Jc (Jg (Qg Ua Q6 T.tup QN (Ji (dl (Jl (dnf ["block","theirs"] [1] (dil (QL (Jj (dlv 0) dli))) (fun _ _ _ _=>(JJ rfl (Jm (dgv 0 (ndB rfl)) (Jm (dgv 1 (ndB rfl)) JK)))) (fun _ _ _ _=>(UL (Jp (QU J) QQ (dlv 1) (dlv 2) (Jh _)))) (fun _ _ _ _=>(Jk 0))))) Jo UP)))),?_⟩
 intro ts n R U h;obtain⟨d,nm,rfl,hw,C,l,h⟩:=h;obtain⟨bits,os,v⟩:=d;have l:v.length<=1000000:=l;have C:∀p∈v,IsNm p.2:=C;rw[show dlD (bits,os,v)=.tuple [.int bits,.tuple (oD os),.tuple (oD v)] from rfl]
 wp_walk
 refine UY (cs:=v) (D:=fun p=>.tuple [prD p.1,.str p.2]) (fun p=>!who p.2 nm) (fun p=>prD p.1) (by lia) ?_ ?_
 ·intro p I S L x y;rcases hw with rfl|⟨s,rfl,ns⟩
  ·wp_walk
   ·exact(YB (C p I)).okd
   ·exact x rfl
  ·wp_walk
   ·exact y (by show(!decide (p.2=s))=false;rw[decide_eq_true hc];rfl)
   ·exact x (by show(!decide (p.2=s))=true;rw[decide_eq_false hc];rfl)
 ·wp_walk
  have:((v.filter fun p=>!who p.2 nm).map fun p=>prD p.1)=pD (JT (bits,os,v) nm):=by
   unfold pD JT;rw[cB];rfl
  rw[this];exact h
def Free(d:Deal)(nm:af)(x:Int):Prop:=0<=x/\x<2 ^ d.1.toNat/\¬mB x (d.2.1.map (·.1))/\¬mB x (JT d nm)
theorem zeY{d:Deal}{nm:af}:∀b∈JT d nm,b∈d.2.2.map (·.1):=fun b u=>by
 obtain⟨p,l,rfl⟩:=ba.mp u;exact ba.mpr ⟨p,(cU.mp l).1,rfl⟩
theorem zeZ{d:Deal}{nm:af}:(JT d nm).length<=d.2.2.length:=by
 unfold JT;rw[aL];exact dY _ _
def ze4:GD:=fun ts n R=>∃(d:Deal) (nm:af),ts=[dlD d,nm]/\Dl d/\Qt nm/\d.2.1.length+d.2.2.length<64/\∀v,CanP (Free d nm) v->v.length<=130*(d.2.1.length+d.2.2.length+1)->R (.tuple (pD v)) n
theorem zjU{d:Deal}{nm:af}{n:Nat}{R:qN}(D:Dl d)(hw:Qt nm)(l:d.2.1.length+d.2.2.length<64)(h:∀v,CanP (Free d nm) v->v.length<=130*(d.2.1.length+d.2.2.length+1)->R (.tuple (pD v)) n):ze4 [dlD d,nm] n R:=⟨d,nm,rfl,D,hw,l,h⟩
def zeV(Z:ZZ):Prop:=FQ Z "free_for" (top 25) ["deal","name"] 6 (spD Z.K 2 ze4)
theorem zhI(D:Dq Z.K Z.mg "free_for" (top 25) ["deal","name"]) (Hs:zga Z) (HE:zio Z) (E3:zdd Z) (E9:zdT Z) (T:Txt Z.mg):zeV Z:=by
 refine' okQ D (fnS (N:=["deal","name","bits","outs","kept"]) (by decide +kernel)) rfl fun f cdv A outer s H E G=>⟨_,(Jb (QR (Jk 0) (JJ rfl (Jm (dgv 2 (ndB rfl)) (Jm (dgv 3 (ndB rfl)) (Jm (dgv 4 (ndB rfl)) JK))))) (Jc (Jg (Jd Hs G (dbv 2 (dbc (Jd HE G (dbc (JH (dl (Jd E3 G (dbv 3 Ja))) (dl (Jd E9 G (dbv 0 (dbv 1 Ja))))) Ja)) Ja)))))),?_⟩
 intro ts n R hl h;obtain⟨d,nm,rfl,D,hw,l,h⟩:=h;obtain⟨bits,os,v⟩:=d;obtain⟨L,y,J,I,ag⟩:=D;have L:1<=bits:=L;have y:bits<=64:=y;have J:Shr bits os:=J;have I:Shr bits v:=I;have l:os.length+v.length<64:=l;have S:=zeZ (d:=(bits,os,v)) (nm:=nm);have S:(JT (bits,os,v) nm).length<=v.length:=S;have eo:(os.map fun p=>(prD p.1,fF p.2)).map (·.1)=pD (os.map (·.1)):=by simp[pD]
 have B:Bks bits (os.map (·.1)++JT (bits,os,v) nm):=fun b hb=>by
  rcases aE.mp hb with z|z
  ·exact J.1.1 b z
  ·exact I.1.1 b (zeY b z)
 rw[show dlD (bits,os,v)=.tuple [.int bits,.tuple (oD os),.tuple (oD v)] from rfl]
 have kf:∀{n:Nat} {R:qN},R (.tuple (pD (JT (bits,os,v) nm))) n->zcw [.tuple [.int bits,.tuple (oD os),.tuple (oD v)],nm] n R:=fun {n R} z=>zh2 (d:=(bits,os,v)) hw (fun p hp=>I.2 p hp) (by show v.length<=_;lia) z
 have ab:∀{n:Nat} {R:qN},R (.tuple (pD (os.map (·.1)))) n->zb2 [.tuple (oD os)] n R:=fun {n R} z=>by
  rw[zu8];exact zhh (by simp;lia) (by rw[eo];exact z)
 wp_walk using kf ?_,ab ?_
 ·rw[Ju,Ju,aL];lia
 rw[Zz]
 wp_walk using zn4 (.inr rfl) (by lia) y B ?_ (fun ps C U=>?_)
 ·simp;lia
 have U:ps.length<=os.length+v.length:=by rw[bw,aL]at U;lia
 have Bp:=(C.ptc (bits:=bits) (by lia) fun x hx=>Zx (by lia) B hx).1
 wp_walk using zl4 L y Bp (by lia) (fun Y Q lq=>?_)
 refine h Y ?_ (by show Y.length<=130*(os.length+v.length+1);lia)
 obtain⟨rs,r1,r2,r3⟩:=Q;refine⟨rs,r1,fun x=>?_,r3⟩
 rw[r2];show(0<=x/\x<2 ^ bits.toNat/\¬mB x ps)↔Free (bits,os,v) nm x
 rw[C.mem,YO];show _↔0<=x/\x<2 ^ bits.toNat/\¬mB x (os.map (·.1))/\¬mB x (JT (bits,os,v) nm)
 constructor
 ·rintro⟨a,b,c⟩;exact⟨a,b,fun z=>c (.inl z),fun z=>c (.inr z)⟩
 ·rintro⟨a,b,c,e⟩;exact⟨a,b,fun z=>z.elim c e⟩
def htD(bits:Int):af->Bool|.int i=>decide (0<=i)&&decide (i<=bits)|_=>false
def zef:GD:=fun ts n R=>∃(bits:Int) (d:af),ts=[.int bits,d]/\Pln d/\R (.bool (htD bits d)) n
theorem zh3{bits:Int}{d:af}{n:Nat}{R:qN}(p:Pln d)(h:R (.bool (htD bits d)) n):zef [.int bits,d] n R:=⟨bits,d,rfl,p,h⟩
def zdU(Z:ZZ):Prop:=FQ Z "is_height" (top 33) ["bits","thing"] 2 (spD Z.K 2 zef)
theorem zgl(D:Dq Z.K Z.mg "is_height" (top 33) ["bits","thing"]) (x:Vw Z) (T:Txt Z.mg):zdU Z:=by
 refine' okQ D (fnS (N:=["bits","thing"]) (by decide +kernel)) rfl fun f u A outer s H E v=>⟨_,(Jc (Jg (YU (Jd x v (dbv 1 Ja)) (Ui (Vj Qo Qk Qo Qk dli (dlv 1) (dlv 0)))))),?_⟩
 intro ts n R y h;obtain⟨bits,d,rfl,p,h⟩:=h;cases d with
 | int i =>
  have h:R (.bool (decide (0<=i)&&decide (i<=bits))) n:=h
  wp_walk using Ud (b:=true) rfl p ?_
  ·rw[decide_eq_true hc,df]at h;exact h
  ·rw[decide_eq_false hc,cj]at h;exact h
 | _ =>
  wp_walk using Ud (b:=false) rfl p ?_
  exact h
def adD(bits:Int):af->Bool|.int i=>decide (0<=i)&&decide (i<2 ^ bits.toNat)|_=>false
def zdm:GD:=fun ts n R=>∃(bits:Int) (d:af),ts=[.int bits,d]/\0<=bits/\bits<=64/\Pln d/\R (.bool (adD bits d)) n
theorem zhf{bits:Int}{d:af}{n:Nat}{R:qN}(u:0<=bits)(v:bits<=64)(p:Pln d)(h:R (.bool (adD bits d)) n):zdm [.int bits,d] n R:=⟨bits,d,rfl,u,v,p,h⟩
def zdb(Z:ZZ):Prop:=FQ Z "is_address" (top 34) ["bits","thing"] 2 (spD Z.K 2 zdm)
theorem zft(D:Dq Z.K Z.mg "is_address" (top 34) ["bits","thing"]) (x:Vw Z) (T:Txt Z.mg):zdb Z:=by
 refine' okQ D (fnS (N:=["bits","thing"]) (by decide +kernel)) rfl fun f v A outer s H E u=>⟨_,(Jc (Jg (YU (Jd x u (dbv 1 Ja)) (Ui (Vj Qo Qk (Qp u) Qm dli (dlv 1) (dl (JV dli (dlv 0)))))))),?_⟩
 intro ts n R C h;obtain⟨bits,d,rfl,G,y,p,h⟩:=h;cases d with
 | int i =>
  have h:R (.bool (decide (0<=i)&&decide (i<2 ^ bits.toNat))) n:=h
  wp_walk using Ud (b:=true) rfl p ?_
  all_goals first
   | exact cpow (by lia) (by lia)
   | skip
  ·rw[decide_eq_true hc,df]at h;rw[JX];exact h
  ·rw[decide_eq_false hc,cj]at h;exact h
 | _ =>
  wp_walk using Ud (b:=false) rfl p ?_
  exact h
def ptD(bits:Int)(k:Str)(d:af):Bool:=if k=ae "height" then htD bits d else if k=ae "address" then adD bits d else Q1 bits d
def zgZ:GD:=fun ts n R=>∃(bits:Int) (k:Str) (d:af),ts=[.int bits,.str k,d]/\0<=bits/\bits<=64/\PlnD d/\R (.bool (ptD bits k d)) n
theorem zl5{bits:Int}{k:Str}{d:af}{n:Nat}{R:qN}(u:0<=bits)(v:bits<=64)(p:PlnD d)(h:R (.bool (ptD bits k d)) n):zgZ [.int bits,.str k,d] n R:=⟨bits,k,d,rfl,u,v,p,h⟩
theorem zrj{d:af}(h:PlnD d):Pl2 d:=⟨h.pln,fun ts e t u=>by subst e;exact(h.tup.2 t u).pln⟩
def zgb(Z:ZZ):Prop:=FQ Z "is_part" (top 32) ["bits","kind","thing"] 3 (spD Z.K 3 zgZ)
theorem zjA(D:Dq Z.K Z.mg "is_part" (top 32) ["bits","kind","thing"]) (C:zeU Z) (I:zdU Z) (y:zdb Z) (T:Txt Z.mg):zgb Z:=by
 refine' okQ D (fnS (N:=["bits","kind","thing"]) (by decide +kernel)) rfl fun f G A outer s H E l=>⟨_,(Jb (Jw (Jp (Qy l) Qv (dlv 1) (dl Qi) (Jh _)) (Jc (Jg (Jd I l (dbv 0 (dbv 2 Ja))))) Jy) (Jb (Jw (Jp (Qy l) Qv (dlv 1) (dl Qi) (Jh _)) (Jc (Jg (Jd y l (dbv 0 (dbv 2 Ja))))) Jy) (Jc (Jg (Jd C l (dbv 0 (dbv 2 Ja))))))),?_⟩
 intro ts n R J h;obtain⟨bits,k,d,rfl,x,v,p,h⟩:=h;unfold ptD at h
 wp_walk using zh3 p.pln ?_,zhf x v p.pln ?_,zjT x v (zrj p) ?_
 ·rw[if_pos hc]at h;exact h
 ·rename_i u;rw[if_neg u,if_pos hc]at h;exact h
 ·rename_i u;rw[if_neg u,if_neg hc]at h;exact h
def Yg:List (Str×List Str):=[(ae "take",[ae "height"]),(ae "near",[ae "height",ae "address"]),(ae "give",[ae "block"]),(ae "grow",[ae "block"]),(ae "keep",[ae "block"]),(ae "loose",[ae "block"]),(ae "move",[ae "block",ae "block"])]
def hEq:List af->Bool
 | [.tuple [_,.int g],.tuple [_,.int h]]=>decide (g=h)
 | _=>false
def prtD(bits:Int)(w:Str)(ps:qD):Bool:=match getT Yg w with
 | none=>false
 | some u=>decide (ps.length=u.length)&&((u.zip ps).all fun q=>ptD bits q.1 q.2)&&(decide (w≠ae "move")||hEq ps)
def dedD(bits:Int):af->Bool
 | .tuple (.str w::nm::ps)=>nmD nm&&prtD bits w ps
 | _=>false
def zg1:GD:=fun ts n R=>∃(bits:Int) (d:af),ts=[.int bits,d]/\0<=bits/\bits<=64/\PlnD d/\R (.bool (dedD bits d)) n
theorem zl6{bits:Int}{d:af}{n:Nat}{R:qN}(u:0<=bits)(v:bits<=64)(p:PlnD d)(h:R (.bool (dedD bits d)) n):zg1 [.int bits,d] n R:=⟨bits,d,rfl,u,v,p,h⟩
theorem zhn{bits:Int}{d:af}(h:Q1 bits d=true):∃b g:Int,d=.tuple [.int b,.int g]:=by
 unfold Q1 at h;split at h
 ·exact⟨_,_,rfl⟩
 ·cases h
theorem zmu{l:List Str}{ps:qD}:zipD (l.map fF) ps=(l.zip ps).map fun q=>iz [.str q.1,q.2]:=by
 unfold zipD;rw[List.zip_map_left,cB]
 rfl
theorem zkx{bits:Int}{d:af}:ptD bits (ae "block") d=Q1 bits d:=by
 unfold ptD;rw[if_neg (by decide +kernel),if_neg (by decide +kernel)]
theorem zpq:getT Yg (ae "move")=some [ae "block",ae "block"]:=by decide +kernel
def zgd(Z:ZZ):Prop:=FQ Z "is_deed" (top 31) ["bits","thing"] 4 (spD Z.K 2 zg1)
theorem zjC(D:Dq Z.K Z.mg "is_deed" (top 31) ["bits","thing"]) (Y:zgc Z) (Hu:zgb Z) (L:StD Z.P Z.w Z.K Z.mg "PARTS" Yg) (T:Txt Z.mg):zgd Z:=by
 refine' okQ D (fnS (N:=["bits","thing","word","name","parts","kinds"]) (by decide +kernel)) rfl fun f cdv A outer s H E y=>⟨_,(Jb (Jw (Qb (Qu (Qj (Qc (dl (Yj ziY T.isi T.tup QN (dlv 1) Jr)))) (QS (Jp (Qp y) Qm (dl (JA Ur Uk T.len Q7 (Ji (dlv 1) Jo Jr))) dli (Jh _))))) (Jc (Jg QP)) Jy) (Jb (zp0 (i:=2) (j:=3) (k:=4) rfl (ndB rfl) rfl rfl rfl (dA rfl) (dA rfl) (dA rfl) (Jk 1)) (Jb (Jw (Qb (Qu (Qj (Qc (dl (Yj zor T.isi T.str zhk (dlv 2) Jr)))) (Qu (zpZ L (Jk 2)) (QS (Qj (Qc (dl (Jd Y y (dbv 3 Ja))))))))) (Jc (Jg QP)) Jy) (Jb (dsv 5 (ndB rfl) (zp8 L (Jk 2))) (Jb (Jw (Jp (QU y) QQ (dl (JA Ur Uk T.len Q7 (Ji (dlv 4) Jo Jr))) (dl (JA Ur Uk T.len Q7 (Ji (dlv 5) Jo Jr))) (Jh _)) (Jc (Jg QP)) Jy) (Jb (Jw (Qj (Qc (dl (JA (VA rfl) Z2 T.all Vy (Ji (dl (Jl (dnc ["kind","part"] [0] (dil (ztk T.zip (Jk 5) (Jk 4))) (fun _ _ _ _=>(JJ rfl (Jm (dgv 0 (ndB rfl)) (Jm (dgv 1 (ndB rfl)) JK)))) (fun _ _ _ _=>(Jd Hu y (dbv 2 (dbv 0 (dbv 1 Ja)))))))) Jo UP))))) (Jc (Jg QP)) Jy) (Jc (Jg (zov (Qx (QU y) QQ (dlv 2) (dl Qi) (Jh _)) (Ui (Qx (Qy y) Qv (dl (Jj (dl (Jj (dlv 4) dli)) dli)) (dl (Jj (dl (Jj (dlv 4) dli)) dli)) (Jh _)))))))))))),?_⟩
 intro ts n R hl h;obtain⟨bits,d,rfl,b0,S,p,h⟩:=h;cases d with
 | dict C =>
  cases C with
  | nil =>
   wp_walk
   exact h
  | cons a b=>exact absurd rfl p.pln
 | tuple ts =>
  obtain⟨l6,G⟩:=p.tup
  match ts,G,h with
  | [],_,h =>
   wp_walk
   all_goals first|exact h|(exfalso;simp at hc;done)
  | [x],_,h =>
   have e:dedD bits (.tuple [x])=false:=by unfold dedD;split <;> simp_all
   rw[e]at h
   wp_walk
   all_goals first|exact h|(exfalso;simp at hc;done)
  | x::nm::ps,G,h =>
   have pn:=G nm (by simp)
   cases x with
   | str w =>
    have e:dedD bits (.tuple (.str w::nm::ps))=(nmD nm&&prtD bits w ps):=rfl;rw[e]at h;unfold prtD at h;cases g:getT Yg w with
    | none =>
     rw[g]at h;simp only[gH]at h
     wp_walk using zhe pn ?_
     all_goals first|exact h|(exfalso;simp at hc;done)|(exfalso;rw[g]at *;simp at *;done)
    | some C =>
     rw[g]at h;dsimp only at h
     wp_walk using zhe pn ?_
     ·exfalso;simp at hc;lia
     ·rename_i h1 h2;rw[hc,df]at h;refine⟨C,g,?_⟩
      wp_walk
      ·have I:ps.length=C.length:=by simp at hc;lia
       rw[decide_eq_true I,df]at h;rw[zmu];refine Ub (cs:=C.zip ps) (D:=fun q:Str×af=>iz [.str q.1,q.2]) (fun q=>.bool (ptD bits q.1 q.2)) (by rw[kS];simp at l6;lia) ?_ ?_
       ·intro q hq K2 X2 J;have pq:=G q.2 (by have:=(cV hq).2;simp[this])
        wp_walk using zl5 b0 S pq ?_
        exact J
       ·wp_walk using ZJ ?_
        ·rename_i v;subst hc;rw[v,df,decide_eq_false (fun z:ae "move" ≠ ae "move"=>z rfl),Bool.false_or]at h
         rw[zpq]at g;cases g
         match ps,I,v,h with
         | [p0,p1],_,v,h =>
          simp only[iH,mG,List.all_cons,List.all_nil,gY,aF,zkx]at v;obtain⟨b',g',rfl⟩:=zhn v.1;obtain⟨b'',g'',rfl⟩:=zhn v.2
          wp_walk
          exact h
        ·rename_i v;rw[v,df,decide_eq_true hc,Bool.true_or]at h;exact h
        ·rw[hc,cj]at h;exact h
      ·have I:¬ps.length=C.length:=by simp at hc;lia
       rw[decide_eq_false I,cj,cj]at h;exact h
     ·rw[hc,cj]at h;exact h
     ·exfalso;rw[g]at hc;cases hc
   | dict ds =>
    have U:=G _ (cL ..);cases ds with
    | nil =>
     have h:R (.bool false) n:=h
     wp_walk
     all_goals first|exact h|(exfalso;simp at hc;lia)
    | cons a b=>exact absurd rfl U.pln
   | _ =>
    have h:R (.bool false) n:=h
    wp_walk
    all_goals first|exact h|(exfalso;simp at hc;lia)
 | _ =>
  wp_walk
  exact h
def zeg:GD:=fun ts n R=>∃(v:qB) (h:Int),ts=[.tuple (pD v),.int h]/\v.length<=1000000/\((∀q∈v,q.2<h)->R .none n)/\∀q∈v,h<=q.2->(∀p∈v,h<=p.2->q.2<p.2\/(q.2=p.2/\q.1<=p.1))->R (.tuple [.int q.1,.int h]) n
theorem zh4{v:qB}{h:Int}{n:Nat}{R:qN}(l:v.length<=1000000)(h0:(∀q∈v,q.2<h)->R .none n)(x:∀q∈v,h<=q.2->(∀p∈v,h<=p.2->q.2<p.2\/(q.2=p.2/\q.1<=p.1))->R (.tuple [.int q.1,.int h]) n):zeg [.tuple (pD v),.int h] n R:=⟨v,h,rfl,l,h0,x⟩
def zdV(Z:ZZ):Prop:=FQ Z "first_fit" (top 53) ["free","height"] 1 (spD Z.K 2 zeg)
theorem zgm(D:Dq Z.K Z.mg "first_fit" (top 53) ["free","height"]) (T:Txt Z.mg):zdV Z:=by
 refine' okQ D (fnS (N:=["free","height","fits","tall","begin"]) (by decide +kernel)) rfl fun f y A outer s H E I=>⟨_,(Jb (Va (Vk (i:=2) (ndB rfl) rfl (dA rfl) (own:=["begin","tall"]) (capt:=[1]) rfl (JG.of rfl) (dil (QL (Jk 0))) (fun _ _ _ _=>(JJ rfl (Jm (dgv 0 (ndB rfl)) (Jm (dgv 1 (ndB rfl)) JK)))) (by decide) (fun _ _ _ _=>(UL (Jp zo8 gp_B (dlv 1) (dlv 2) (Jh _)))) (fun _ _ _ _=>(Js (dbv 1 (dbv 0 Ja)))))) (Jb (Jw (Qj (Qc (dlv 2))) (Jc (Jg QK)) Jy) (Jb (QR (JA (zlZ I rfl) zpR T.min UQ (Ji (dlv 2) Jo Jr)) (JJ rfl (Jm (dgv 3 (ndB rfl)) (Jm (dgv 4 (ndB rfl)) JK)))) (Jc (Jg (Js (dbv 4 (dbv 1 Ja)))))))),?_⟩
 intro ts n R hl h;obtain⟨u,h,rfl,l,h0,G⟩:=h
 wp_walk
 refine UY (cs:=u) (D:=prD) (fun q=>decide (h<=q.2)) (fun q=>prD (q.2,q.1)) (by lia) ?_ ?_
 ·intro q v K X U hX
  wp_walk
  ·exact U (decide_eq_true hc)
  ·exact hX (decide_eq_false hc)
 ·have e:(lx (fun q:Int×Int=>prD (q.2,q.1)) (u.filter fun q=>decide (h<=q.2)))=pD ((u.filter fun q=>decide (h<=q.2)).map fun q=>(q.2,q.1)):=by
   unfold pD;rw[cB];rfl
  have x:∀q,q∈(u.filter fun q=>decide (h<=q.2))↔q∈u/\h<=q.2:=fun q=>by rw[cU,decide_eq_true_eq]
  wp_walk
  ·refine h0 fun q v=>?_
   rw[List.isEmpty_iff,lQ]at hc;have:=x q;rw[hc]at this;have no:¬h<=q.2:=fun z=>nomatch this.mpr ⟨v,z⟩
   lia
  ·rw[e];refine zsj (fun z=>?_) fun b S J=>?_
   ·rw[lQ]at z;rw[z]at hc;cases hc
   ·obtain⟨q,v,rfl⟩:=ba.mp S;obtain⟨Y,L⟩:=(x q).mp v
    wp_walk
    refine G q Y L fun p C hh=>?_
    have:=J (p.2,p.1) (ba.mpr ⟨p,(x p).mpr ⟨C,hh⟩,rfl⟩);rw[dG,Ne,pLt_iff]at this;dsimp only at this;lia
def zg2:GD:=fun ts n R=>∃(d:Deal) (nm:af) (h:Int),ts=[dlD d,nm,.int h]/\Dl d/\Qt nm/\d.2.1.length+d.2.2.length<64/\d.2.1.length+d.2.2.length<=1000/\∀v,CanP (Free d nm) v->v.length<=130*(d.2.1.length+d.2.2.length+1)->((∀q∈v,q.2<h)->R .none n)/\∀q∈v,h<=q.2->(∀p∈v,h<=p.2->q.2<p.2\/(q.2=p.2/\q.1<=p.1))->R (.tuple [.int q.1,.int h]) n
theorem zl7{d:Deal}{nm:af}{h:Int}{n:Nat}{R:qN}(D:Dl d)(hw:Qt nm)(l:d.2.1.length+d.2.2.length<64)(l2:d.2.1.length+d.2.2.length<=1000)(k:∀v,CanP (Free d nm) v->v.length<=130*(d.2.1.length+d.2.2.length+1)->((∀q∈v,q.2<h)->R .none n)/\∀q∈v,h<=q.2->(∀p∈v,h<=p.2->q.2<p.2\/(q.2=p.2/\q.1<=p.1))->R (.tuple [.int q.1,.int h]) n):zg2 [dlD d,nm,.int h] n R:=⟨d,nm,h,rfl,D,hw,l,l2,k⟩
def zge(Z:ZZ):Prop:=FQ Z "fitting" (top 52) ["deal","name","height"] 7 (spD Z.K 3 zg2)
theorem zjD(D:Dq Z.K Z.mg "fitting" (top 52) ["deal","name","height"]) (G:zdV Z) (I:zeV Z) (T:Txt Z.mg):zge Z:=by
 refine' okQ D (fnS (N:=["deal","name","height"]) (by decide +kernel)) rfl fun f y A outer s H E v=>⟨_,(Jc (Jg (Jd G v (dbc (Jd I v (dbv 0 (dbv 1 Ja))) (dbv 2 Ja))))),?_⟩
 intro ts n R J h;obtain⟨d,nm,h,rfl,D,hw,l,l2,k⟩:=h
 wp_walk using zjU D hw l (fun x C u=>?_),zh4 ?_ ?_ ?_
 ·lia
 ·exact(k x C u).1
 ·exact(k x C u).2
def exO(os:List NP)(nm:Str)(gs cs:BL):List NP:=(os.filter fun p=>decide (p.1∉gs))++cs.map fun b=>(b,nm)
theorem zox{gs:BL}{b:Int×Int}:((pD gs).any fun t=>t.eqv (prD b))=decide (b∈gs):=by
 rw[e9,List.any_eq_true,decide_eq_true_eq];constructor
 ·rintro⟨t,u,e⟩;obtain⟨c,hc,rfl⟩:=ba.mp u;have:c=b:=by simpa[prD,dW,gZ,tv] using e
  exact this▸hc
 ·intro l;exact⟨prD b,ba.mpr ⟨b,l,rfl⟩,by simp[prD,dW,gZ]⟩
def zeh:GD:=fun ts n R=>∃(d:Deal) (nm:Str) (gs cs:BL),ts=[dlD d,.str nm,.tuple (pD gs),.tuple (pD cs)]/\d.2.1.length+cs.length<64/\d.2.1.length+cs.length<=1000/\gs.length<=1000 /\
 ∀rs:List NP,rs.Perm (exO d.2.1 nm gs cs)->rs.Pairwise (fun a b=>npRk rs a<=npRk rs b)->R (dlD (d.1,rs,d.2.2)) n
theorem zh5{d:Deal}{nm:Str}{gs cs:BL}{n:Nat}{R:qN}(l:d.2.1.length+cs.length<64)(v:d.2.1.length+cs.length<=1000)(l2:gs.length<=1000)(h:∀rs:List NP,rs.Perm (exO d.2.1 nm gs cs)->rs.Pairwise (fun a b=>npRk rs a<=npRk rs b)->R (dlD (d.1,rs,d.2.2)) n):zeh [dlD d,.str nm,.tuple (pD gs),.tuple (pD cs)] n R:=⟨d,nm,gs,cs,rfl,l,v,l2,h⟩
def zdW(Z:ZZ):Prop:=FQ Z "exchanged" (top 55) ["deal","name","gone","come"] 1 (spD Z.K 4 zeh)
theorem zgn(D:Dq Z.K Z.mg "exchanged" (top 55) ["deal","name","gone","come"]) (T:Txt Z.mg):zdW Z:=by
 refine' okQ D (fnS (N:=["deal","name","gone","come","bits","outs","kept","staying"]) (by decide +kernel)) rfl fun f L A outer s H E C=>⟨_,(Jb (QR (Jk 0) (JJ rfl (Jm (dgv 4 (ndB rfl)) (Jm (dgv 5 (ndB rfl)) (Jm (dgv 6 (ndB rfl)) JK))))) (Jb (Va (Vk (i:=7) (ndB rfl) rfl (dA rfl) (own:=["pair"]) (capt:=[2]) rfl (JG.of rfl) (dil (QL (Jk 5))) (fun _ _ _ _=>(dgv 0 (ndB rfl))) (by decide) (fun _ _ _ _=>(UL (Jp (zkM C) znM (dl (Jj (dlv 0) dli)) (dlv 1) rfl))) (fun _ _ _ _=>(Jk 0)))) (Jc (Jg (Js (dbv 4 (dbc (Qg Ua Q6 T.tup QN (Ji (dl (Jl (zep C T.srt (dl (Jl (Yc (dlv 7) (dl (Jl (dnc ["block"] [1] (dil (QL (Jk 3))) (fun _ _ _ _=>(dgv 0 (ndB rfl))) (fun _ _ _ _=>(Js (dbv 0 (dbv 1 Ja)))))))))) UJ))) Jo Q9)) (dbv 6 Ja)))))))),?_⟩
 intro ts n R hl h;obtain⟨⟨bits,os,G⟩,nm,gs,cs,rfl,l,I,l2,h⟩:=h;have l:os.length+cs.length<64:=l;have I:os.length+cs.length<=1000:=I;have e:dlD (bits,os,G)=.tuple [.int bits,.tuple (oD os),.tuple (oD G)]:=rfl;rw[e]
 wp_walk
 refine UY (cs:=os) (D:=fun p=>.tuple [prD p.1,.str p.2]) (fun p=>decide (p.1∉gs)) (fun p=>.tuple [prD p.1,.str p.2]) (by lia) ?_ ?_
 ·intro p hp Y U v y
  wp_walk
  ·exact Y2
  ·intro t J;obtain⟨b,_,rfl⟩:=ba.mp J;exact Y2
  ·rw[zox]at hc;exact y (by simpa using hc)
  ·rw[zox]at hc;exact v (by simpa using hc)
 ·wp_walk
  refine Ub (cs:=cs) (D:=prD) (fun b=>.tuple [prD b,.str nm]) (by lia) ?_ ?_
  ·intro b hb K X S
   wp_walk
   exact S
  ·have lf:(os.filter fun p=>decide (p.1∉gs)).length<=os.length:=dY ..
   wp_walk
   ·simp only[aL];lia
   refine⟨exO os nm gs cs,?_,?_,fun x pm pw=>?_⟩
   ·simp only[oD,exO,eu,cB];rfl
   ·simp only[exO,aL,bw];lia
   ·wp_walk
    exact h x pm (pw.imp fun {a b} h=>by unfold npRk at h ⊢;rw[(pm.filter _).length_eq,(pm.filter _).length_eq];exact h)
def zls:GX:=fun ts n R x=>∃(d:Deal) (w:af) (nm:Str) (h:Int),ts=[dlD d,.tuple [w,.str nm,.int h]]/\Dl d/\IsNm nm/\d.2.1.length+d.2.2.length+1<64/\d.2.1.length+d.2.2.length<=900/\∀v,CanP (Free d (.str nm)) v->((∀q∈v,q.2<h)->x (ae "NoRoom") n) /\
 ∀q∈v,h<=q.2->(∀p∈v,h<=p.2->q.2<p.2\/(q.2=p.2/\q.1<=p.1))->∀rs:List NP,rs.Perm (d.2.1++[((q.1,h),nm)])->rs.Pairwise (fun a b=>npRk rs a<=npRk rs b)->R (.tuple [dlD (d.1,rs,d.2.2),.tuple [.int q.1,.int h]]) n
theorem zpW{os:List NP}{nm:Str}{cs:BL}:exO os nm [] cs=os++cs.map fun b=>(b,nm):=by simp[exO]
def zog(Z:ZZ):Prop:=FQX Z "take" (top 43) ["deal","deed"] 8 2 zls
theorem zpb(D:Dq Z.K Z.mg "take" (top 43) ["deal","deed"]) (G:zge Z) (x:zdW Z) (S:OwnE Z.K Z.mg "NoRoom") (T:Txt Z.mg):zog Z:=by
 refine' okX D (fnS (N:=["deal","deed","name","height","block"]) (by decide +kernel)) rfl fun f y A outer s H E u=>⟨_,(Jb (QR (zet (dlv 1) (Yl Je) Yk) (JJ rfl (Jm (dgv 2 (ndB rfl)) (Jm (dgv 3 (ndB rfl)) JK)))) (Jb (dsv 4 (ndB rfl) (Jd G u (dbv 0 (dbv 2 (dbv 3 Ja))))) (Jb (Jw (Jp YC Yw (dlv 4) (dl QK) (Jh _)) (Jc (zi8 S)) Jy) (Jc (Jg (Js (dbc (Jd x u (dbv 0 (dbv 2 (dbc (Js Ja) (dbc (Js (dbv 4 Ja)) Ja))))) (dbv 4 Ja)))))))),?_⟩
 intro ts n R Rx hl h;obtain⟨d,w,nm,h,rfl,D,L,l,l2,k⟩:=h
 wp_walk
 rw[show cutD [w,.str nm,.int h] (some 1) none=[.str nm,.int h] from rfl]
 have hw:Qt (.str nm):=.inr ⟨nm,rfl,L⟩
 wp_walk using zl7 D hw ?_ ?_ (fun v C Y=>?_)
 ·lia
 ·lia
 ·intro no
  wp_walk
  ·exact(k v C).1 no
  ·exact absurd hc (by simp[isNone])
 ·intro q I U J
  wp_walk
  ·exact absurd hc (by simp[isNone])
  ·refine zh5 (d:=d) (nm:=nm) (gs:=[]) (cs:=[(q.1,h)]) (by simp;lia) (by simp;lia) (by simp) fun rs pm pw=>?_
   wp_walk
   exact(k v C).2 q I U J rs (by rw[zpW]at pm;exact pm) pw
theorem zoB:getT Yg (ae "take")=some [ae "height"]:=by decide +kernel
theorem znX{bits h:Int}{nm:Str}(x:IsNm nm)(h0:0<=h)(v:h<=bits):dedD bits (.tuple [.str (ae "take"),.str nm,.int h])=true:=by
 show(nmD (.str nm)&&prtD bits (ae "take") [.int h])=true
 rw[show nmD (.str nm)=true from zpn.mpr x,df]
 unfold prtD;rw[zoB];have e:htD bits (.int h)=true:=by simp[htD,h0,v]
 simp[ptD,e];exact .inl (by decide +kernel)
theorem zrR{nm:Str}(l:IsNm nm):nm.length<=1000000:=by
 have:=l.2.1;lia
def Yd:GX:=fun ts n R v=>∃(d:Deal) (nm:Str) (h:Int),ts=[dlD d,.tuple [.str (ae "take"),.str nm,.int h]]/\Dl d/\IsNm nm/\0<=h/\h<=d.1/\zls ts n R v
theorem zk2{ts:qD}{n:Nat}{R x:qN}{X G:Str->Nat->Prop}(h:Yd ts n R X)(L:∀t m,R t m->x t m)(hX:∀c m,X c m->G c m):Yd ts n x G:=by
 obtain⟨d,nm,k,e,D,U,h0,I,d',w,v,k',J,Y,u,l,l2,z⟩:=h;exact⟨d,nm,k,e,D,U,h0,I,d',w,v,k',J,Y,u,l,l2,fun y C=>⟨fun no=>hX _ _ ((z y C).1 no),fun q S hh N rs pm pw=>L _ _ ((z y C).2 q S hh N rs pm pw)⟩⟩
def zkw(Z:ZZ):Prop:=FQX Z "done" (top 51) ["deal","deed"] 9 2 Yd
theorem zpd(D:Dq Z.K Z.mg "done" (top 51) ["deal","deed"]) (J:zog Z) (L:zgd Z) (S:OwnE Z.K Z.mg "NoDeed") (U:StF Z.P Z.w Z.K Z.mg "DEEDS" ["take","near","give","grow","keep","loose","move"]) (T:Txt Z.mg):zkw Z:=by
 refine' okX D (fnS (N:=["deal","deed","act"]) (by decide +kernel)) rfl fun f G A outer s H E v=>⟨_,(Jb (Jw (Qj (Qc (dl (Jd L v (dbc (Jj (dlv 0) dli) (dbv 1 Ja)))))) (Jc (zi8 S)) Jy) (znT (i:=2) U (.cons J Ux.nil) v (ndB rfl) (Jj (dlv 1) dli) (dbv 0 (dbv 1 Ja)))),?_⟩
 intro ts n R Rx Y h;obtain⟨d,nm,h,rfl,D,y,h0,I,k⟩:=h;obtain⟨bits,os,x⟩:=d;have b0:1<=bits:=D.1;have C:bits<=64:=D.2.1;have pl:PlnD (.tuple [.str (ae "take"),.str nm,.int h]):=zmV (by simp) (zd5 (zir (by decide +kernel)) (zd5 (zir (zrR y)) (zd5 zmX zmW)))
 rw[show dlD (bits,os,x)=.tuple [.int bits,.tuple (oD os),.tuple (oD x)] from rfl]at k ⊢
 wp_walk
 refine zl6 (by lia) C pl ?_
 rw[znX y h0 I]
 wp_walk
 ·rfl
 refine⟨_,.head _,rfl,?_⟩
 wp_walk
 exact k
theorem scH:Q8 ["_law_script","_law_k","_law_cell"] ["_law_script","_law_k"] (JE (top 57)):=⟨rfl,rfl,rfl,by decide +kernel,rfl,by decide +kernel,by decide +kernel⟩
theorem zgs{f:ak}{fd:cD}(D:Def K mg "_law_hand" (top 57) ["_law_script","_law_k"] f fd) (T:Txt mg):FnOk P w K mg base CX0 1 f fd ["_law_script","_law_k"] (ZA K):=by
 refine D.F.ok scH (fun C H Q E h=>?_) (fun y A outer s H C Q E I h=>?_)
 ·obtain⟨a,ns,k,rfl,_⟩:=h
  rfl
 ·obtain⟨a,ns,k,rfl,u,J,k0,k1,q⟩:=h;refine⟨_,Qr (QA (i:=2) scH.nd rfl (dA rfl) JD)
   (Qr (zoP (zhA zrH (pv 1) (Uf zhc T.len Q7 (pb_v 0 Qz)) (Jh _)) (UO (QA (i:=2) scH.nd rfl (dA rfl) (Ug Uv (pv 0) (pv 1) (fun _ _=>rfl)))) zhB)
   (UO (YK (zkF (zok (JB QT (pv 2) (zrw Y5 T.int boot_int (zrz (zkH zo8 (pv 2) (JB zrE JD JD) (Jh _)) Qz)))
    (zok (JB Q3 (JB Q3 (JB UK (pv 2) JD) (JB QT JD (pv 1))) JD) (pb_i Qz))))))),?_⟩
  refine⟨_,rfl,_,rfl,a,_,rfl,.inl u,_,_,rfl,rfl,_,rfl,?_⟩;have fin:∀c:Int,tRet (tLst (QE (tOp (rI CMul fun i j=>V.int (i*j)) (tVar 2) (tCB (fun xs H Q=>(∃i,xs=[.int i]/\Q (.int i) H)\/∃k,xs=[.bl k]/\Q (.int (if k then 1 else 0)) H) (QE (tOp (rI0 fun i j=>.bl (decide (j<=i))) (tVar 2) (tOp (rI CPow fun i j=>.int (i ^ j.toNat)) (tC (.int 10)) (tC (.int 18)))) tNil)))
    (QE (tOp (rI0 fun i j=>.int (i+j)) (tOp (rI0 fun i j=>.int (i+j)) (tOp (rI (fun _ j=>0<j) fun i j=>.int (i % j)) (tVar 2) (tC (.int 2305843009213693951))) (tOp (rI CMul fun i j=>V.int (i*j)) (tC (.int 7919)) (tVar 1))) (tC (.int 3))) (QE (tC (.int 0)) tNil))))
    { nx:=fun _ x=>Q .non x,rt:=Q } [some (.ref a),some (.int k),some (.int c)] H:=by
   intro c;refine⟨_,rfl,_,rfl,_,_,rfl,rfl,⟨by decide,by decide,by decide⟩,_,_,rfl,rfl,.inr ⟨_,rfl,_,_,rfl,rfl,.inr ?_,?_⟩⟩
   ·split <;> decide
   ·refine⟨_,rfl,_,_,rfl,rfl,(by show(0:Int)<2305843009213693951;decide),_,rfl,_,_,rfl,rfl,.inl ⟨by decide,by decide⟩,_,_,rfl,rfl,_,_,rfl,rfl,(by show 3<=sizeLine;decide),fun l v=>?_⟩
    refine q l _ v ⟨_,_,_,JM,?_,?_,aX _,aX _⟩ (zmD v)
    ·lia
    ·lia
  refine zsC (fun c=>?_) (fun c=>?_)
  ·have G:k.toNat<ns.length:=by rw[aL]at c;lia
   refine⟨_,rfl,_,rfl,a,_,_,V.int (ns[k.toNat]),rfl,rfl,u,?_,?_⟩
   ·exact zeD k0 (by rw[aU,aI G];rfl)
   ·exact fin _
  ·exact fin 0
def zdZ(Z:ZZ):Prop:=FQ Z "_law_hand" (top 57) ["_law_script","_law_k"] 1 (ZA Z.K)
theorem zfs(D:Dq Z.K Z.mg "_law_hand" (top 57) ["_law_script","_law_k"]) (T:Txt Z.mg):zdZ Z:=by
 obtain⟨f,fd,D⟩:=D;exact⟨f,fd,D,zgs D T⟩
theorem zf8{H:Hp}{hd:ak}{o:HO}:ztz hd H (upd H hd o):=fun b u e n=>by rw[Jn n];exact e
theorem scT:Q8 ["_law_hand_here","_law_many","_law_digit","_law_turn","_law_mixed","_law_other"] ["_law_hand_here","_law_many"] (JE (top 58)):=⟨rfl,rfl,rfl,by decide +kernel,rfl,by decide +kernel,by decide +kernel⟩
theorem zm4{f:ak}{fd:cD}(D:Def K mg "_law_take" (top 58) ["_law_hand_here","_law_many"] f fd) (T:Txt mg):FnOk P w K mg base CX0 1 f fd ["_law_hand_here","_law_many"] zob:=by
 refine D.F.ok scT (fun C H Q E h=>?_) (fun y A outer s H C Q E I h=>?_)
 ·obtain⟨hd,many,n,rfl,_⟩:=h
  rfl
 ·obtain⟨hd,many,n,rfl,⟨d,m,t,u,m0,x,t0,t1⟩,J,v,G,q⟩:=h;refine⟨_,Qr (zoP (zhA QX (Ug Uv (pv 0) JD (fun _ _=>rfl)) JD (Jh _))
    (Qr (QA (i:=2) scT.nd rfl (dA rfl) (JB UK (Ug Uv (pv 0) JD (fun _ _=>rfl)) (pv 1)))
    (Qr (YJ (JB Vq (Ug Uv (pv 0) JD (fun _ _=>rfl)) (pv 1)) (pg_sub (pv 0) JD set_list))
    (UO (YK (pv 2))))) zhB)
   (Qr (YJ (JB Q3 (Ug Uv (pv 0) JD (fun _ _=>rfl)) JD) (pg_sub (pv 0) JD set_list))
   (Qr (QA (i:=3) scT.nd rfl (dA rfl) (Ug Uv (pv 0) JD (fun _ _=>rfl)))
   (Qr (QA (i:=4) scT.nd rfl (dA rfl) (JB UK (JB QT (Ug Uv (pv 0) JD (fun _ _=>rfl)) (JB Q3 (JB Q3 JD (JB QT (JB QT JD (pv 3)) (pv 3))) (JB QT JD (pv 3)))) JD))
   (Qr (QA (i:=5) scT.nd rfl (dA rfl) (JB Q3 (JB Q3 (JB UK (pv 4) JD) (JB QT (pv 3) JD)) JD))
   (Qr (QA (i:=4) scT.nd rfl (dA rfl) (JB UK (JB QT (pv 4) (pv 5)) JD))
   (UO (YK (JB UK (JB Q3 (JB Vq (pv 4) JD) (JB Vq (pv 4) JD)) (pv 1))))))))),?_⟩
  refine⟨_,rfl,hd,_,_,_,rfl,rfl,.of u,rfl,_,_,rfl,rfl,_,rfl,?_⟩;refine zsC (fun c=>?_) (fun c=>?_)
  ·refine⟨_,rfl,hd,_,_,_,rfl,rfl,.of u,rfl,_,rfl,_,_,rfl,rfl,v,?_⟩;refine⟨_,rfl,hd,_,_,_,rfl,rfl,.of u,rfl,_,rfl,_,_,rfl,rfl,⟨v,G⟩,?_⟩;refine⟨_,rfl,hd,_,_,0,rfl,rfl,u,rfl,?_⟩;refine⟨_,rfl,?_⟩;exact q _ _ (ia _ (by lia)) (gf _ v) ⟨_,_,_,JM,m0,x,t0,by lia⟩ zf8
  ·refine⟨_,rfl,hd,_,_,_,rfl,rfl,.of u,rfl,_,_,rfl,rfl,?_⟩;refine⟨_,rfl,hd,_,_,2,rfl,rfl,u,rfl,?_⟩;refine⟨_,rfl,hd,_,_,_,rfl,rfl,.of JM,rfl,?_⟩;refine⟨_,rfl,hd,_,_,_,rfl,rfl,.of JM,rfl,_,rfl,_,_,rfl,rfl,.inl ⟨by decide,by decide⟩,_,rfl,_,_,rfl,rfl,.inr ⟨by lia,by lia⟩,_,_,rfl,rfl,_,rfl,_,_,rfl,rfl,.inl ⟨by decide,by decide⟩,_,_,rfl,rfl,_,_,rfl,rfl,.inl ⟨by lia,by lia⟩,_,_,rfl,rfl,(by show(0:Int)<2305843009213693921;decide),?_⟩
   refine⟨_,rfl,_,_,rfl,rfl,(by show(0:Int)<1000003;decide),_,rfl,_,_,rfl,rfl,.inr ⟨by decide,by decide⟩,_,_,rfl,rfl,_,_,rfl,rfl,?_⟩
   refine⟨_,rfl,_,rfl,_,_,rfl,rfl,.inl ⟨by lia,by lia⟩,_,_,rfl,rfl,(by show(0:Int)<2305843009213693907;decide),?_⟩
   refine⟨_,rfl,_,_,rfl,rfl,⟨by decide,by decide⟩,_,rfl,_,_,rfl,rfl,⟨by decide,by decide⟩,_,_,rfl,rfl,_,rfl,_,_,rfl,rfl,v,?_⟩
   exact q _ _ (ia _ (by lia)) (gf _ v) ⟨_,_,_,JM,m0,x,by lia,by lia⟩ zf8
theorem zgo{f:ak}{fd:cD}(D:Def K mg "_law_take" (top 58) ["_law_hand_here","_law_many"] f fd) (T:Txt mg):FnOk P w K mg base CX0 1 f fd ["_law_hand_here","_law_many"] (spD K 2 UG) :=
 (zm4 D T).imp zmB
def Uw(Z:ZZ):Prop:=FQ Z "_law_take" (top 58) ["_law_hand_here","_law_many"] 1 (spD Z.K 2 UG)
theorem zfr(D:Dq Z.K Z.mg "_law_take" (top 58) ["_law_hand_here","_law_many"]) (T:Txt Z.mg):Uw Z:=by
 obtain⟨f,fd,D⟩:=D;exact⟨f,fd,D,zgo D T⟩
def Yp:GD:=fun ts n R=>match ts with
 | [h,.list xs]=>h=HAND/\xs≠[]/\xs.length<=1000000/\n<=1000000000000/\∀x∈xs,R x (n+1)
 | [h,.tuple xs]=>h=HAND/\xs≠[]/\xs.length<=1000000/\n<=1000000000000/\∀x∈xs,R x (n+1)
 | _=>False
theorem Y3{xs:qD}{n:Nat}{R:qN}(h0:xs≠[])(u:xs.length<=1000000)(v:n<=1000000000000)(h:∀x∈xs,R x (n+1)):Yp [HAND,.list xs] n R:=⟨rfl,h0,u,v,h⟩
def UZ(Z:ZZ):Prop:=FQ Z "_law_pick" (top 59) ["_law_hand_here","_law_some"] 2 (spD Z.K 2 Yp)
theorem zgp(D:Dq Z.K Z.mg "_law_pick" (top 59) ["_law_hand_here","_law_some"]) (I:Uw Z) (T:Txt Z.mg):UZ Z:=by
 refine' okQ D (fnS (N:=["_law_hand_here","_law_some"]) (by decide +kernel)) rfl fun f x A outer s H E G=>⟨_,(Jc (Jg (Jj (dlv 1) (dl (Jd I G (dbv 0 (dbc (JA Ur Uk T.len Q7 (Ji (dlv 1) Jo Jr)) Ja))))))),?_⟩
 intro ts n R L h;unfold Yp at h;split at h
 ·rename_i hd xs;obtain⟨rfl,h0,C,u,h⟩:=h;have y:0<xs.length:=ic.mpr h0
  wp_walk using Q0 (by lia) (by lia) u (fun r v J=>?_)
  have l:r.toNat<xs.length:=by lia
  rw[Yz (zeD v (aI l))];exact h _ (cZ l)
 ·rename_i hd xs;obtain⟨rfl,h0,C,u,h⟩:=h;have y:0<xs.length:=ic.mpr h0
  wp_walk using Q0 (by lia) (by lia) u (fun r v J=>?_)
  have l:r.toNat<xs.length:=by lia
  rw[Ze (zeD v (aI l))];exact h _ (cZ l)
 ·exact h.elim
def zcy:GD:=fun ts n R=>match ts with
 | [h]=>h=HAND/\n<=1000000000000/\∀b:Int,1<=b->b<=64->R (.int b) (n+1)
 | _=>False
theorem zh9{n:Nat}{R:qN}(l:n<=1000000000000)(h:∀b:Int,1<=b->b<=64->R (.int b) (n+1)):zcy [HAND] n R:=⟨rfl,l,h⟩
def zd3(Z:ZZ):Prop:=FQ Z "_law_bits" (top 60) ["_law_hand_here"] 3 (spD Z.K 1 zcy)
theorem zgx(D:Dq Z.K Z.mg "_law_bits" (top 60) ["_law_hand_here"]) (y:UZ Z) (T:Txt Z.mg):zd3 Z:=by
 refine' okQ D (fnS (N:=["_law_hand_here"]) (by decide +kernel)) rfl fun f l A outer s H E v=>⟨_,(Jc (Jg (Jd y v (dbv 0 (dbc (Jl (Jz (dbc Je (dbc Je (dbc Je (dbc Je (dbc Je (dbc Je (dbc Je (dbc Je (dbc Je (dbc Je Ja)))))))))))) Ja))))),?_⟩
 intro ts n R C h;unfold zcy at h;split at h
 ·obtain⟨rfl,u,h⟩:=h;simp only[zj3,zj4,zj2,u_dC,zoz,zj8,zj6,zj7,zhw,zoA,zff,zj5,zld,Z9,ZD,ZE,ZF,Z8,ZG,Vh,ZH,Vg,Zq,oSub,oMul,oMod,U5,oShl,oXor,oAnd,isNone,isInt,isBool,isTup,isStr,l_gI,zpw,ZM,ZN,ZO,Za,Zc,Zb,Zk,Zm,Zl,Zd,Vm,Zh,Zf,Zg,ZS,ZU,ZV,ZQ,ZR,ZX,ZY,Y9,Zj,Zi,ZP,Vn,ZW,Ve,Vl,Ut,Us,UN,UR,UV,UW,UU,Vp,Y2,JY,JC,capV,cm,gv,aR,cK,cu,ig,dQ,eD,bM,eR,gk,iP,iQ,ik,ip,gA,Nat.reduceAdd,Nat.reduceSub,kP,true_and,and_true,aH,if_true,if_false,ite_true,ite_false,fj,gE,kA,Yp]
  refine⟨by simp,by decide,u,fun x hx=>?_⟩
  simp only[aw,aK,or_false]at hx;rcases hx with rfl|rfl|rfl|rfl|rfl|rfl|rfl|rfl|rfl|rfl <;> exact h _ (by decide) (by decide)
 ·exact h.elim
def zb3:GD:=fun ts n R=>match ts with
 | [h,.int bits]=>h=HAND/\1<=bits/\bits<=64/\n<=1000000000000 - 10/\∀i h:Int,IsBk bits i h->R (.tuple [.int i,.int h]) (n+3)
 | _=>False
theorem zds{bits:Int}{n:Nat}{R:qN}(v:1<=bits)(x:bits<=64)(y:n<=1000000000000 - 10)(h:∀i h:Int,IsBk bits i h->R (.tuple [.int i,.int h]) (n+3)):zb3 [HAND,.int bits] n R:=⟨rfl,v,x,y,h⟩
def zbX(Z:ZZ):Prop:=FQ Z "_law_block" (top 61) ["_law_hand_here","_law_bits_here"] 3 (spD Z.K 2 zb3)
theorem zfz(D:Dq Z.K Z.mg "_law_block" (top 61) ["_law_hand_here","_law_bits_here"]) (S:UZ Z) (y:Uw Z) (T:Txt Z.mg):zbX Z:=by
 refine' okQ D (fnS (N:=["_law_hand_here","_law_bits_here","_law_height"]) (by decide +kernel)) rfl fun f G A outer s H E v=>⟨_,(Jb (dsv 2 (ndB rfl) (JA (Y6 rfl) YM T.min UQ (Ji (dlv 1) (Ji (dl (Jd S v (dbv 0 (dbc (Jl (Jz (dbc Je (dbc Je (dbc Je (dbc Je (dbc Je (dbc Je (dbc (Jd y v (dbv 0 (dbc (JH (dlv 1) dli) Ja))) (dbv 1 Ja)))))))))) Ja)))) Jo Q9) Jr))) (Jc (Jg (Js (dbc (ZI (dl (Jd y v (dbv 0 (dbc (JV dli (dl (UE (dlv 1) (dlv 2)))) Ja)))) (dl (JV dli (dlv 2)))) (dbv 2 Ja)))))),?_⟩
 intro ts n R hl h;unfold zb3 at h;split at h
 ·rename_i hd bits;obtain⟨rfl,b0,U,hn,h⟩:=h;simp only[zj3,zj4,zj2,u_dC,zoz,zj8,zj6,zj7,zhw,zoA,zff,zj5,zld,Z9,ZD,ZE,ZF,Z8,ZG,Vh,ZH,Vg,Zq,oSub,oMul,oMod,U5,oShl,oXor,oAnd,isNone,isInt,isBool,isTup,isStr,l_gI,zpw,ZM,ZN,ZO,Za,Zc,Zb,Zk,Zm,Zl,Zd,Vm,Zh,Zf,Zg,ZS,ZU,ZV,ZQ,ZR,ZX,ZY,Y9,Zj,Zi,ZP,Vn,ZW,Ve,Vl,Ut,Us,UN,UR,UV,UW,UU,Vp,Y2,JY,JC,capV,cm,gv,aR,cK,cu,ig,dQ,eD,bM,eR,gk,iP,iQ,ik,ip,gA,Nat.reduceAdd,Nat.reduceSub,kP,true_and,and_true,aH,if_true,if_false,ite_true,ite_false,fj,gE,kA,Yp,UG]
  refine⟨by lia,by lia,by lia,fun r Y r1=>⟨by simp,by decide,by lia,fun x hx=>?_⟩⟩
  have I:∃b:Int,x=.int b/\0<=b:=by
   simp only[aw,aK,or_false]at hx;rcases hx with h|h|h|h|h|h|h|h <;> first|exact⟨_,h,by decide⟩|exact⟨_,h,by lia⟩
  obtain⟨b,rfl,bb⟩:=I;simp only[zj3,zj4,zj2,u_dC,zoz,zj8,zj6,zj7,zhw,zoA,zff,zj5,zld,Z9,ZD,ZE,ZF,Z8,ZG,Vh,ZH,Vg,Zq,oSub,oMul,oMod,U5,oShl,oXor,oAnd,isNone,isInt,isBool,isTup,isStr,l_gI,zpw,ZM,ZN,ZO,Za,Zc,Zb,Zk,Zm,Zl,Zd,Vm,Zh,Zf,Zg,ZS,ZU,ZV,ZQ,ZR,ZX,ZY,Y9,Zj,Zi,ZP,Vn,ZW,Ve,Vl,Ut,Us,UN,UR,UV,UW,UU,Vp,Y2,JY,JC,capV,cm,gv,aR,cK,cu,ig,dQ,eD,bM,eR,gk,iP,iQ,ik,ip,gA,Nat.reduceAdd,Nat.reduceSub,kP,true_and,and_true,aH,if_true,if_false,ite_true,ite_false,fj,gE,kA,UG]
  have key:∀m:Int,0<=m->m<=bits->(CPow 1 (bits - m)/\(0:Int)<1*2 ^ (bits - m).toNat/\1*2 ^ (bits - m).toNat<(2:Int) ^ 128/\n+1+1<=1000000000000/\∀r:Int,0<=r->r<1*2 ^ (bits - m).toNat->CPow 1 m/\CMul r (1*2 ^ m.toNat)/\R (.tuple [.int (r*(1*2 ^ m.toNat)),.int m]) (n+1+1+1)):=by
   intro m m0 L;have J:(1:Int)*2 ^ (bits - m).toNat=2 ^ (bits - m).toNat:=dw _;have C:(1:Int)*2 ^ m.toNat=2 ^ m.toNat:=dw _;rw[J,C];refine⟨cpow (by lia) (by lia),QB _,zkA (by lia),by lia,fun k k0 k1=>⟨cpow m0 (by lia),.inl ⟨by lia,?_⟩,?_⟩⟩
   ·have:=zfo (k:=(bits - m).toNat) (by lia);lia
   ·exact h _ m ⟨m0,L,k,k0,rfl,k1⟩
  exact key (if b<bits then b else bits) (by split <;> lia) (by split <;> lia)
 ·exact h.elim
def zei:GD:=fun ts n R=>∃bits i h:Int,ts=[HAND,.int bits,.tuple [.int i,.int h]]/\1<=bits/\bits<=64/\n<=1000000000000 - 100/\IsBk bits i h/\∀j g:Int,IsBk bits j g->R (.tuple [.int j,.int g]) (n+7)
theorem zeA{bits i h:Int}{n:Nat}{R:qN}(v:1<=bits)(x:bits<=64)(y:n<=1000000000000 - 100)(B:IsBk bits i h)(h':∀j g:Int,IsBk bits j g->R (.tuple [.int j,.int g]) (n+7)):zei [HAND,.int bits,.tuple [.int i,.int h]] n R:=⟨_,_,_,rfl,v,x,y,B,h'⟩
def zdY(Z:ZZ):Prop:=FQ Z "_law_near" (top 62) ["_law_hand_here","_law_bits_here","_law_block_here"] 4 (spD Z.K 3 zei)
theorem zgr(D:Dq Z.K Z.mg "_law_near" (top 62) ["_law_hand_here","_law_bits_here","_law_block_here"]) (L:UZ Z) (G:zbX Z) (T:Txt Z.mg):zdY Z:=by
 refine' okQ D (fnS (N:=["_law_hand_here","_law_bits_here","_law_block_here","_law_begin","_law_height","_law_size","_law_some"]) (by decide +kernel)) rfl fun f I A outer s H E y=>⟨_,(Jb (QR (Jk 2) (JJ rfl (Jm (dgv 3 (ndB rfl)) (Jm (dgv 4 (ndB rfl)) JK)))) (Jb (dsv 5 (ndB rfl) (JV dli (dlv 4))) (Jb (Uj (i:=6) (ndB rfl) rfl (dA rfl) (Jz (dbv 2 (dbc (Js (dbv 3 (dbc (JA (VB rfl) Z4 T.max Vz (Ji dli (Ji (dl (UE (dlv 4) dli)) Jo UJ) zkc)) Ja))) (dbc (Jd G y (dbv 0 (dbv 1 Ja))) (dbc (Jd G y (dbv 0 (dbv 1 Ja))) Ja)))))) (Jb (Jw (Jp QX gp_B (dlv 4) dli (Jh _)) (Jc (Qe 6 (Js (dbc (JH (dlv 3) (dl (zp9 (dlv 5) dli))) (dbc (UE (dlv 4) dli) Ja))))) Jy) (Jb (Jw (Jp (Qp y) Qm (dlv 4) (dlv 1) (Jh _)) (Jb (Qe 6 (Js (dbc (UE (dlv 3) (dl (Zy (dlv 3) (dl (ZI dli (dlv 5)))))) (dbc (JH (dlv 4) dli) Ja)))) (Jc (Qe 6 (Js (dbc (ztn (dlv 3) (dlv 5)) (dbv 4 Ja)))))) Jy) (Jb (Jw (Jp Qo Qk (dl (JH (dlv 3) (dl (ZI dli (dlv 5))))) (dl (JV dli (dlv 1))) (Jh _)) (Jc (Qe 6 (Js (dbc (JH (dlv 3) (dlv 5)) (dbv 4 Ja))))) Jy) (Uc 6 (Jc (Jg (Jd L y (dbv 0 (dbv 6 Ja)))))))))))),?_⟩
 intro ts n R Y C;obtain⟨bits,i,h,rfl,b0,S,hn,B,C⟩:=C;have h0:=B.1;have U:=B.2.1;have v:∀j g:Int,IsBk bits j g->∀m,m=n+7->R (.tuple [.int j,.int g]) m:=fun j g b m e=>e▸C j g b
 have J:IsBk bits i (if h - 1 > 0 then h - 1 else 0):=by
  split
  ·exact B.low (by lia)
  ·by_cases z:h=0
   ·subst z;exact B
   ·have:h=1:=by lia
    subst this;exact B.low (by decide)
 wp_walk using zds ?_ ?_ ?_ (fun _ _ _=>?_),Y3 ?_ ?_ ?_ ?_
 all_goals first
  | lia
  | exact cpow (by lia) (by lia)
  | exact zvN
  | exact zvO
  | (rw[JX];exact Int.mul_pos (by decide) (QB _))
  | (intro z;simp at z;done)
  | (simp only[dQ,eD,aR,cK];decide)
  | skip
 all_goals
  simp only[dQ,eD,List.forall_mem_cons,JX]at *
  repeat' (with_reducible refine lI ?_ ?_)
 all_goals first
  | exact v _ _ B _ rfl
  | exact v _ _ J _ rfl
  | exact v _ _ (by assumption) _ rfl
  | exact v _ _ (B.up (by lia)) _ rfl
  | exact v _ _ (B.abt (by lia)) _ rfl
  | exact v _ _ (B.oth (by lia)) _ rfl
  | exact v _ _ (B.nxt (by assumption)) _ rfl
  | (intro x hx;simp at hx)
def zcO:GD:=fun ts n R=>∃bits most:Int,ts=[HAND,.int bits,.int most]/\1<=bits/\bits<=64/\0<=most/\most<=1000/\n<=1000000000000 - 100000/\∀(bs:qB) (m:Nat),Bks bits bs->bs.length<=most.toNat->m<=n+1+12*most.toNat->R (.list (pD bs)) m
theorem zfW{bits most:Int}{n:Nat}{R:qN}(v:1<=bits)(x:bits<=64)(m0:0<=most)(u:most<=1000)(y:n<=1000000000000 - 100000)(h:∀(bs:qB) (m:Nat),Bks bits bs->bs.length<=most.toNat->m<=n+1+12*most.toNat->R (.list (pD bs)) m):zcO [HAND,.int bits,.int most] n R:=⟨bits,most,rfl,v,x,m0,u,y,h⟩
def zcF(Z:ZZ):Prop:=FQ Z "_law_blocks" (top 63) ["_law_hand_here","_law_bits_here","_law_most"] 5 (spD Z.K 3 zcO)
theorem zeH(D:Dq Z.K Z.mg "_law_blocks" (top 63) ["_law_hand_here","_law_bits_here","_law_most"]) (EF:Uw Z) (EI:zbX Z) (He:zdY Z) (EG:UZ Z) (T:Txt Z.mg):zcF Z:=by
 refine' okQ D (fnS (N:=["_law_hand_here","_law_bits_here","_law_most","_law_found","_law_k","_law_block_here"]) (by decide +kernel)) rfl fun f cdv A outer s H E G=>⟨_,(Jb (Uj (i:=3) (ndB rfl) rfl (dA rfl) (Jz Ja)) (Jb (QM bO rfl (zer T.ran (Jd EF G (dbv 0 (dbc (JH (dlv 2) dli) Ja)))) (dgv 4 (ndB rfl)) (Jb (dsv 5 (ndB rfl) (Jd EI G (dbv 0 (dbv 1 Ja)))) (Jb (Jw (Qb (YT (Jp (QU G) QQ (Yb 3) (dl (Jl (Jz Ja))) (Jh _)) (YV (Jp QX gp_B (dl (Jd EF G (dbv 0 (dbc Je Ja)))) dli (Jh _))))) (Jc (dsv 5 (ndB rfl) (Jd He G (dbv 0 (dbv 1 (dbc (ztq EG G (Ji (dlv 0) (Ji (Yb 3) Jo Jr) Jr)) Ja)))))) Jy) (Jc (Qe 3 (Jk 5)))))) (Uc 3 (Jc (Jg (Jk 3)))))),?_⟩
 intro ts n R hl hh;obtain⟨bits,most,rfl,b0,b1,m0,m1,hn,hh⟩:=hh
 wp_walk using Q0 ?_ ?_ ?_ (fun r r0 r1=>?_)
 ·lia
 ·lia
 ·lia
 ·lia
 ·lia
 refine Ye (fun k L m=>∃bs:List (Int×Int),∃Y U,L=[some (.val HAND),some (.val (.int bits)),some (.val (.int most)),some (.own (pD bs)),Y,U]/\Bks bits bs/\bs.length=k/\m<=n+1+12*k) ⟨[],_,_,rfl,(fun b S=>nomatch S),rfl,by lia⟩ ?_ ?_
 ·rintro k t L m K et ⟨bs,Y,U,rfl,B,J,hm⟩ hK;obtain⟨hk2,rfl⟩:=zeT et;have hk3:k<1000:=by lia
  have fin:∀(i h:Int) (x4 x5:Option Cell) (I:Nat),IsBk bits i h->I<=m+12->K [some (.val HAND),some (.val (.int bits)),some (.val (.int most)),some (.own (pD bs++[.tuple [.int i,.int h]])),x4,x5] I:=fun i h x4 x5 I C hm' =>
   hK _ _ ⟨bs++[(i,h)],_,_,by rw[<- Q4],B.app C,by simp[J],by lia⟩
  wp_walk using zds ?_ ?_ ?_ (fun i h C=>?_),Q0 ?_ ?_ ?_ (fun q q0 q1=>?_),Y3 ?_ ?_ ?_ ?_,zeA ?_ ?_ ?_ ?_ (fun j g C'=>?_)
  all_goals first
   | lia
   | exact zrN
   | exact zhE
   | (rw[Ju];lia)
   | decide
   | (intro z
      have y:dW (.list (pD bs)) (.list [])=false:=by assumption
      rw[zpX]at y;have y2:bs=[]:=by
       have:=congrArg cM z;rw[Ju]at this;exact eS.mp this
      rw[y2]at y;cases y)
   | exact fin _ _ _ _ _ (by assumption) (by lia)
   | skip
  all_goals
   intro x hx;obtain⟨b,S,rfl⟩:=ba.mp hx;refine⟨zjG,?_⟩;have C0:=B b S
   wp_walk using zeA ?_ ?_ ?_ ?_ (fun j g C'=>?_)
   all_goals first
    | lia
    | exact C0
    | (rw[Ju];lia)
    | exact fin _ _ _ _ _ (by assumption) (by lia)
 ·rintro L m ⟨bs,Y,U,rfl,B,J,hm⟩;have el:bs.length<=most.toNat:=by
   rw[J];unfold QI;simp;lia
  wp_walk
  exact hh bs m B el (by lia)
def zdn:GD:=fun ts n R=>∃bits most:Int,ts=[HAND,.int bits,.int most]/\1<=bits/\bits<=64/\0<=most/\most<64/\n<=1000000000000 - 100000/\∀(bs:qB) (m:Nat),Ptc bits bs->bs.length<=most.toNat->m<=n+1+12*most.toNat->R (.tuple (pD bs)) m
theorem zdr{bits most:Int}{n:Nat}{R:qN}(x:1<=bits)(y:bits<=64)(m0:0<=most)(v:most<64)(C:n<=1000000000000 - 100000)(h:∀(bs:qB) (m:Nat),Ptc bits bs->bs.length<=most.toNat->m<=n+1+12*most.toNat->R (.tuple (pD bs)) m):zdn [HAND,.int bits,.int most] n R:=⟨bits,most,rfl,x,y,m0,v,C,h⟩
def zdf(Z:ZZ):Prop:=FQ Z "_law_patch" (top 64) ["_law_hand_here","_law_bits_here","_law_most"] 6 (spD Z.K 3 zdn)
theorem zfx(D:Dq Z.K Z.mg "_law_patch" (top 64) ["_law_hand_here","_law_bits_here","_law_most"]) (EV:zcF Z) (T:Txt Z.mg):zdf Z:=by
 refine' okQ D (fnS (N:=["_law_hand_here","_law_bits_here","_law_most","_law_found","_law_begin","_law_height"]) (by decide +kernel)) rfl fun f cdv A outer s H E hr=>⟨_,(Jb (Uj (i:=3) (ndB rfl) rfl (dA rfl) (Jz Ja)) (Jb (QM bO rfl (QG (Jd EV hr (dbv 0 (dbv 1 (dbv 2 Ja))))) (JJ rfl (Jm (dgv 4 (ndB rfl)) (Jm (dgv 5 (ndB rfl)) JK))) (Jc (Jw (Qc (dl (JA (VA rfl) Z2 T.all Vy (Ji (dl (Jl (dnc ["_law_one"] [4,5] (znW (Yb 3)) (fun _ _ _ _=>(dgv 0 (ndB rfl))) (fun _ _ _ _=>(zov (Qx Qo Qk (dl (JH (dlv 1) (dl (JV dli (dlv 2))))) (dl (Jj (dlv 0) dli)) (Jh _)) (Ui (Qx Qo Qk (dl (JH (dl (Jj (dlv 0) dli)) (dl (JV dli (dl (Jj (dlv 0) dli)))))) (dlv 1) (Jh _)))))))) Jo UP)))) (Jc (Qe 3 (Js (dbv 4 (dbv 5 Ja))))) Jy))) (Uc 3 (Jc (Jg (Qg Ua Q6 T.tup QN (Ji (dl (Jl (zeq hr T.srt (dlv 3) Jr))) Jo Q9))))))),?_⟩
 intro ts n R hl U;obtain⟨bits,most,rfl,b0,b1,m0,m1,hn,U⟩:=U
 wp_walk using zfW ?_ ?_ ?_ ?_ ?_ (fun bs m B Y hm=>?_)
 ·lia
 ·lia
 ·lia
 ·lia
 ·lia
 refine Ye (fun k J I=>I=m/\∃cs:List (Int×Int),∃S L,J=[some (.val HAND),some (.val (.int bits)),some (.val (.int most)),some (.own (pD cs)),S,L]/\Bks bits cs/\(cs.Pairwise fun a b=>eB a<=b.1\/eB b<=a.1)/\cs.length<=k) ⟨rfl,[],_,_,rfl,(fun b y=>nomatch y),.nil,az _⟩ ?_ ?_
 ·rintro k t J I K et ⟨rfl,cs,S,L,rfl,C,u,hk⟩ hK;obtain⟨i,h,eb,rfl⟩:=Um et;have y:=B _ (aV eb);have h0:0<=h:=y.1;have h1:h<=bits:=y.2.1;have hk3:k<64:=by
   have:=(aA.mp eb).1;lia
  wp_walk
  refine Ub (D:=prD) (fun b=>.bool (decide (i+2 ^ h.toNat<=b.1)||decide (eB b<=i))) (by lia) ?_ ?_
  ·rintro⟨i',h'⟩ x K2 X2 hK2;have G:=C _ x;have h0':0<=h':=G.1;have h1':h'<=bits:=G.2.1
   wp_walk
   ·exact cpow (by lia) (by lia)
   ·have hc:i+2 ^ h.toNat<=i':=by rw[JX]at hc;exact hc
    rw[decide_eq_true hc]at hK2;exact hK2
   ·exact cpow (by lia) (by lia)
   ·have hc:¬i+2 ^ h.toNat<=i':=by rw[JX]at hc;exact hc
    rw[decide_eq_false hc]at hK2;rw[JX];exact hK2
  ·wp_walk using ZJ ?_
   ·rw[Ju];lia
   ·have al:∀b∈cs,i+2 ^ h.toNat<=b.1\/eB b<=i:=fun b y=>by
     have:=bc.mp hc b y;simpa using this
    refine hK _ _ ⟨rfl,cs++[(i,h)],_,_,by rw[<- Q4],C.app y,?_,by simp;lia⟩
    rw[bR];refine⟨u,cx _ _,fun a ha b x=>?_⟩
    cases aC.mp x;rcases al a ha with z|z
    ·exact .inr z
    ·exact .inl z
   ·exact hK _ _ ⟨rfl,cs,_,_,rfl,C,u,by lia⟩
 ·rintro J I ⟨rfl,cs,S,L,rfl,C,u,hk⟩;rw[Ju]at hk
  wp_walk
  refine zsf b1 C u (by lia) fun es P pm=>?_
  wp_walk
  exact U es _ P (by have:=pm.length_eq;lia) (by lia)
def nmL(l:List Nat)(k c:Nat):Str:=⟨(l.take k++[c]++l.drop k).toArray⟩
theorem zrS{u:List Nat}{k c:Nat}(y:u.length<=7)(v:∀x∈u,97<=x/\x<=122)(hc:97<=c/\c<=122):IsNm (nmL u k c):=by
 have e:(nmL u k c).cps.toList=u.take k++[c]++u.drop k:=rfl;have l:(nmL u k c).length=u.length+1:=by
  rw[<- Qf,e];simp;lia
 refine⟨by lia,by lia,fun x hx=>?_⟩
 rw[e]at hx;simp only[aE,aC]at hx;rcases hx with(hx|rfl)|hx
 ·exact v x (fE hx)
 ·exact hc
 ·exact v x (lF hx)
theorem zpo{l:List Nat}{k c d:Nat}(h:nmL l k c=nmL l k d):c=d:=by
 have e:l.take k++[c]++l.drop k=l.take k++[d]++l.drop k:=congrArg (fun s:Str=>s.cps.toList) h
 rw[i6,i6]at e;have:=List.append_cancel_left e;simpa using this
theorem zlQ{step:Int}(h:step=1\/step=3\/step=5\/step=7\/step=9\/step=11){first i j:Int}(v:0<=i)(l:i<26)(x:0<=j)(u:j<26)(e:(first+step*i) % 26=(first+step*j) % 26):i=j:=by
 rcases h with rfl|rfl|rfl|rfl|rfl|rfl <;> lia
def zdo:GD:=fun ts n R=>∃many:Int,ts=[HAND,.int many]/\0<=many/\many<=26/\n<=1000000000000 - 1000/\∀u:List Str,u.length=many.toNat->(∀s∈u,IsNm s)->u.Nodup->R (.list (u.map .str)) (n+5)
theorem zhj{many:Int}{n:Nat}{R:qN}(m0:0<=many)(v:many<=26)(x:n<=1000000000000 - 1000)(h:∀u:List Str,u.length=many.toNat->(∀s∈u,IsNm s)->u.Nodup->R (.list (u.map .str)) (n+5)):zdo [HAND,.int many] n R:=⟨many,rfl,m0,v,x,h⟩
def zdg(Z:ZZ):Prop:=FQ Z "_law_names" (top 65) ["_law_hand_here","_law_many"] 3 (spD Z.K 2 zdo)
theorem zfy(D:Dq Z.K Z.mg "_law_names" (top 65) ["_law_hand_here","_law_many"]) (J:Uw Z) (EG:UZ Z) (T:Txt Z.mg):zdg Z:=by
 refine' okQ D (fnS (N:=["_law_hand_here","_law_many","_law_letters","_law_first","_law_step","_law_stem","_law_at"]) (by decide +kernel)) rfl fun f cdv A outer s H E G=>⟨_,(Jb (dsv 2 (ndB rfl) Qi) (Jb (QR (Js (dbc (Jd J G (dbv 0 (dbc Je Ja))) (dbc (Jd EG G (dbv 0 (dbc (Jl (Jz (dbc Je (dbc Je (dbc Je (dbc Je (dbc Je (dbc Je Ja)))))))) Ja))) Ja))) (JJ rfl (Jm (dgv 3 (ndB rfl)) (Jm (dgv 4 (ndB rfl)) JK)))) (Jb (dsv 5 (ndB rfl) (zp6 (dl (Jj (dlv 2) (dl (Jd J G (dbv 0 (dbc Je Ja)))))) (dl (Jd EG G (dbv 0 (dbc (Jl (Jz (dbc Je (dbc Je (dbc Je (dbc Je (dbc Je Ja))))))) Ja)))))) (Jb (dsv 6 (ndB rfl) (Jd J G (dbv 0 (dbc (JH (dl (JA Ur Uk T.len Q7 (Ji (dlv 5) Jo Jr))) dli) Ja)))) (Jc (Jg (Jl (dnc ["_law_k"] [5,2,6,3,4] (dil (zer T.ran (Jk 1))) (fun _ _ _ _=>(dgv 0 (ndB rfl))) (fun _ _ _ _=>(JH (dl (JH (dl (zet (dlv 1) Yk (Yl (Jk 3)))) (dl (Jj (dlv 2) (dl (Zy (dl (JH (dlv 4) (dl (ZI (dlv 5) (dlv 0))))) dli)))))) (dl (zet (dlv 1) (Yl (Jk 3)) Yk)))))))))))),?_⟩
 intro ts n R hl h;obtain⟨many,rfl,m0,m1,hn,h⟩:=h
 wp_walk using Q0 ?_ ?_ ?_ (fun r r0 r1=>?_),Y3 ?_ ?_ ?_ (fun x hx=>?_)
 all_goals first|lia|exact cpow (by lia) (by lia)|(simp;done)|skip
 rename_i first f0 f1
 revert r r0 r1;intro l l0 l1;obtain⟨step,rfl,v⟩:∃s:Int,x=.int s/\(s=1\/s=3\/s=5\/s=7\/s=9\/s=11):=by
  simp only[aw,aK,or_false]at hx;rcases hx with rfl|rfl|rfl|rfl|rfl|rfl <;> exact⟨_,rfl,by simp⟩
 refine zsr (k:=l.toNat) (by decide) (by lia) (letters (by lia)) ?_
 wp_walk using Y3 ?_ ?_ ?_ (fun y hy=>?_)
 all_goals first|lia|exact cpow (by lia) (by lia)|(simp;done)|skip
 obtain⟨m,rfl,mm0,mm7⟩:∃m:Int,y=.int m/\0<=m/\m<=7:=by
  simp only[aw,aK,or_false]at hy;rcases hy with rfl|rfl|rfl|rfl|rfl <;> exact⟨_,rfl,by decide,by decide⟩
 have C:(repS (⟨#[97+l.toNat]⟩:Str) m).cps.toList=bE m.toNat (97+l.toNat):=by
  rw[zmO];show(bE m.toNat [97+l.toNat]).flatten=_
  generalize m.toNat=k;induction k with
  | zero=>rfl
  | succ k ih=>rw[cu,mW,ih,cu];rfl
 have u:(repS (⟨#[97+l.toNat]⟩:Str) m).length=m.toNat:=by rw[<- Qf,C,gM]
 wp_walk using Q0 ?_ ?_ ?_ (fun a a0 a1=>?_)
 ·lia
 ·lia
 ·show 1<=100;decide
 ·rw[u];lia
 ·rw[u];lia
 ·rw[u];lia
 ·lia
 ·lia
 ·lia
 rw[u]at a1;generalize repS (⟨#[97+l.toNat]⟩:Str) m=EJ at C u;have I:∀x∈EJ.cps.toList,97<=x/\x<=122:=fun x hx=>by
  rw[C]at hx;have:=List.eq_of_mem_replicate hx;lia
 refine Ub (cs:=eX many.toNat) (D:=fun(i:Nat)=>.int (0+(i:Int))) (fun i=>.str (nmL EJ.cps.toList a.toNat (97+((first+step*(i:Int)) % 26).toNat))) (by simp;lia) ?_ ?_
 ·intro i hi K2 X2 S;have hi:=gm.mp hi;have q0:0<=(first+step*(0+(i:Int))) % 26:=ia _ (by decide)
  have q1:(first+step*(0+(i:Int))) % 26<26:=gf _ (by decide)
  wp_walk using zsr (k:=((first+step*(0+(i:Int))) % 26).toNat) (by decide) (by lia) (letters (by lia)) ?_
  all_goals first
   | lia
   | exact .inl ⟨by lia,by lia⟩
   | skip
  ·have l3:(cutS EJ none (some a)).length<=7:=by
    rw[<- Qf,zex (k:=a.toNat) (by lia)]
    have:=Qf EJ;simp;lia
   show(cutS EJ none (some a)).length+1<=16777216
   lia
  ·have l3:(cutS EJ none (some a)).length<=7:=by
    rw[<- Qf,zex (k:=a.toNat) (by lia)]
    have:=Qf EJ;simp;lia
   have l4:(cutS EJ (some a) none).length<=7:=by
    rw[<- Qf,zg8 (k:=a.toNat) (by lia) (by lia),dN]
    have:=Qf EJ;lia
   rw[<- Qf,zia,bw,Qf];show _+1+_<=_
   lia
  ·have e:(cutS EJ none (some a)++(⟨#[97+((first+step*(0+(i:Int))) % 26).toNat]⟩:Str)++cutS EJ (some a) none)=nmL EJ.cps.toList a.toNat (97+((first+step*(i:Int)) % 26).toNat):=by
    apply L2.Str.ext';rw[zia,zia,zex (k:=a.toNat) (by lia),zg8 (k:=a.toNat) (by lia) (by lia),Int.zero_add]
    rfl
   rw[e];exact S
 ·have e:((eX many.toNat).map fun(i:Nat)=>fF (nmL EJ.cps.toList a.toNat (97+((first+step*(i:Int)) % 26).toNat)))=((eX many.toNat).map fun(i:Nat)=>nmL EJ.cps.toList a.toNat (97+((first+step*(i:Int)) % 26).toNat)).map .str:=by rw[cB];rfl
  rw[e];have U:∀i:Nat,0<=(first+step*(i:Int)) % 26/\(first+step*(i:Int)) % 26<26:=fun i=>⟨ia _ (by decide),gf _ (by decide)⟩
  refine h _ (by simp) (fun s hs=>?_) ?_
  ·obtain⟨i,hi,rfl⟩:=ba.mp hs;have:=U i;have:=Qf EJ;exact zrS (by lia) I (by lia)
  ·rw[List.Nodup,dF];refine fW ?_ (List.nodup_range (n:=many.toNat));intro i j hi Y ne e;have hi:=gm.mp hi;have Y:=gm.mp Y;have e':=zpo e;have:=U i;have:=U j;have:=zlQ v (first:=first) (i:=i) (j:=j) (by lia) (by lia) (by lia) (by lia) (by lia)
   exact ne (by lia)
def zek:GD:=fun ts n R=>∃(bits most:Int) (u:List Str),ts=[HAND,.int bits,.list (nD u),.int most]/\1<=bits/\bits<=64/\0<=most/\most<64/\u≠[]/\u.length<=1000/\(∀s∈u,IsNm s)/\n<=1000000000000 - 200000 /\
 ∀(d:Deal) (m:Nat),Dl d->d.1=bits->d.2.1.length<=most.toNat->d.2.2.length<=most.toNat->(∀p∈d.2.1++d.2.2,p.2∈u)->m<=n+10000->R (dlD d) m
theorem zeC{bits most:Int}{u:List Str}{n:Nat}{R:qN}(x:1<=bits)(y:bits<=64)(m0:0<=most)(v:most<64)(ne:u≠[])(l:u.length<=1000)(C:∀s∈u,IsNm s)(G:n<=1000000000000 - 200000)
 (h:∀(d:Deal) (m:Nat),Dl d->d.1=bits->d.2.1.length<=most.toNat->d.2.2.length<=most.toNat->(∀p∈d.2.1++d.2.2,p.2∈u)->m<=n+10000->R (dlD d) m):zek [HAND,.int bits,.list (nD u),.int most] n R:=⟨bits,most,u,rfl,x,y,m0,v,ne,l,C,G,h⟩
def zd1(Z:ZZ):Prop:=FQ Z "_law_deal" (top 66) ["_law_hand_here","_law_bits_here","_law_names_here","_law_most"] 7 (spD Z.K 4 zek)
theorem zgv(D:Dq Z.K Z.mg "_law_deal" (top 66) ["_law_hand_here","_law_bits_here","_law_names_here","_law_most"]) (EO:zdf Z) (EG:UZ Z) (EF:Uw Z) (T:Txt Z.mg):zd1 Z:=by
 refine' okQ D (fnS (N:=["_law_hand_here","_law_bits_here","_law_names_here","_law_most","_law_outs_here","_law_kept","_law_block_here","_law_name","_law_size","_law_there"]) (by decide +kernel)) rfl fun f cdv A outer s H E U=>⟨_,(Jb (Va (Vk (i:=4) (ndB rfl) rfl (dA rfl) (own:=["_law_block_here"]) (capt:=[0,2]) rfl (JG.of rfl) (dil (QL (Jd EO U (dbv 0 (dbv 1 (dbv 3 Ja)))))) (fun _ _ _ _=>(dgv 0 (ndB rfl))) (by decide) (fun _ _ _ _=>Vb) (fun _ _ _ _=>(Js (dbv 0 (dbc (Jd EG U (dbv 1 (dbv 2 Ja))) Ja)))))) (Jb (Uj (i:=5) (ndB rfl) rfl (dA rfl) (Jz Ja)) (Jb (QM bO rfl (QL (Jd EO U (dbv 0 (dbv 1 (dbv 3 Ja))))) (dgv 6 (ndB rfl)) (Jb (dsv 7 (ndB rfl) (Jd EG U (dbv 0 (dbv 2 Ja)))) (Jb (dsv 8 (ndB rfl) (JV dli (dl (Jj (dlv 6) dli)))) (Jb (Va (Vk (i:=9) (ndB rfl) rfl (dA rfl) (own:=["_law_one"]) (capt:=[8,6]) rfl (JG.of rfl) (dil (QG (Jk 4))) (fun _ _ _ _=>(dgv 0 (ndB rfl))) (by decide) (fun _ _ _ _=>(UL (Qb (YT (Jp (Qp U) Qm (dl (Jj (dl (Jj (dlv 0) dli)) dli)) (dl (JH (dl (Jj (dlv 2) dli)) (dlv 1))) (Jh _)) (YV (Jp (Qp U) Qm (dl (Jj (dlv 2) dli)) (dl (JH (dl (Jj (dl (Jj (dlv 0) dli)) dli)) (dl (JV dli (dl (Jj (dl (Jj (dlv 0) dli)) dli)))))) (Jh _))))))) (fun _ _ _ _=>(Jk 0)))) (Jb (Jw (Qb (Qu (Jp (Qy U) Qv (dlv 9) (dl (Jl (Jz Ja))) (Jh _)) (QS (Jp (Qy U) Qv (dl (Jd EF U (dbv 0 (dbc Je Ja)))) dli (Jh _))))) (Jc (dsv 7 (ndB rfl) (Jj (dl (Jl (Yc (dl (Jl (dnc ["_law_one"] [] (dil (QG (Jk 9))) (fun _ _ _ _=>(dgv 0 (ndB rfl))) (fun _ _ _ _=>(Jj (dlv 0) dli))))) (dl (Jl (Jz (dbv 7 Ja))))))) dli))) Jy) (Jc (Jw (Jp (Qy U) Qv (dl (Jl (dnf ["_law_one"] [7] (dil (QG (Jk 9))) (fun _ _ _ _=>(dgv 0 (ndB rfl))) (fun _ _ _ _=>(UL (Jp (QU U) QQ (dl (Jj (dlv 0) dli)) (dlv 1) (Jh _)))) (fun _ _ _ _=>(Jk 0))))) (dl (Jl (Jz Ja))) (Jh _)) (Jc (Qe 5 (Js (dbv 6 (dbv 7 Ja))))) Jy))))))) (Uc 5 (Jc (Jg (Js (dbv 1 (dbc (Qg Ua Q6 T.tup QN (Ji (dlv 4) Jo Jr)) (dbc (Qg Ua Q6 T.tup QN (Ji (dlv 5) Jo Jr)) Ja)))))))))),?_⟩
 intro ts n R hl h;obtain⟨bits,most,I,rfl,b0,b1,m0,m1,ne,l,hm,hn,h⟩:=h;have pick:∀{n:Nat} {Q:qN},n<=1000000000000->(∀s∈I,Q (.str s) (n+1))->Yp [HAND,.list (nD I)] n Q:=fun {n Q} hn L=>Y3 (by intro z;cases I with|nil=>exact ne rfl|cons a b=>cases z) (by simp[nD];lia) hn fun x hx=>by
  obtain⟨s,hs,rfl⟩:=ba.mp hx;exact L s hs
 wp_walk using zdr b0 b1 m0 m1 ?_ (fun bs m P hlen hm1=>?_)
 ·lia
 refine zlW (fun j acc m'=>m'=m+j/\∃os:List ((Int×Int)×Str),acc=oD os/\os.map (·.1)=bs.take j/\∀p∈os,p.2∈I) ⟨rfl,[],rfl,by simp,fun p C=>nomatch C⟩ ?_ ?_
 ·rintro j x acc m' K ej ⟨rfl,os,rfl,e1,e2⟩ hK;obtain⟨i,g,eb,rfl⟩:=Um ej;have jl:=(aA.mp eb).1;have lo:os.length=j:=by
   have:=congrArg cM e1;simp at this;lia
  wp_walk using pick ?_ (fun s hs=>?_)
  ·lia
  ·rw[ziy];lia
  ·refine hK _ _ ⟨by lia,os++[((i,g),s)],by simp[oD],?_,?_⟩
   ·rw[eu,e1,dz,eb];rfl
   ·intro p C;rcases aE.mp C with z|z
    ·exact e2 p z
    ·cases aC.mp z;exact hs
 ·rintro acc m' ⟨rfl,os,rfl,e1,e2⟩;rw[Ju,cN]at e1
  wp_walk using zdr b0 b1 m0 m1 ?_ (fun cs m2 P2 hlen2 hm2=>?_)
  ·rw[Ju];lia
  rw[Ju]at hm2;have lo:os.length=bs.length:=by rw[<- aL (f:=(·.1)),e1]
  have Bo:∀p∈os,IsBk bits p.1.1 p.1.2:=fun p C=>P.1 _ (by rw[<- e1];exact ba.mpr ⟨p,C,rfl⟩)
  refine zta 5 6 7 8 9 (fun k a5 _ _ _ _ m'=>m'<=m2+2*k/\∃J:List ((Int×Int)×Str),a5=some (.own (oD J))/\(J.map (·.1)).Sublist (cs.take k)/\(∀q∈J,q.2∈I)/\Agr os J) ⟨by lia,[],rfl,by simp,fun q L=>(nomatch L),fun p C q L=>(nomatch L)⟩ ?_ ?_
  ·rintro k t a5 a6 a7 a8 a9 m' K RT BK et ⟨hm',J,rfl,sb,kn,ag⟩ hK hRT hBK;obtain⟨i,g,eb,rfl⟩:=Um et;have kl:=(aA.mp eb).1;have Bb:=P2.1 _ (aV eb);have g0:0<=g:=Bb.1;have g1:g<=bits:=Bb.2.1;have pg:=QB g.toNat;have tk:cs.take (k+1)=cs.take k++[(i,g)]:=by rw[dz,eb];rfl
   have lks:J.length<=64:=by
    have:=sb.length_le;simp at this;lia
   have skip:∀(G:Nat) (b6 b7 b8 b9:Option Cell),G<=m'+2->K [some (.val HAND),some (.val (.int bits)),some (.val (.list (nD I))),some (.val (.int most)),some (.val (.list (oD os))),some (.own (oD J)),b6,b7,b8,b9] G:=fun G b6 b7 b8 b9 h2 =>
    hK _ _ _ _ _ _ ⟨by lia,J,rfl,by rw[tk];exact sb.trans (List.sublist_append_left _ _),kn,ag⟩
   have put:∀(G:Nat) (b6 b7 b8 b9:Option Cell) (s:Str),G<=m'+2->s∈I->(∀p∈os,p.1.1<i+2 ^ g.toNat->i<p.1.1+2 ^ p.1.2.toNat->p.2=s)->K [some (.val HAND),some (.val (.int bits)),some (.val (.list (nD I))),some (.val (.int most)),some (.val (.list (oD os))),some (.own (oD J++[.tuple [.tuple [.int i,.int g],.str s]])),b6,b7,b8,b9] G:=fun G b6 b7 b8 b9 s h2 hs al =>
    hK _ _ _ _ _ _ ⟨by lia,J++[((i,g),s)],by simp[oD],by rw[tk,eu];exact sb.append (xa _),(fun q L=>by
     rcases aE.mp L with z|z
     ·exact kn q z
     ·cases aC.mp z;exact hs),fun p C q L=>by
     rcases aE.mp L with z|z
     ·exact ag p C q z
     ·cases aC.mp z
      by_cases y:p.1.1<i+2 ^ g.toNat/\i<p.1.1+2 ^ p.1.2.toNat
      ·exact .inl (al p C y.1 y.2)
      ·right
       show eB p.1<=i\/i+2 ^ g.toNat<=p.1.1
       unfold eB;lia⟩
   wp_walk using pick ?_ (fun s hs=>?_)
   ·lia
   ·exact cpow (by lia) (by lia)
   refine UY (cs:=os) (D:=fun p=>.tuple [prD p.1,.str p.2]) (fun p=>decide (p.1.1<i+2 ^ g.toNat)&&decide (i<p.1.1+2 ^ p.1.2.toNat)) (fun p=>.tuple [prD p.1,.str p.2]) (by lia) ?_ ?_
   ·intro p C K2 X2 Y hX2;have Bp:=Bo p C;have p0:=Bp.1;have p1:=Bp.2.1
    wp_walk
    ·exact cpow (by lia) (by lia)
    all_goals simp only[JX]at *
    ·rename_i y;exact Y (by rw[decide_eq_true y,decide_eq_true hc];rfl)
    ·exact hX2 (by rw[decide_eq_false hc,gH])
    ·exact hX2 (by rw[decide_eq_false hc,cj])
   ·rw[show((os.filter fun p=>decide (p.1.1<i+2 ^ g.toNat)&&decide (i<p.1.1+2 ^ p.1.2.toNat)).map fun p=>iz [prD p.1,fF p.2])=oD (os.filter fun p=>decide (p.1.1<i+2 ^ g.toNat)&&decide (i<p.1.1+2 ^ p.1.2.toNat)) from rfl]
    generalize ets:(os.filter fun p=>decide (p.1.1<i+2 ^ g.toNat)&&decide (i<p.1.1+2 ^ p.1.2.toNat))=us
    have Ip:∀p∈us,p∈os:=fun p C=>by rw[<- ets]at C;exact(cU.mp C).1
    have uin:∀p∈os,p.1.1<i+2 ^ g.toNat->i<p.1.1+2 ^ p.1.2.toNat->p∈us:=fun p C y z=>by
     rw[<- ets];exact cU.mpr ⟨C,by rw[decide_eq_true y,decide_eq_true z];rfl⟩
    have lus:us.length<=64:=by
     have:=dY (fun p:(Int×Int)×Str=>decide (p.1.1<i+2 ^ g.toNat)&&decide (i<p.1.1+2 ^ p.1.2.toNat)) os
     rw[ets]at this;lia
    have ok3:∀vs:List ((Int×Int)×Str),(∀p∈vs,p∈os)->Okd (.list (oD vs)):=fun vs hv=>(zpf (k:=2) fun t ht=>by
     obtain⟨p,C,rfl⟩:=ba.mp ht;refine zkW fun u hu=>?_
     simp only[aw,aK,or_false]at hu;rcases hu with rfl|rfl
     ·exact zrP
     ·exact(YB (hm _ (e2 _ (hv p C)))).mono (by decide)).okd
    have tail:∀(G:Nat) (s':Str) (b8:Option Cell),G<=m'+2->s'∈I ->
      sIf (QY (dOp oEq (dNew (dComp [ae "_law_one"].length [7] (dItL (dVar 9)) (Qd 0) (QY (dOp oNe (dOp oIx (dVar 0) (dC (bK 1))) (dVar 1))) (dVar 0))) (dNew dNil))) (Yi 5 (dTup (Qa (dVar 6) (Qa (dVar 7) dNil)))) Zr { nx:=K,rt:=RT,bk:=BK,ct:=K }
       [some (.val HAND),some (.val (.int bits)),some (.val (.list (nD I))),some (.val (.int most)),some (.val (.list (oD os))),some (.own (oD J)),some (.val (.tuple [.int i,.int g])),some (.val (.str s')),b8,some (.val (.list (oD us)))] G:=by
     intro G s' b8 hm'' hs'
     wp_walk
     refine UY (cs:=us) (D:=fun p=>.tuple [prD p.1,.str p.2]) (fun p=>!decide (p.2=s')) (fun p=>.tuple [prD p.1,.str p.2]) (by lia) ?_ ?_
     ·intro p C K2 X2 Y hX2
      wp_walk
      ·exact hX2 (by rw[decide_eq_true hc];rfl)
      ·exact Y (by rw[decide_eq_false hc];rfl)
     ·wp_walk
      ·exact ok3 _ fun p C=>Ip p (cU.mp C).1
      ·exact zhE
      ·rw[ziy];lia
      ·rw[znP]at hc;refine put _ _ _ _ _ s' hm'' hs' fun p C y z=>?_
       by_cases w:p.2=s'
       ·exact w
       ·exfalso;have:p∈us.filter fun p=>!decide (p.2=s'):=cU.mpr ⟨uin p C y z,by rw[decide_eq_false w];rfl⟩
        have e0:us.filter (fun p=>!decide (p.2=s'))=[]:=by simpa using hc
        rw[e0]at this;cases this
      ·exact skip _ _ _ _ _ hm''
    have nm:∀{Q:af->Prop},(∀s'∈I,Q (.str s'))->oIx (.list ((us.map fun p=>fF p.2)++[.str s])) (.int 0) Q:=fun {Q} L=>by
     cases us with
     | nil=>exact ZL (L s hs)
     | cons u v=>exact ZL (L u.2 (e2 u (Ip u (by simp))))
    wp_walk using Q0 ?_ ?_ ?_ (fun r r0 r1=>?_),tail _ _ _ ?_ ?_
    all_goals first
     | exact ok3 _ Ip
     | exact zhE
     | exact hs
     | lia
     | skip
    all_goals
     refine Ub (cs:=us) (D:=fun p=>.tuple [prD p.1,.str p.2]) (fun p=>.str p.2) (by lia) ?_ ?_
     ·intro p C K2 X2 Y
      wp_walk
      exact Y
     ·wp_walk using nm (fun s' hs'=>?_),tail _ _ _ ?_ ?_
      ·simp;lia
      ·lia
      ·exact hs'
  ·rintro a5 a6 a7 a8 a9 m' ⟨hm',J,rfl,sb,kn,ag⟩;rw[Ju,cN]at sb
   wp_walk
   refine h (bits,os,J) _ ⟨b0,b1,⟨by rw[e1];exact P,fun p C=>hm _ (e2 p C)⟩,⟨⟨fun b hb=>P2.1 b (sb.subset hb),P2.2.sublist sb⟩,fun q L=>hm _ (kn q L)⟩,ag⟩ rfl (by show os.length<=_;lia) ?_ ?_ ?_
   ·have:=sb.length_le;rw[aL]at this;show J.length<=_
    lia
   ·intro p C;rcases aE.mp C with z|z
    ·exact e2 p z
    ·exact kn p z
   ·rw[Ju]at hm';lia
theorem Zo{a b:Int}{c:Prop}[Decidable c]{R:af->Prop}(h:∀z:Int,z=a\/z=b->R (.int z)):oIx (.list [.int a,.int b]) (.int (if decide c=true then 1 else 0)) R:=by
 by_cases hc:c
 ·rw[if_pos (decide_eq_true hc)];exact zom (h b (.inr rfl))
 ·rw[if_neg (by simp[hc])];exact ZL (h a (.inl rfl))
def zel:GD:=fun ts n R=>∃x:Int,ts=[HAND,.int x]/\0<=x/\n<=1000000000000 - 400000/\∀(d:Deal) (v:List Str) (m:Nat),Dl d->v≠[]->v.length<=4->(∀s∈v,IsNm s)->d.2.1.length<=20->d.2.2.length<=20->m<=n+20000->R (.tuple [dlD d,.list (nD v)]) m
theorem zh8{x:Int}{n:Nat}{R:qN}(k0:0<=x)(y:n<=1000000000000 - 400000)(h:∀(d:Deal) (v:List Str) (m:Nat),Dl d->v≠[]->v.length<=4->(∀s∈v,IsNm s)->d.2.1.length<=20->d.2.2.length<=20->m<=n+20000->R (.tuple [dlD d,.list (nD v)]) m):zel [HAND,.int x] n R:=⟨x,rfl,k0,y,h⟩
def zd2(Z:ZZ):Prop:=FQ Z "_law_case" (top 67) ["_law_hand_here","_law_k"] 8 (spD Z.K 2 zel)
theorem zgw(D:Dq Z.K Z.mg "_law_case" (top 67) ["_law_hand_here","_law_k"]) (E5:zdg Z) (U:zd3 Z) (L:Uw Z) (Hg:zd1 Z) (T:Txt Z.mg):zd2 Z:=by
 refine' okQ D (fnS (N:=["_law_hand_here","_law_k","_law_bits_here","_law_names_here","_law_most"]) (by decide +kernel)) rfl fun f S A outer s H E u=>⟨_,(Jb (dsv 2 (ndB rfl) (JA (Y6 rfl) YM T.min UQ (Ji (dl (Jd U u (dbv 0 Ja))) (Ji (dl (Jj (dl (Jl (Jz (dbc Je (dbc Je Ja))))) (dl (Qg Y5 Z3 T.int boot_int (Ji (dl (Qx QX gp_B (dlv 1) dli (Jh _))) Jo ZB))))) Jo ZC) Q9))) (Jb (dsv 3 (ndB rfl) (Jd E5 u (dbv 0 (dbc (JH dli (dl (Jd L u (dbv 0 (dbc Je Ja))))) Ja)))) (Jb (dsv 4 (ndB rfl) (Jj (dl (Jl (Jz (dbc Je (dbc Je (dbc Je (dbc Je (dbc Je (dbc Je (dbc Je (dbc Je Ja))))))))))) (dl (Jd L u (dbv 0 (dbc Je Ja)))))) (Jb (dsv 4 (ndB rfl) (JA (zl0 rfl) zpS T.min UQ (Ji (dlv 4) (Ji (dl (Jj (dl (Jl (Jz (dbc Je (dbc Je Ja))))) (dl (Qg Y5 Z3 T.int boot_int (Ji (dl (Qx QX gp_B (dlv 1) dli (Jh _))) Jo ZB))))) (Ji (dl (Jj (dl (Jl (Jz (dbc Je (dbc Je Ja))))) (dl (Qg Y5 Z3 T.int boot_int (Ji (dl (Qx QX gp_B (dlv 2) dli (Jh _))) Jo ZB))))) Jo ZC) ZC) Jr))) (Jc (Jg (Js (dbc (Jd Hg u (dbv 0 (dbv 2 (dbc (zto (Jl (zfP (dlv 3) Yk (Yl (U9 Je)))) (Ui (Jk 3))) (dbv 4 Ja))))) (dbv 3 Ja))))))))),?_⟩
 intro ts n R hl h;obtain⟨kk,rfl,k0,hn,h⟩:=h;have ml:∀x∈[bK 5,bK 5,bK 5,bK 5,bK 5,bK 5,bK 5,bK 20],∃most:Int,x=.int most/\0<=most/\most<=20:=fun x hx=>by
  simp only[aw,aK,or_false]at hx;rcases hx with rfl|rfl|rfl|rfl|rfl|rfl|rfl|rfl <;> exact⟨_,rfl,by decide,by decide⟩
 wp_walk using zh9 ?_ (fun bits b0 b1=>?_),Q0 ?_ ?_ ?_ (fun r r0 r1=>?_),zhj ?_ ?_ ?_ (fun l nl C nd=>?_),Zo (fun z hz=>?_)
 all_goals first|lia|exact cpow (by lia) (by lia)|(simp;done)|skip
 all_goals
  refine zss (by lia) (by simp;lia) fun x hx=>?_
  obtain⟨most,rfl,m0,m1⟩:=ml x hx
  wp_walk using Zo (fun y hy=>?_)
 all_goals
  rename_i I Y;have ne:l≠[]:=fun z=>by rw[z]at nl;simp at nl;lia
  have G:0<=min3 most I y/\min3 most I y<=20:=by unfold min3;lia
  have v:1<=(if z<bits then z else bits)/\(if z<bits then z else bits)<=64:=by lia
  generalize min3 most I y=mo at G ⊢;generalize (if z<bits then z else bits)=bt at v ⊢
 ·refine zeC v.1 v.2 G.1 (by lia) ne (by lia) C (by lia) fun d m D e l1 l2 pn hm=>?_
  wp_walk
  exact h d l m D ne (by lia) C (by lia) (by lia) (by lia)
 ·have e0:cutD (lx fF l) none (some (-1))=nD (l.take (l.length - 1)):=by
   rw[zn0,aL,<- List.map_take];rfl
  rw[e0]at hc ⊢;have sb:∀s∈l.take (l.length - 1),s∈l:=fun s J=>fE J
  refine zeC v.1 v.2 G.1 (by lia) (fun z=>by rw[z]at hc;cases hc) (by simp;lia) (fun s J=>C s (sb s J)) (by lia) fun d m D e l1 l2 pn hm=>?_
  wp_walk
  exact h d l m D ne (by lia) C (by lia) (by lia) (by lia)
def zcN:GD:=fun ts n R=>∃lo hi:Int,ts=[.int lo,.int hi]/\0<=lo/\lo<=hi/\hi<=2 ^ 64/\∀bs,Jq lo hi bs->R (.list (pD bs)) n
theorem zfV{lo hi:Int}{n:Nat}{R:qN}(u:0<=lo)(v:lo<=hi)(l2:hi<=2 ^ 64)(h:∀bs,Jq lo hi bs->R (.list (pD bs)) n):zcN [.int lo,.int hi] n R:=⟨lo,hi,rfl,u,v,l2,h⟩
theorem zj9{k:Nat}:(2:Int)*2 ^ (k:Int).toNat=2 ^ (k+1):=by rw[dD,bV,dg]
def zcE(Z:ZZ):Prop:=FQ Z "_law_pieces" (top 68) ["_law_low","_law_high"] 1 (spD Z.K 2 zcN)
theorem zeG(D:Dq Z.K Z.mg "_law_pieces" (top 68) ["_law_low","_law_high"]) (T:Txt Z.mg):zcE Z:=by
 refine' okQ D (fnS (N:=["_law_low","_law_high","_law_found","_law_height"]) (by decide +kernel)) rfl fun f cdv A outer s H E U=>⟨_,(Jb (Uj (i:=2) (ndB rfl) rfl (dA rfl) (Jz Ja)) (Jb (zfM bO (Jp (Qp U) Qm (dlv 0) (dlv 1) (Jh _)) (Jb (dsv 3 (ndB rfl) Je) (Jb (zfM bO (Qb (YT (Jp (Qy U) Qv (dl (Zy (dlv 0) (dl (JV dli (dlv 3))))) dli (Jh _)) (YV (Jp Qo Qk (dl (JH (dlv 0) (dl (JV dli (dlv 3))))) (dlv 1) (Jh _))))) (Jc (dsv 3 (ndB rfl) (JH (dlv 3) dli)))) (Jb (Qe 2 (Js (dbv 0 (dbv 3 Ja)))) (Jc (dsv 0 (ndB rfl) (JH (dlv 0) (dl (JV dli (dlv 3)))))))))) (Uc 2 (Jc (Jg (Jk 2)))))),?_⟩
 intro ts n R hl h;obtain⟨lo,hi,rfl,l0,l1,l2,h⟩:=h;obtain⟨all,A⟩:=zhy _ lo hi (az _) l1;have al:=A.len l0 l2;have Iw:∀k:Nat,(2:Int) ^ k<=2 ^ 64->k<=64:=fun k hk=>by
  rcases br 64 k with z|z
  ·have:=QW (show 65<=k by lia)
   have e:(2:Int) ^ 65=2*2 ^ 64:=by decide
   lia
  ·exact z
 wp_walk
 refine zhu (fun m C J=>J=n/\∃(bs rest:qB) (x:Int) (L:Option Cell),C=[some (.val (.int x)),some (.val (.int hi)),some (.own (pD bs)),L]/\all=bs++rest/\Jq x hi rest/\lo<=x/\m=rest.length) (m:=all.length) ⟨rfl,[],all,lo,_,rfl,rfl,A,aX _,rfl⟩ ?_
 rintro m C J NX RT BK ⟨rfl,bs,rest,x,L,rfl,u,S,lb,rfl⟩ hN hR hB
 wp_walk
 ·cases rest with
  | nil=>have:x=hi:=S;lia
  | cons b r =>
   obtain⟨s1,s2,s3,s4,s5⟩:=S;refine zhu (fun m C I=>I=J/\∃k:Nat,C=[some (.val (.int x)),some (.val (.int hi)),some (.own (pD bs)),some (.val (.int (k:Int)))]/\x % 2 ^ k=0/\(2:Int) ^ k<=hi - x/\m=65 - k) (m:=65) ⟨rfl,0,rfl,by simp,by simp;lia,rfl⟩ ?_
   rintro m2 ρ2 Y NX2 RT2 G ⟨rfl,k,rfl,k1,k2,rfl⟩ hN2 hR2 hB2;have k64:=Iw k (by lia)
   have pk:=QB (k+1);have fin:¬(x % 2 ^ (k+1)=0/\(2:Int) ^ (k+1)<=hi - x)->G [some (.val (.int x)),some (.val (.int hi)),some (.own (pD bs)),some (.val (.int (k:Int)))] Y:=fun hn=>by
    have eg:b.2.toNat=k:=s4.uniq ⟨k1,k2,hn⟩;have eb:b=(x,(k:Int)):=fU s2 (by show b.2=(k:Int);lia)
    refine hB2 _ _ ?_
    wp_walk
    ·rw[Ju];have:=congrArg cM u;rw[bw]at this;lia
    ·exact cpow (by lia) (by lia)
    ·refine hN r.length _ _ (by simp) ⟨rfl,bs++[b],r,x+1*2 ^ (k:Int).toNat,some (.val (.int (k:Int))),by rw[eb,<- Q4],by rw[u];simp,?_,?_,rfl⟩
     ·rw[JX,dD];rw[eg]at s5;exact s5
     ·have:=QB (k:Int).toNat;rw[JX];lia
   wp_walk
   ·exact⟨by lia,by lia,by decide⟩
   ·rw[zj9];exact pk
   ·exact⟨by lia,by lia,by decide⟩
   all_goals simp only[zj9]at *
   ·rename_i y;exact hN2 (65 - (k+1)) _ _ (by lia) ⟨rfl,k+1,rfl,y,by lia,rfl⟩
   ·exact fin fun z=>hc (by lia)
   ·exact fin fun z=>hc z.1
 ·have e:x=hi:=by have:=S.le;lia
  cases rest with
  | cons b r=>have:=S.1;lia
  | nil =>
   refine hB _ _ ?_
   wp_walk
   rw[bM]at u;rw[<- u];exact h _ A
def zej:GD:=fun ts n R=>∃(d:Deal) (nm:af),ts=[dlD d,nm]/\Dl d/\Qt nm/\d.2.1.length+d.2.2.length<64/\∀gs,NR gs->(∀x,mR x gs↔Free d nm x)->gs.length<=100->R (.list (pD gs)) n
theorem zh7{d:Deal}{nm:af}{n:Nat}{R:qN}(D:Dl d)(hw:Qt nm)(l:d.2.1.length+d.2.2.length<64)(h:∀gs,NR gs->(∀x,mR x gs↔Free d nm x)->gs.length<=100->R (.list (pD gs)) n):zej [dlD d,nm] n R:=⟨d,nm,rfl,D,hw,l,h⟩
def zd0(Z:ZZ):Prop:=FQ Z "_law_gaps" (top 69) ["_law_deal_here","_law_name"] 1 (spD Z.K 2 zej)
theorem zgt(D:Dq Z.K Z.mg "_law_gaps" (top 69) ["_law_deal_here","_law_name"]) (T:Txt Z.mg):zd0 Z:=by
 refine' okQ D (fnS (N:=["_law_deal_here","_law_name","_law_taken","_law_found","_law_low","_law_begin","_law_height"]) (by decide +kernel)) rfl fun f cdv A outer s H E C=>⟨_,(Jb (dsv 2 (ndB rfl) (Jl (zeq C T.srt (dl (Jl (Yc (dl (Jl (dnc ["_law_block_here","_law_owner"] [] (dil (QL (Jj (dlv 0) dli))) (fun _ _ _ _=>(JJ rfl (Jm (dgv 0 (ndB rfl)) (Jm (dgv 1 (ndB rfl)) JK)))) (fun _ _ _ _=>(Jk 0))))) (dl (Jl (dnf ["_law_block_here","_law_owner"] [1] (dil (QL (Jj (dlv 0) dli))) (fun _ _ _ _=>(JJ rfl (Jm (dgv 0 (ndB rfl)) (Jm (dgv 1 (ndB rfl)) JK)))) (fun _ _ _ _=>(UL (Jp (QU C) QQ (dlv 1) (dlv 2) (Jh _)))) (fun _ _ _ _=>(Jk 0)))))))) UJ))) (Jb (zp1 (i:=3) (j:=4) rfl (ndB rfl) rfl rfl (by decide) rfl rfl (Jz Ja) Je) (Jb (QM bO rfl (QG (Jk 2)) (JJ rfl (Jm (dgv 5 (ndB rfl)) (Jm (dgv 6 (ndB rfl)) JK))) (Jb (Jw (Jp QX gp_B (dlv 5) (dlv 4) (Jh _)) (Jc (Qe 3 (Js (dbv 4 (dbv 5 Ja))))) Jy) (Jc (dsv 4 (ndB rfl) (JA (VB rfl) Z4 T.max Vz (Ji (dlv 4) (Ji (dl (JH (dlv 5) (dl (JV dli (dlv 6))))) Jo UJ) Jr)))))) (Jb (Jw (Jp (Qp C) Qm (dlv 4) (dl (JV dli (dl (Jj (dlv 0) dli)))) (Jh _)) (Jc (Qe 3 (Js (dbv 4 (dbc (JV dli (dl (Jj (dlv 0) dli))) Ja))))) Jy) (Uc 3 (Jc (Jg (Jk 3)))))))),?_⟩
 intro ts n R hl h;obtain⟨d,nm,rfl,D,hw,l,h⟩:=h;obtain⟨bits,os,I⟩:=d;obtain⟨b0,b1,S1,S2,ag⟩:=D;have b0:1<=bits:=b0;have b1:bits<=64:=b1;have S1:Shr bits os:=S1;have S2:Shr bits I:=S2;have l:os.length+I.length<64:=l;have hn:∀p∈I,IsNm p.2:=S2.2;have lk:=zeZ (d:=(bits,os,I)) (nm:=nm);have lk:(JT (bits,os,I) nm).length<=I.length:=lk;rw[show dlD (bits,os,I)=.tuple [.int bits,.tuple (oD os),.tuple (oD I)] from rfl]
 have B:Bks bits (os.map (·.1)++JT (bits,os,I) nm):=fun b L=>by
  rcases aE.mp L with z|z
  ·exact S1.1.1 b z
  ·exact S2.1.1 b (zeY b z)
 have top:=QB bits.toNat
 wp_walk
 refine Ub (cs:=os) (D:=fun p=>.tuple [prD p.1,.str p.2]) (fun p=>prD p.1) (by lia) ?_ ?_
 ·intro p hp K2 X2 U
  wp_walk
  exact U
 wp_walk
 refine UY (cs:=I) (D:=fun p=>.tuple [prD p.1,.str p.2]) (fun p=>!who p.2 nm) (fun p=>prD p.1) (by lia) ?_ ?_
 ·intro p hp K2 X2 U hX2;rcases hw with rfl|⟨s,rfl,ns⟩
  ·wp_walk
   ·exact(YB (hn p hp)).okd
   ·exact U rfl
  ·wp_walk
   ·exact hX2 (by show(!decide (p.2=s))=false;rw[decide_eq_true hc];rfl)
   ·exact U (by show(!decide (p.2=s))=true;rw[decide_eq_false hc];rfl)
 have e1:(os.map fun p=>prD p.1)=pD (os.map (·.1)):=by
  unfold pD;rw[cB];rfl
 have e2:((I.filter fun p=>!who p.2 nm).map fun p=>prD p.1)=pD (JT (bits,os,I) nm):=by
  unfold pD JT;rw[cB];rfl
 rw[e1,e2]
 wp_walk
 ·rw[Ju,Ju,aL];lia
 rw[Zz];have ll:(os.map (·.1)++JT (bits,os,I) nm).length<64:=by rw[bw,aL];lia
 have fr:∀x,Free (bits,os,I) nm x↔0<=x/\x<2 ^ bits.toNat/\¬mB x (os.map (·.1)++JT (bits,os,I) nm):=fun x=>by
  rw[YO];show 0<=x/\x<2 ^ bits.toNat/\¬mB x (os.map (·.1))/\¬mB x (JT (bits,os,I) nm)↔_
  constructor
  ·rintro⟨a,b,c,e⟩;exact⟨a,b,fun z=>z.elim c e⟩
  ·rintro⟨a,b,c⟩;exact⟨a,b,fun z=>c (.inl z),fun z=>c (.inr z)⟩
 generalize os.map (·.1)++JT (bits,os,I) nm=bs at B ll fr;refine zli (.inl rfl) b1 B (by lia) fun cs pm pw=>?_
 have Bc:Bks bits cs:=fun b L=>B b (pm.mem_iff.mp L)
 have lc:=pm.length_eq;have fr:∀x,Free (bits,os,I) nm x↔0<=x/\x<2 ^ bits.toNat/\¬mB x cs:=fun x=>by rw[fr,zk5 pm]
 wp_walk
 ·rfl
 refine Z1 3 4 5 6 (fun k a3 a4 _ _ m=>m=n/\∃(gs:qB) (G:Int),a3=some (.own (pD gs))/\a4=some (.val (.int G))/\NR gs/\(∀x,mR x gs↔0<=x/\x<G/\¬mB x (cs.take k))/\gs.length<=k/\0<=G/\G<=2 ^ bits.toNat/\(∀b∈cs.take k,eB b<=G)/\(∀g∈gs,g.2<G)/\(∀g∈gs,∀b∈cs.drop k,g.2<=b.1)) ⟨rfl,[],0,rfl,rfl,⟨(fun r C=>nomatch C),.nil⟩,(fun x=>⟨fun z=>absurd z Qn,fun z=>by lia⟩),az _,aX _,by lia,(fun r C=>nomatch C),(fun r C=>nomatch C),fun r C=>nomatch C⟩ ?_ ?_
 ·rintro k t' a3 a4 a5 a6 m K RT BK et ⟨rfl,gs,G,rfl,rfl,ng,Y,lg,be0,be1,ti,gl,dr⟩ hK hRT hBK;obtain⟨i,g,eb,rfl⟩:=Um et;have kl:=(aA.mp eb).1;have Bb:=Bc _ (aV eb);have g0:0<=g:=Bb.1;have g1:g<=bits:=Bb.2.1;have i0:0<=i:=(Bb.bounds (by lia)).1
  have i1:i+2 ^ g.toNat<=2 ^ bits.toNat:=(Bb.bounds (by lia)).2
  have pg:=QB g.toNat;have tk:cs.take (k+1)=cs.take k++[(i,g)]:=by rw[dz,eb];rfl
  have dk:cs.drop k=(i,g)::cs.drop (k+1):=by
   rw[cf kl];congr 1;have:=aI kl;rw[eb]at this;exact(aJ this).symm
  have after:∀b∈cs.drop (k+1),i<=b.1:=fun b L=>by
   have:=(pw.sublist (i7 k cs));rw[dk]at this;exact(c8.mp this).1 b L
  have m1:∀x,mB x (cs.take (k+1))↔mB x (cs.take k)\/(i<=x/\x<i+2 ^ g.toNat):=fun x=>by
   rw[tk,YO,zhM];constructor
   ·rintro(z|z|z)
    ·exact .inl z
    ·exact .inr z
    ·exact absurd z YQ
   ·rintro(z|z)
    ·exact .inl z
    ·exact .inr (.inl z)
  have old:∀x,G<=x->¬mB x (cs.take k):=fun x hx ⟨r,C,h1,h2⟩=>by have:=ti r C;lia
  have gb:∀x,mR x gs->x<i:=fun x ⟨r,C,h1,h2⟩=>by
   have:r.2<=i:=dr r C (i,g) (by rw[dk];simp)
   lia
  have go:∀(J:qB) (c5 c6:Option Cell) (S:Int),S=max G (i+2 ^ g.toNat)->NR J->(∀x,mR x J↔mR x gs\/(G<=x/\x<i))->J.length<=k+1->(∀g'∈J,g'.2<S)->(∀g'∈J,g'.2<=i)->K [some (.val (.tuple [.int bits,.tuple (oD os),.tuple (oD I)])),some (.val nm),some (.val (.list (pD cs))),some (.own (pD J)),some (.val (.int S)),c5,c6] m:=fun J c5 c6 S eb' n' m' l' g' g'' =>
   hK _ _ _ _ _ ⟨rfl,J,S,rfl,rfl,n',(fun x=>by
    rw[m',Y,m1];have ox:=old x;have gx:=gb x;rw[Y]at gx;constructor
    ·rintro(z|⟨a,b⟩)
     ·have:=gx z;obtain⟨a,b,c⟩:=z;exact⟨a,by lia,fun z=>z.elim c fun z=>by lia⟩
     ·exact⟨by lia,by lia,fun z=>z.elim (ox a) fun z=>by lia⟩
    ·rintro⟨a,b,c⟩
     by_cases y:x<G
     ·exact .inl ⟨a,y,fun z=>c (.inl z)⟩
     ·refine .inr ⟨by lia,?_⟩
      by_cases u:x<i
      ·exact u
      ·exact absurd (.inr ⟨by lia,by lia⟩) c),l',by lia,by lia,(fun r C=>by
    rw[tk]at C;rcases aE.mp C with z|z
    ·have:=ti r z;lia
    ·cases aC.mp z;show i+2 ^ g.toNat<=_;lia),g',fun r C b L=>by
    have:=g'' r C;have:=after b L;lia⟩
  have mx:(if i+1*2 ^ g.toNat > G then i+1*2 ^ g.toNat else G)=max G (i+2 ^ g.toNat):=by rw[JX];split <;> lia
  wp_walk
  ·rw[Ju];lia
  ·exact cpow (by lia) (by lia)
  ·rw[Q4];refine go (gs++[(G,i)]) _ _ _ mx ⟨fun r C=>?_,?_⟩ (fun x=>?_) (by simp;lia) (fun g' hg=>?_) fun g' hg=>?_
   ·rcases aE.mp C with z|z
    ·exact ng.1 r z
    ·cases aC.mp z;exact hc
   ·rw[bR];exact⟨ng.2,cx _ _,fun a ha b L=>by cases aC.mp L;exact gl a ha⟩
   ·rw[Ul,JQ];constructor
    ·rintro(z|z|z)
     ·exact .inl z
     ·exact .inr z
     ·exact absurd z Qn
    ·rintro(z|z)
     ·exact .inl z
     ·exact .inr (.inl z)
   ·rw[mx];rcases aE.mp hg with z|z
    ·have:=gl g' z;lia
    ·cases aC.mp z;show i<_;lia
   ·rcases aE.mp hg with z|z
    ·exact dr g' z (i,g) (by rw[dk];simp)
    ·cases aC.mp z;exact aX _
  ·exact cpow (by lia) (by lia)
  ·refine go gs _ _ _ mx ng (fun x=>⟨.inl,fun z=>z.elim id fun z=>by lia⟩) (by lia) (fun g' hg=>?_) fun g' hg=>dr g' hg (i,g) (by rw[dk];simp)
   have:=gl g' hg;rw[mx];lia
 ·rintro a3 a4 a5 a6 m ⟨rfl,gs,G,rfl,rfl,ng,Y,lg,be0,be1,ti,gl,dr⟩;rw[Ju]at Y lg ti;rw[cN]at Y ti;have old:∀x,G<=x->¬mB x cs:=fun x hx ⟨r,C,h1,h2⟩=>by have:=ti r C;lia
  wp_walk
  ·exact cpow (by lia) (by lia)
  ·exact cpow (by lia) (by lia)
  ·rw[Ju];lia
  ·rw[Q4,JX]at *;refine h (gs++[(G,2 ^ bits.toNat)]) ⟨fun r C=>?_,?_⟩ (fun x=>?_) (by simp;lia)
   ·rcases aE.mp C with z|z
    ·exact ng.1 r z
    ·cases aC.mp z;exact hc
   ·rw[bR];exact⟨ng.2,cx _ _,fun a ha b L=>by cases aC.mp L;exact gl a ha⟩
   ·rw[Ul,JQ,Y,fr];have ox:=old x;constructor
    ·rintro(⟨a,b,c⟩|z|z)
     ·exact⟨a,by lia,c⟩
     ·exact⟨by have:=z.1;lia,z.2,ox z.1⟩
     ·exact absurd z Qn
    ·rintro⟨a,b,c⟩
     by_cases y:x<G
     ·exact .inl ⟨a,y,c⟩
     ·exact .inr (.inl ⟨by show G<=x;lia,b⟩)
  ·rw[JX]at *;refine h gs ng (fun x=>?_) (by lia)
   rw[Y,fr];constructor
   ·rintro⟨a,b,c⟩;exact⟨a,by lia,c⟩
   ·rintro⟨a,b,c⟩;exact⟨a,by lia,c⟩
theorem zit:∀{rs ss:qB}{ps l:qB},PatS rs ps->PatS ss l->PatS (rs++ss) (ps++l)
 | [],ss,ps,l,P,Q=>by cases(show ps=[] from P);exact Q
 | r::rs,ss,ps,l,P,Q=>by
  obtain⟨a,b,rfl,A,B⟩:=P;exact⟨a,b++l,by simp,A,zit B Q⟩
def VE:GD:=fun ts n R=>∃(d:Deal) (nm:af),ts=[dlD d,nm]/\Dl d/\Qt nm/\d.2.1.length+d.2.2.length<64/\∀u,CanP (Free d nm) u->R (.list (pD u)) n
theorem zeB{d:Deal}{nm:af}{n:Nat}{R:qN}(D:Dl d)(hw:Qt nm)(l:d.2.1.length+d.2.2.length<64)(h:∀u,CanP (Free d nm) u->R (.list (pD u)) n):VE [dlD d,nm] n R:=⟨d,nm,rfl,D,hw,l,h⟩
def zcq(Z:ZZ):Prop:=FQ Z "_law_free" (top 70) ["_law_deal_here","_law_name"] 2 (spD Z.K 2 VE)
theorem zgu(D:Dq Z.K Z.mg "_law_free" (top 70) ["_law_deal_here","_law_name"]) (U:zd0 Z) (I:zcE Z) (T:Txt Z.mg):zcq Z:=by
 refine' okQ D (fnS (N:=["_law_deal_here","_law_name","_law_found","_law_low","_law_high"]) (by decide +kernel)) rfl fun f L A outer s H E y=>⟨_,(Jb (dsv 2 (ndB rfl) (Jl (Jz Ja))) (Jb (QM bO rfl (QG (Jd U y (dbv 0 (dbv 1 Ja)))) (JJ rfl (Jm (dgv 3 (ndB rfl)) (Jm (dgv 4 (ndB rfl)) JK))) (Jc (dsv 2 (ndB rfl) (Jl (Yc (dlv 2) (dl (Jd I y (dbv 3 (dbv 4 Ja))))))))) (Jc (Jg (Jk 2))))),?_⟩
 intro ts n R hl h;obtain⟨d,nm,rfl,D,hw,l,h⟩:=h
 wp_walk using zh7 D hw l (fun gs C mg lg=>?_)
 have b0:=D.1;have J:=D.2.1;have w:=Zs (by lia) J C mg fun x hx=>⟨hx.1,hx.2.1⟩
 refine zlz 2 3 4 (fun k a2 _ _ m=>m=n/\∃ps,a2=some (.val (.list (pD ps)))/\PatS (gs.take k) ps) ⟨rfl,[],rfl,rfl⟩ ?_ ?_
 ·rintro k t a2 Y a4 m K RT BK S ⟨rfl,ps,rfl,P⟩ hK hRT hBK;obtain⟨lo,hi,G,rfl⟩:=Um S;have u:=w _ (aV G);have tk:gs.take (k+1)=gs.take k++[(lo,hi)]:=by rw[dz,G];rfl
  wp_walk using zfV u.1 u.2.1 u.2.2 (fun bs B=>?_)
  ·have:=P.len fun r y=>(fun z=>⟨z.1,z.2.2⟩) (w r (fE y))
   have:=B.len u.1 u.2.2;rw[Ju,Ju];have:=List.length_take_le k gs;have e:(gs.take k).length<=100:=by simp;lia
   lia
  ·rw[Zz];exact hK _ _ _ _ ⟨rfl,ps++bs,rfl,by rw[tk];exact zit P ⟨bs,[],by simp,B,rfl⟩⟩
 ·rintro a2 Y a4 m ⟨rfl,ps,rfl,P⟩;rw[Ju,cN]at P
  wp_walk
  exact h ps ⟨gs,C,mg,P⟩
def msg(c:Str):Str:=if c=ae "NoDeed" then ae "no deed" else if c=ae "NotTheirs" then ae "not theirs" else ae "no room"
def zcm:GD:=fun ts n R=>∃a b,ts=[a,b]/\Yd [a,b] n (fun _ m=>R .none m) fun c m=>c∈EXS/\R (.str (msg c)) m
theorem zeM{a b:af}{n:Nat}{R:qN}(h:Yd [a,b] n (fun _ m=>R .none m) fun c m=>c∈EXS/\R (.str (msg c)) m):zcm [a,b] n R:=⟨a,b,rfl,h⟩
def zci(Z:ZZ):Prop:=FQ Z "_law_refused" (top 71) ["_law_deal_here","_law_deed"] 10 (spD Z.K 2 zcm)
theorem zd8(D:Dq Z.K Z.mg "_law_refused" (top 71) ["_law_deal_here","_law_deed"]) (L:zkw Z) (x:QO Z.K Z.mg EXS EYS "DealError") (T:Txt Z.mg):zci Z:=by
 refine' okQ D (fnS (N:=["_law_deal_here","_law_deed","_law_caught","e","_law_marks"]) (by decide +kernel)) rfl fun f J A outer s H E I=>⟨_,(Jb (dsv 2 (ndB rfl) QK) (Jb (ztg (i:=2) (ie:=3) L x.under I (ndB rfl) (dbv 0 (dbv 1 Ja))) (Jb (Jw (Jp YC Yw (dlv 2) (dl QK) (Jh _)) (Jc (Jg QK)) Jy) (Jb (dsv 4 (ndB rfl) (Jl (Jz (dbc (zlI x (by decide +kernel) T.isi (Jk 2) Jr) (dbc (zlI x (by decide +kernel) T.isi (Jk 2) Jr) (dbc (zlI x (by decide +kernel) T.isi (Jk 2) Jr) Ja)))))) (Jb (Jw (Qb (Qu (Jp (QU I) QQ (dl (znZ (dlv 4))) dli (Jh _)) (Qu (Qc (dl (zp7 x (by decide +kernel) (by decide +kernel) T.isi (Jk 2) Jr))) (QS (Qj (Qc (dl (ztp x T.isi T.vae (Jk 2) Jr)))))))) (Jc (Jg Qi)) Jy) (Jc (Jg (Jj (dl (Jl (Jz (dbc Qi (dbc Qi (dbc Qi Ja)))))) (dl (zlJ (dlv 4))))))))))),?_⟩
 intro ts n R S h;obtain⟨a,b,rfl,h⟩:=h
 wp_walk
 ·rfl
 wp_walk
 refine zk2 h (fun t m z=>?_) fun c m z=>⟨z.1,fun C G=>?_⟩
 ·wp_walk
  ·exact z
  ·exact absurd hc (by simp[isNone])
 ·obtain⟨u,z⟩:=z;have e:c=ae "NoDeed" \/ c=ae "NotTheirs" \/ c=ae "NoRoom":=by
   simpa[EXS] using u
  have y:(decide (c=ae "NoLine")||decide (c=ae "NoText"))=false:=by rcases e with rfl|rfl|rfl <;> decide +kernel
  change SetK 2 (some (.val (EXC C))) _ _ _
  wp_walk using isE u G ?_
  ·exact absurd hc (by simp[isNone,EXC])
  refine⟨[_,_,_],rfl,?_⟩
  wp_walk using isE u G ?_
  ·rw[y]at hc;cases hc
  ·change dVar 4 _ _ _
   wp_walk
   refine⟨[_,_,_],rfl,?_,(by simp),?_⟩
   ·rcases e with rfl|rfl|rfl <;> decide +kernel
   ·rcases e with rfl|rfl|rfl
    ·rw[show oX true [decide (ae "NoDeed" = ae "NoDeed"),decide (ae "NoDeed" = ae "NotTheirs"),decide (ae "NoDeed" = ae "NoRoom")]=0 from by decide +kernel]
     wp_walk
     exact z
    ·rw[show oX true [decide (ae "NotTheirs" = ae "NoDeed"),decide (ae "NotTheirs" = ae "NotTheirs"),decide (ae "NotTheirs" = ae "NoRoom")]=1 from by decide +kernel]
     wp_walk
     exact z
    ·rw[show oX true [decide (ae "NoRoom" = ae "NoDeed"),decide (ae "NoRoom" = ae "NotTheirs"),decide (ae "NoRoom" = ae "NoRoom")]=2 from by decide +kernel]
     wp_walk
     exact z
  ·exfalso;refine hc ?_;rcases e with rfl|rfl|rfl <;> decide +kernel
def goD:Option NP->af
 | none=>.none
 | some p=>.tuple [prD p.1,.str p.2]
def outO(os:List NP)(g:Option NP)(cs:List NP):List NP:=(os.filter fun p=>decide (some p≠g))++cs
theorem zs7{p:NP}{g:Option NP}:(iz [prD p.1,.str p.2]).eqv (goD g)=decide (some p=g):=by
 cases g with
 | none=>simp[goD,dW]
 | some q =>
  rw[e9,decide_eq_true_eq];obtain⟨⟨a,b⟩,c⟩:=p;obtain⟨⟨l,x⟩,u⟩:=q;simp[goD,prD,dW,gZ,tv,and_assoc]
theorem zs6{g:Option NP}(h:∀p,g=some p->IsNm p.2):Okd (goD g):=by
 cases g with
 | none=>exact Vp
 | some q=>exact zkR (h q rfl)
theorem zsi{p:NP}{g:Option NP}{R:af->Prop}(x:IsNm p.2)(y:∀p,g=some p->IsNm p.2)(h:R (.bool (decide (some p≠g)))):oNe (.tuple [prD p.1,.str p.2]) (goD g) R:=by
 have e:(!(iz [prD p.1,.str p.2]).eqv (goD g))=decide (some p≠g):=by rw[zs7];simp
 have o:=zs6 y;cases g with
 | none=>exact⟨zkR x,o,by rw[e];exact h⟩
 | some q=>exact⟨zkR x,o,by rw[e];exact h⟩
def zcx:GD:=fun ts n R=>∃(d:Deal) (g:Option NP) (cs:List NP),ts=[dlD d,goD g,.list (oD cs)]/\d.2.1.length+cs.length<64/\(∀p∈d.2.1,IsNm p.2)/\(∀p,g=some p->IsNm p.2)/\∀rs:List NP,rs.Perm (outO d.2.1 g cs)->rs.Pairwise (fun a b=>npRk rs a<=npRk rs b)->R (dlD (d.1,rs,d.2.2)) n
theorem zh6{d:Deal}(g:Option NP){cs:List NP}{n:Nat}{R:qN}(l:d.2.1.length+cs.length<64)(u:∀p∈d.2.1,IsNm p.2)(v:∀p,g=some p->IsNm p.2)(h:∀rs:List NP,rs.Perm (outO d.2.1 g cs)->rs.Pairwise (fun a b=>npRk rs a<=npRk rs b)->R (dlD (d.1,rs,d.2.2)) n):zcx [dlD d,goD g,.list (oD cs)] n R:=⟨d,g,cs,rfl,l,u,v,h⟩
def zdX(Z:ZZ):Prop:=FQ Z "_law_outs" (top 72) ["_law_deal_here","_law_gone","_law_come"] 1 (spD Z.K 3 zcx)
theorem zgq(D:Dq Z.K Z.mg "_law_outs" (top 72) ["_law_deal_here","_law_gone","_law_come"]) (T:Txt Z.mg):zdX Z:=by
 refine' okQ D (fnS (N:=["_law_deal_here","_law_gone","_law_come"]) (by decide +kernel)) rfl fun f J A outer s H E C=>⟨_,(Jc (Jg (Js (dbc (Jj (dlv 0) dli) (dbc (Qg Ua Q6 T.tup QN (Ji (dl (Jl (zep C T.srt (dl (Jl (Yc (dl (Jl (dnf ["_law_pair"] [1] (dil (QL (Jj (dlv 0) dli))) (fun _ _ _ _=>(dgv 0 (ndB rfl))) (fun _ _ _ _=>(UL (Jp (QU C) QQ (dlv 0) (dlv 1) (Jh _)))) (fun _ _ _ _=>(Jk 0))))) (dlv 2)))) UJ))) Jo Q9)) (dbc (Jj (dlv 0) dli) Ja)))))),?_⟩
 intro ts n R hl h;obtain⟨⟨bits,os,G⟩,g,cs,rfl,l,S,I,h⟩:=h;have l:os.length+cs.length<64:=l;have e:dlD (bits,os,G)=.tuple [.int bits,.tuple (oD os),.tuple (oD G)]:=rfl;rw[e]
 wp_walk
 refine UY (cs:=os) (D:=fun p=>.tuple [prD p.1,.str p.2]) (fun p=>decide (some p≠g)) (fun p=>.tuple [prD p.1,.str p.2]) (by lia) ?_ ?_
 ·intro p L Y U v y
  wp_walk using zsi (S p L) I ?_
  ·exact v (by simpa using hc)
  ·exact y (by simpa using hc)
 ·have lf:(os.filter fun p=>decide (some p≠g)).length<=os.length:=dY ..
  wp_walk
  ·simp only[aL,oD];lia
  refine⟨outO os g cs,?_,?_,fun x pm pw=>?_⟩
  ·simp only[oD,outO,eu]
  ·simp only[outO,bw];lia
  ·wp_walk
   exact h x pm (pw.imp fun {a b} h=>by unfold npRk at h ⊢;rw[(pm.filter _).length_eq,(pm.filter _).length_eq];exact h)
def UI(l:qB)(h:Int)(q:Int×Int):Prop:=q∈l/\h<=q.2/\∀p∈l,h<=p.2->q.2<p.2\/(q.2=p.2/\q.1<=p.1)
theorem UI.uniq{u:qB}{h:Int}{q l:Int×Int}(a:UI u h q)(b:UI u h l):q=l:=by
 have v:=a.2.2 l b.1 b.2.1;have x:=b.2.2 q a.1 a.2.1;exact fU (by lia) (by lia)
def ze6:GD:=fun ts n R=>∃(d:Deal) (nm:Str) (h:Int),ts=[dlD d,.str nm,.int h]/\Dl d/\IsNm nm/\d.2.1.length+d.2.2.length<64/\∀v,CanP (Free d (.str nm)) v->((∀q∈v,q.2<h)->R .none n)/\∀q,UI v h q->R (.tuple [.int q.1,.int h]) n
theorem zjV{d:Deal}{nm:Str}{h:Int}{n:Nat}{R:qN}(D:Dl d)(x:IsNm nm)(l:d.2.1.length+d.2.2.length<64)(k:∀v,CanP (Free d (.str nm)) v->((∀q∈v,q.2<h)->R .none n)/\∀q,UI v h q->R (.tuple [.int q.1,.int h]) n):ze6 [dlD d,.str nm,.int h] n R:=⟨d,nm,h,rfl,D,x,l,k⟩
def zeW(Z:ZZ):Prop:=FQ Z "_law_due" (top 73) ["_law_deal_here","_law_name","_law_height"] 3 (spD Z.K 3 ze6)
theorem zhJ(D:Dq Z.K Z.mg "_law_due" (top 73) ["_law_deal_here","_law_name","_law_height"]) (EK:zcq Z) (T:Txt Z.mg):zeW Z:=by
 refine' okQ D (fnS (N:=["_law_deal_here","_law_name","_law_height","_law_found","_law_begin","_law_own"]) (by decide +kernel)) rfl fun f cdv A outer s H E U=>⟨_,(Jb (dsv 3 (ndB rfl) QK) (Jb (QM bO rfl (QG (Jd EK U (dbv 0 (dbv 1 Ja)))) (JJ rfl (Jm (dgv 4 (ndB rfl)) (Jm (dgv 5 (ndB rfl)) JK))) (Jc (Jw (Qb (YT (Jp zo8 gp_B (dlv 5) (dlv 2) (Jh _)) (YV (Qb (Qu (Jp YC Yw (dlv 3) (dl QK) (Jh _)) (QS (Jp (Qp U) Qm (dlv 5) (dl (Jj (dlv 3) dli)) (Jh _)))))))) (Jc (dsv 3 (ndB rfl) (Js (dbv 4 (dbv 5 Ja))))) Jy))) (Jc (Jg (znY (Jp YC Yw (dlv 3) (dl QK) (Jh _)) QK (Js (dbc (Jj (dlv 3) dli) (dbv 2 Ja)))))))),?_⟩
 intro ts n R hl h;obtain⟨d,nm,h,rfl,D,hn,l,k⟩:=h;have hw:Qt (.str nm):=.inr ⟨nm,rfl,hn⟩
 wp_walk using zeB D hw l (fun I C=>?_)
 have b0:=D.1;have P:=C.ptc (bits:=d.1) (by lia) fun x hx=>⟨hx.1,hx.2.1⟩
 obtain⟨k0,k1⟩:=k I C;refine zlz 3 4 5 (fun j J _ _ m=>m=n/\((J=some (.val .none)/\∀q∈I.take j,q.2<h)\/∃q,UI (I.take j) h q/\J=some (.val (.tuple [.int q.1,.int q.2])))) ⟨rfl,.inl ⟨rfl,fun q L=>nomatch L⟩⟩ ?_ ?_
 ·rintro j t J a4 a5 m K RT BK et ⟨rfl,z⟩ hK hRT hBK;obtain⟨lo,hi,eb,rfl⟩:=Um et;have tk:I.take (j+1)=I.take j++[(lo,hi)]:=by rw[dz,eb];rfl
  have ord:∀q∈I.take j,q.1<=lo:=fun q L=>by
   have pw:(I.take (j+1)).Pairwise fun a b=>eB a<=b.1:=P.2.sublist (mF _ _)
   rw[tk]at pw;have:=(bR.mp pw).2.2 q L (lo,hi) (.head _);have:=UF q;lia
  have mem:∀p∈I.take (j+1),p∈I.take j\/p=(lo,hi):=fun p G=>by rw[tk]at G;simpa using G
  have S:(lo,hi)∈I.take (j+1):=by rw[tk];simp
  have Y:∀p∈I.take j,p∈I.take (j+1):=fun p G=>by rw[tk];exact g7 _ G
  rcases z with⟨rfl,no⟩|⟨q,F,rfl⟩
  ·wp_walk
   ·exact hK _ _ _ _ ⟨rfl,.inr ⟨(lo,hi),⟨S,by assumption,fun p G y=>by
     rcases mem p G with z|rfl
     ·have:=no p z;lia
     ·exact .inr ⟨rfl,aX _⟩⟩,rfl⟩⟩
   ·exact absurd hc (by simp[isNone])
   ·exact hK _ _ _ _ ⟨rfl,.inl ⟨rfl,fun p G=>by
     rcases mem p G with z|rfl
     ·exact no p z
     ·show hi<h;lia⟩⟩
  ·wp_walk
   ·exact absurd hc (by simp[isNone])
   ·exact hK _ _ _ _ ⟨rfl,.inr ⟨(lo,hi),⟨S,by assumption,fun p G y=>by
     rcases mem p G with z|rfl
     ·have:=F.2.2 p z y;exact .inl (by show hi<p.2;lia)
     ·exact .inr ⟨rfl,aX _⟩⟩,rfl⟩⟩
   ·exact hK _ _ _ _ ⟨rfl,.inr ⟨q,⟨Y _ F.1,F.2.1,fun p G y=>by
     rcases mem p G with z|rfl
     ·exact F.2.2 p z y
     ·have:=ord q F.1;show q.2<hi\/(q.2=hi/\q.1<=lo)
      lia⟩,rfl⟩⟩
   ·exact hK _ _ _ _ ⟨rfl,.inr ⟨q,⟨Y _ F.1,F.2.1,fun p G y=>by
     rcases mem p G with z|rfl
     ·exact F.2.2 p z y
     ·exact absurd y hc⟩,rfl⟩⟩
 ·rintro J a4 a5 m ⟨rfl,z⟩;rw[Ju,cN]at z;rcases z with⟨rfl,no⟩|⟨q,F,rfl⟩
  ·wp_walk
   ·exact k0 no
   ·exact absurd hc (by simp[isNone])
  ·wp_walk
   ·exact absurd hc (by simp[isNone])
   ·exact k1 q F
theorem zl8{d:Deal}{nm:Str}{h:Int}{n:Nat}{R:qN}{X:Str->Nat->Prop}{v:qB}(D:Dl d)(x:IsNm nm)(h0:0<=h)(G:h<=d.1)(U:d.2.1.length<=20)(l2:d.2.2.length<=20)(C:CanP (Free d (.str nm)) v)(y:(∀q∈v,q.2<h)->X (ae "NoRoom") n) (k:∀q,UI v h q->∀rs:List NP,rs.Perm (d.2.1++[((q.1,h),nm)])->rs.Pairwise (fun a b=>npRk rs a<=npRk rs b)->R (.tuple [dlD (d.1,rs,d.2.2),.tuple [.int q.1,.int h]]) n):Yd [dlD d,.tuple [.str (ae "take"),.str nm,.int h]] n R X :=
 ⟨d,nm,h,rfl,D,x,h0,G,d,_,nm,h,rfl,D,x,by lia,by lia,fun N L=>by
  cases L.uniq C fun _=>aQ
  exact⟨y,fun q I S J rs pm pw=>k q ⟨I,S,J⟩ rs pm pw⟩⟩
def VD:GD:=fun ts n R=>∃(d:Deal) (nm:Str) (h:Int),ts=[dlD d,.str nm,.int h]/\Dl d/\IsNm nm/\0<=h/\h<=d.1/\d.2.1.length<=20/\d.2.2.length<=20/\R (.bool true) n
theorem zhi{d:Deal}{nm:Str}{h:Int}{n:Nat}{R:qN}(D:Dl d)(x:IsNm nm)(h0:0<=h)(u:h<=d.1)(v:d.2.1.length<=20)(l2:d.2.2.length<=20)(k:R (.bool true) n):VD [dlD d,.str nm,.int h] n R:=⟨d,nm,h,rfl,D,x,h0,u,v,l2,k⟩
def zde(Z:ZZ):Prop:=FQ Z "_law_right" (top 74) ["_law_deal_here","_law_name","_law_height"] 11 (spD Z.K 3 VD)
theorem zfw(D:Dq Z.K Z.mg "_law_right" (top 74) ["_law_deal_here","_law_name","_law_height"]) (Ho:zeW Z) (Hx:zkw Z) (ET:zci Z) (Hi:zdX Z) (T:Txt Z.mg):zde Z:=by
 refine' okQ D (fnS (N:=["_law_deal_here","_law_name","_law_height","_law_due_here","_law_behind","_law_told"]) (by decide +kernel)) rfl fun f cdv A outer s H E v=>⟨_,(Jb (dsv 3 (ndB rfl) (Jd Ho v (dbv 0 (dbv 1 (dbv 2 Ja))))) (Jb (Jw (Jp YC Yw (dlv 3) (dl QK) (Jh _)) (Jc (Jg (Qx (Qy v) Qv (dl (Jd ET v (dbv 0 (dbc (Js (dbc Qi (dbv 1 (dbv 2 Ja)))) Ja)))) (dl Qi) (Jh _)))) Jy) (Jb (QR (Jd (FQX.nox Hx) v (dbv 0 (dbc (Js (dbc Qi (dbv 1 (dbv 2 Ja)))) Ja))) (JJ rfl (Jm (dgv 4 (ndB rfl)) (Jm (dgv 5 (ndB rfl)) JK)))) (Jc (Jg (YU (Qx (Qy v) Qv (dl (JA (Yo v) Ym T.rep Yn (Ji (dlv 5) Jo Jr))) (dl (JA (Yo v) Ym T.rep Yn (Ji (dlv 3) Jo Jr))) (Jh _)) (Ui (Qx (Qy v) Qv (dl (JA (Yo v) Ym T.rep Yn (Ji (dlv 4) Jo Jr))) (dl (JA (Yo v) Ym T.rep Yn (Ji (dl (Jd Hi v (dbv 0 (dbc QK (dbc (Jl (Jz (dbc (Js (dbv 3 (dbv 1 Ja))) Ja))) Ja))))) Jo Q9))) (Jh _))))))))),?_⟩
 intro ts n R hl h;obtain⟨d,nm,h,rfl,D,y,h0,Y,l1,l2,k⟩:=h
 wp_walk using zjV D y ?_ (fun qs C=>⟨fun no=>?_,fun q F=>?_⟩)
 ·lia
 ·refine zeM (zl8 D y h0 Y l1 l2 C (fun _=>⟨by decide +kernel,?_⟩) fun q F=>absurd (no q F.1) (by have:=F.2.1;lia))
  rw[show msg (ae "NoRoom")=ae "no room" from by decide +kernel]
  wp_walk
  simpa using k
 ·exact absurd hc (by simp[isNone])
 ·exact absurd hc (by simp[isNone])
 ·refine zl8 D y h0 Y l1 l2 C (fun no=>absurd (no q F.1) (by have:=F.2.1;lia)) fun q' F' rs pm pw=>?_
  cases F'.uniq F;have B:=(C.ptc (bits:=d.1) (by have:=D.1;lia) fun x hx=>⟨hx.1,hx.2.1⟩).1 q F.1
  have b0:=D.1;have J:=D.2.1;obtain⟨I,nb2,_⟩:=zpp (p:=(q,nm)) b0 J B y;have B2:=B.lt (by lia) J
  have B3:=B.bounds (by lia)
  have lr:rs.length<=21:=by have:=pm.length_eq;simp at this;lia
  have U:Shd (dlD (d.1,rs,d.2.2)):=zkh (a:=21) (b:=21) (by decide) b0 J (fun p L=>by
   rcases aE.mp (pm.mem_iff.mp L) with z|z
   ·exact D.o p z
   ·cases aC.mp z;exact⟨I,by show h.natAbs<_;lia,y⟩) lr D.k (by show d.2.2.length<=21;lia)
  have co:∀{n:Nat} {R:qN},R (dlD (d.1,rs,d.2.2)) n->zcx [dlD d,.none,.list [.tuple [.tuple [.int q.1,.int h],.str nm]]] n R:=fun {n R} z=>zh6 (d:=d) none (cs:=[((q.1,h),nm)]) (by simp;lia) (fun p L=>(D.o p L).2.2) (fun p z=>nomatch z) fun rs' G S=>by
   have e:=zpj pm (by rw[show outO d.2.1 none [((q.1,h),nm)]=d.2.1++[((q.1,h),nm)] from by unfold outO;rw[List.filter_eq_self.mpr fun _ _=>by simp]]at G;exact G) pw S
   subst e;exact z
  wp_walk using co ?_
  ·exact zim (by lia) (by lia) (by lia) (by lia)
  ·exact zim (by lia) (by lia) (by lia) (by lia)
  ·exact U
  ·exact U
  ·rw[decide_eq_true rfl];exact k
  ·exact absurd rfl hc
theorem zlP{ts:qD}{k:Nat}:cutD ts none (some (k:Int))=ts.take k:=by
 unfold cutD;rw[HT.zdy,HT.zhz];simp[kX]
theorem zrO{f:ak}{fd:cD}(D:Def Z.K Z.mg "law" (top 75) ["_law_script"] f fd) (Hj:zdZ Z) (Hk:zd2 Z) (EF:Uw Z) (EK:zcq Z) (E6:zde Z) (T:Txt Z.mg):FnOk Z.P Z.w Z.K Z.mg Z.base CX0 12 f fd ["_law_script"] (spD Z.K 1 zs8):=by
 refine D.okD (fnS (N:=["_law_script","_law_k","_law_hand_here","_law_deal_here","_law_names_here","_law_kept","_law_wide","_law_name","_law_some","_law_begin","_law_height"]) (by decide +kernel)) rfl fun cdv A outer s H E S=>?_
 refine'⟨_,(Jb (QM bO rfl (zer T.ran (JA (VB rfl) Z4 T.max Vz (Ji dli (Ji (dl (JA (Y6 rfl) YM T.min UQ (Ji dli (Ji (dl (JA Ur Uk T.len Q7 (Ji (dlv 0) Jo Jr))) Jo Q9) zkc))) Jo Q9) zkc))) (dgv 1 (ndB rfl)) (zlD (i:=2) (j:=1) Hj S (ndB rfl) rfl (dA rfl) (Jb (QR (Jd Hk S (dbv 2 (dbv 1 Ja))) (JJ rfl (Jm (dgv 3 (ndB rfl)) (Jm (dgv 4 (ndB rfl)) JK)))) (Jb (ztj (i:=5) (j:=6) rfl (ndB rfl) rfl rfl (by decide) rfl rfl (dbc (JA (Yo S) Ym T.rep Yn (Ji (dlv 3) Jo Jr)) (dbc (Qg Y5 Z3 T.int boot_int (Ji (dl (Qx QX gp_B (dl (Jj (dlv 3) dli)) dli (Jh _))) Jo ZB)) Ja))) (Jc (QM bO rfl (QG (Jl (zfP (dlv 4) (Yl (Jj (dl (Jl (Jz (dbc Je (dbc (U9 Je) Ja))))) (dlv 6))) Yk))) (dgv 7 (ndB rfl)) (Jb (dsv 8 (ndB rfl) (Jl (Jz (dbc Je (dbc (Jj (dlv 3) dli) (dbc (Jd EF S (dbv 2 (dbc (JH (dl (Jj (dlv 3) dli)) dli) Ja))) (dbc (Jd EF S (dbv 2 (dbc (JH (dl (Jj (dlv 3) dli)) dli) Ja))) Ja))))))) (Jb (QM bO rfl (QG (Jl (zfP (dl (Jd EK S (dbv 3 (dbv 7 Ja)))) Yk (Yl (Jj (dl (Jl (Jz (dbc Je (dbc Je Ja))))) (dlv 6)))))) (JJ rfl (Jm (dgv 9 (ndB rfl)) (Jm (dgv 10 (ndB rfl)) JK))) (Jc (dsv 8 (ndB rfl) (Jl (Yc (dlv 8) (dl (Jl (Jz (dbv 10 (dbc (JA (Y6 rfl) YM T.min UQ (Ji (dl (Jj (dlv 3) dli)) (Ji (dl (JH (dlv 10) dli)) Jo UJ) ZC)) Ja)))))))))) (Jc (Jw (Qb (Qu (Qj (Qc (dl (JA (VA rfl) Z2 T.all Vy (Ji (dl (Jl (dnc ["_law_height"] [3,7] (dil (QG (Jk 8))) (fun _ _ _ _=>(dgv 0 (ndB rfl))) (fun _ _ _ _=>(Jd E6 S (dbv 1 (dbv 2 (dbv 0 Ja)))))))) Jo UP))))) (QS (Jp (QU S) QQ (dl (JA (Yo S) Ym T.rep Yn (Ji (dlv 3) Jo Jr))) (dlv 5) (Jh _))))) (Jc (Jg QP)) Jy)))))))))) (Jc (Jg QP))),?_⟩
 intro ts n R hl hh;obtain⟨ns,rfl,hl63,hh⟩:=hh
 wp_walk
 ·split <;> (try split) <;> lia
 ·split <;> (try split) <;> lia
 refine Ye (fun _ ρ m=>∃a1 a2 a3 a4 a5 a6 a7 L U I,ρ=[some (.val (SCR ns)),a1,a2,a3,a4,a5,a6,a7,L,U,I]/\m=n) ⟨_,_,_,_,_,_,_,_,_,_,rfl,rfl⟩ ?_ ?_
 ·rintro k t ρ m K et ⟨a1,a2,a3,a4,a5,a6,a7,L,U,I,rfl,rfl⟩ hK;obtain⟨hk,rfl⟩:=zeT et;have hk8:k<8:=by
   revert hk;split <;> (try split) <;> lia
  with_reducible refine Stp.go ?_
  refine znF hl63 (by lia) (by lia) fun NX RT BK CT hNX hRT hBK hCT=>?_
  wp_walk using zh8 ?_ ?_ (fun d G m3 D ne ln nk l1 l2 hm3=>?_)
  ·lia
  ·lia
  ·exact zkh (a:=21) (b:=21) (by decide) D.1 D.2.1 D.o (by lia) D.k (by lia)
  have sd:Shd (dlD d):=zkh (a:=21) (b:=21) (by decide) D.1 D.2.1 D.o (by lia) D.k (by lia)
  have rt:∀{nm:Str} {h:Int} {n:Nat} {R:qN},nm∈G->0<=h->h<=d.1->R (.bool true) n->VD [dlD d,.str nm,.int h] n R:=fun {nm h n R} Y h0 h1 z=>zhi D (nk _ Y) h0 h1 l1 l2 z
  have lf:∀{nm:Str} {n:Nat} {R:qN},nm∈G->(∀J,Ptc d.1 J->R (.list (pD J)) n)->VE [dlD d,.str nm] n R:=fun {nm n R} Y z=>zeB D (.inr ⟨nm,rfl,nk _ Y⟩) (by lia) fun J C=>z J (C.ptc (bits:=d.1) (by have:=D.1;lia) fun x hx=>⟨hx.1,hx.2.1⟩)
  obtain⟨bits,os,ks⟩:=d;have b0:1<=bits:=D.1;have b1:bits<=64:=D.2.1;have rt:∀{nm:Str} {h:Int} {n:Nat} {R:qN},nm∈G->0<=h->h<=bits->R (.bool true) n->VD [dlD (bits,os,ks),.str nm,.int h] n R:=rt;have lf:∀{nm:Str} {n:Nat} {R:qN},nm∈G->(∀J,Ptc bits J->R (.list (pD J)) n)->VE [dlD (bits,os,ks),.str nm] n R:=lf;rw[show dlD (bits,os,ks)=.tuple [.int bits,.tuple (oD os),.tuple (oD ks)] from rfl]at *
  wp_walk using Zo (fun z hz=>?_)
  have ws:∀t∈cutD (nD G) (some z) none,∃nm∈G,t=.str nm:=fun t ht=>by
   obtain⟨s,hs,rfl⟩:=ba.mp (zjc ht);exact⟨s,hs,rfl⟩
  have wl:(cutD (nD G) (some z) none).length<=4:=bG zn1 (by rw[zrT];exact ln)
  generalize cutD (nD G) (some z) none=us at ws wl;refine Z1 7 8 9 10 (fun j _ _ _ _ m=>m=m3+2*j) rfl ?_ ?_
  ·rintro j t a7 L U I m' K2 RT2 BK2 et2 rfl hK2 hRT2 hBK2;obtain⟨nm,Y,rfl⟩:=ws t (aV et2);have jl:=(aA.mp et2).1
   wp_walk using Q0 ?_ ?_ ?_ (fun r r0 r1=>?_),lf Y (fun J P=>?_),Zo (fun y hy=>?_)
   all_goals first|lia|skip
   rename_i s s0 s1;have mq:∀t∈cutD (pD J) none (some y),∃q∈J,t=.tuple [.int q.1,.int q.2]:=fun t ht=>by
    obtain⟨q,hq,rfl⟩:=ba.mp (zjc ht);exact⟨q,hq,rfl⟩
   have lq:(cutD (pD J) none (some y)).length<=6:=by
    rcases hy with rfl|rfl
    ·exact bG (mL (congrArg cM (zlP (k:=6)))) (by rw[dM];lia)
    ·exact bG (mL (congrArg cM (zlP (k:=2)))) (by rw[dM];lia)
   generalize cutD (pD J) none (some y)=vs at mq lq;refine zlz 8 9 10 (fun i L _ _ m=>m=m3+2*j+1+1/\∃is:List Int,L=some (.val (.list (is.map .int)))/\is.length<=4+2*i/\∀x∈is,0<=x/\x<=bits) ⟨rfl,[0,bits,s,r],rfl,by simp,by simp;lia⟩ ?_ ?_
   ·rintro i t L U I m K3 RT3 BK3 et3 ⟨rfl,is,rfl,li,hb⟩ hK3 hRT3 hBK3;obtain⟨q,hq,rfl⟩:=mq t (aV et3);have il:=(aA.mp et3).1;have q0:0<=q.2:=(P.1 q hq).1;have q1:q.2<=bits:=(P.1 q hq).2.1
    wp_walk
    ·rw[aL];show is.length+2<=_;lia
    ·exact hK3 _ _ _ _ ⟨rfl,is++[q.2,if q.2+1<bits then q.2+1 else bits],by simp,by simp;lia,fun x hx=>by
      rcases aE.mp hx with z|z
      ·exact hb x z
      ·simp only[aw,aK,or_false]at z;rcases z with rfl|rfl
       ·exact⟨q0,q1⟩
       ·split <;> lia⟩
   ·rintro L U I m ⟨rfl,is,rfl,li,hb⟩
    wp_walk
    refine Ub (cs:=is) (D:=.int) (fun _=>.bool true) (by lia) ?_ ?_
    ·intro h hh K4 X4 hK4
     wp_walk using rt Y ?_ ?_ ?_
     ·exact(hb h hh).1
     ·exact(hb h hh).2
     ·exact hK4
    ·wp_walk using ZJ ?_
     ·exact sd
     ·exact hK2 _ _ _ _ _ (by lia)
     ·exact absurd rfl hc
     ·simp at hc
  ·rintro a7 L U I m' rfl;exact hNX _ _ (hK _ _ ⟨_,_,_,_,_,_,_,_,_,_,rfl,rfl⟩)
 ·rintro ρ m ⟨a1,a2,a3,a4,a5,a6,a7,L,U,I,rfl,rfl⟩
  wp_walk
  exact hh _
end
section
open PySem.W PyProof.Rows
theorem zty{HD:m4->Option ah}{mg mb:qM}{h:aN}{w:aP}{C:ak}(T0:gT qv (looseW qv [ae "DEEDS",ae "PARTS"]) HD mg mb h) (J:mg (defName (top 75))=some (.ref C)) (XT:TupsAre TL mg h) (R:DctsAre PL FL mg h) (U:HshOk DL w h) (XE:ExcsAre EXS EYS (ae "DealError") mg h) :
  ∃fd:cD,(∀(s:au) (v:ah),oj s fd ⟨[v],[]⟩ [("_law_script",v)])/\∀base:aN,(JF h).In base->base.Ns mainGlobals mg->FnOk PySem.Challenge.rw_blockdeal_k26_blocks_taken.prog w (JF h) mg base CX0 12 C fd ["_law_script"] (zoD (JF h)):=by
 have T:=zqB T0;have HA:StD PySem.Challenge.rw_blockdeal_k26_blocks_taken.prog w (JF h) mg (ae "PARTS") Yg:=R.st U T0.g (by repeat (first|exact .head _|refine .tail _ ?_)) (by repeat (first|exact .head _|refine .tail _ ?_)) (by decide +kernel)
 have HJ:StF PySem.Challenge.rw_blockdeal_k26_blocks_taken.prog w (JF h) mg (ae "DEEDS") ["take","near","give","grow","keep","loose","move"]:=R.sf U T0.g (by repeat (first|exact .head _|refine .tail _ ?_)) (by repeat (first|exact .head _|refine .tail _ ?_)) (by decide +kernel)
 have HG:OwnE (JF h) mg (ae "NoDeed"):=zrA T0 (by kernel_rfl)
 have HF:OwnE (JF h) mg (ae "NoRoom"):=zrA T0 (by kernel_rfl)
 have Hz:QO (JF h) mg EXS EYS (ae "DealError"):=XE.ok;obtain⟨f,fd,DL⟩:=dq_g (x:="law") (ps:=["_law_script"]) T0 (zol (i:=75) (by kernel_rfl)) (by kernel_rfl) fun _ _ _ _ _ _ us hl=>by obtain⟨_,rfl⟩:=len1 hl;rfl
 have e0:bT f=bT C:=aJ (DL.m.symm.trans J);cases e0;refine⟨fd,fun s v=>?_,fun base _ _=>?_⟩
 ·obtain⟨oc,od,kV,doc,pm,an,cdv,ct,osl,rfl,_,_⟩:=DL.F.ex;exact .of_eq rfl
 let Z:ZZ:=⟨PySem.Challenge.rw_blockdeal_k26_blocks_taken.prog,w,JF h,mg,base⟩
 have G:=zhG (Z:=Z) (dqG (i:=1) T0 (bnd1 fun _ _ _ _ _ _ _=>rfl))  T
 have Hl:=zhH (Z:=Z) (dqG (i:=2) T0 (bnd2 fun _ _ _ _ _ _ _ _=>rfl)) G T
 have Hr:=zjx (Z:=Z) (dqG (i:=3) T0 (bnd1 fun _ _ _ _ _ _ _=>rfl))  T
 have Ht:=zjB (Z:=Z) (dqG (i:=8) T0 (bnd1 fun _ _ _ _ _ _ _=>rfl))  T
 have ES:=zkV (Z:=Z) (dqG (i:=18) T0 (bnd1 fun _ _ _ _ _ _ _=>rfl)) Hr T
 have EM:=zcJ (Z:=Z) (dqG (i:=19) T0 (bnd2 fun _ _ _ _ _ _ _ _=>rfl))  T
 have HP:=zpc (Z:=Z) (dqG (i:=11) T0 (bnd2 fun _ _ _ _ _ _ _ _=>rfl)) ES EM T
 have S:=zhF (Z:=Z) (dqG (i:=20) T0 (bnd1 fun _ _ _ _ _ _ _=>rfl)) HP T
 have N:=zjy (Z:=Z) (dqG (i:=21) T0 (bnd1 fun _ _ _ _ _ _ _=>rfl)) ES T
 have HE:=zkU (Z:=Z) (dqG (i:=10) T0 (bnd1 fun _ _ _ _ _ _ _=>rfl)) S N T
 have EZ:=zfu (Z:=Z) (dqG (i:=22) T0 (bnd2 fun _ _ _ _ _ _ _ _=>rfl))  T
 have Hs:=zjz (Z:=Z) (dqG (i:=12) T0 (bnd2 fun _ _ _ _ _ _ _ _=>rfl)) S EZ N T
 have E3:=zfv (Z:=Z) (dqG (i:=26) T0 (bnd1 fun _ _ _ _ _ _ _=>rfl))  T
 have E9:=zgk (Z:=Z) (dqG (i:=28) T0 (bnd2 fun _ _ _ _ _ _ _ _=>rfl))  T
 have Hm:=zhI (Z:=Z) (dqG (i:=25) T0 (bnd2 fun _ _ _ _ _ _ _ _=>rfl)) Hs HE E3 E9 T
 have Ha:=zgl (Z:=Z) (dqG (i:=33) T0 (bnd2 fun _ _ _ _ _ _ _ _=>rfl)) G T
 have E4:=zft (Z:=Z) (dqG (i:=34) T0 (bnd2 fun _ _ _ _ _ _ _ _=>rfl)) G T
 have Hu:=zjA (Z:=Z) (dqG (i:=32) T0 (bnd3 fun _ _ _ _ _ _ _ _ _=>rfl)) Hl Ha E4 T
 have Hw:=zjC (Z:=Z) (dqG (i:=31) T0 (bnd2 fun _ _ _ _ _ _ _ _=>rfl)) Ht Hu HA T
 have Hb:=zgm (Z:=Z) (dqG (i:=53) T0 (bnd2 fun _ _ _ _ _ _ _ _=>rfl))  T
 have Hv:=zjD (Z:=Z) (dqG (i:=52) T0 (bnd3 fun _ _ _ _ _ _ _ _ _=>rfl)) Hb Hm T
 have Hc:=zgn (Z:=Z) (dqG (i:=55) T0 (bnd4 fun _ _ _ _ _ _ _ _ _ _=>rfl))  T
 have HQ:=zpb (Z:=Z) (dqG (i:=43) T0 (bnd2 fun _ _ _ _ _ _ _ _=>rfl)) Hv Hc HF T
 have Y:=zpd (Z:=Z) (dqG (i:=51) T0 (bnd2 fun _ _ _ _ _ _ _ _=>rfl)) HQ Hw HG HJ T
 have Hj:=zfs (Z:=Z) (dqG (i:=57) T0 (bnd2 fun _ _ _ _ _ _ _ _=>rfl))  T
 have u:=zfr (Z:=Z) (dqG (i:=58) T0 (bnd2 fun _ _ _ _ _ _ _ _=>rfl))  T
 have y:=zgp (Z:=Z) (dqG (i:=59) T0 (bnd2 fun _ _ _ _ _ _ _ _=>rfl)) u T
 have Hf:=zgx (Z:=Z) (dqG (i:=60) T0 (bnd1 fun _ _ _ _ _ _ _=>rfl)) y T
 have L:=zfz (Z:=Z) (dqG (i:=61) T0 (bnd2 fun _ _ _ _ _ _ _ _=>rfl)) y u T
 have He:=zgr (Z:=Z) (dqG (i:=62) T0 (bnd3 fun _ _ _ _ _ _ _ _ _=>rfl)) y L T
 have EV:=zeH (Z:=Z) (dqG (i:=63) T0 (bnd3 fun _ _ _ _ _ _ _ _ _=>rfl)) u L He y T
 have EO:=zfx (Z:=Z) (dqG (i:=64) T0 (bnd3 fun _ _ _ _ _ _ _ _ _=>rfl)) EV T
 have E5:=zfy (Z:=Z) (dqG (i:=65) T0 (bnd2 fun _ _ _ _ _ _ _ _=>rfl)) u y T
 have Hg:=zgv (Z:=Z) (dqG (i:=66) T0 (bnd4 fun _ _ _ _ _ _ _ _ _ _=>rfl)) EO y u T
 have Hk:=zgw (Z:=Z) (dqG (i:=67) T0 (bnd2 fun _ _ _ _ _ _ _ _=>rfl)) E5 Hf u Hg T
 have EW:=zeG (Z:=Z) (dqG (i:=68) T0 (bnd2 fun _ _ _ _ _ _ _ _=>rfl))  T
 have Hh:=zgt (Z:=Z) (dqG (i:=69) T0 (bnd2 fun _ _ _ _ _ _ _ _=>rfl))  T
 have EK:=zgu (Z:=Z) (dqG (i:=70) T0 (bnd2 fun _ _ _ _ _ _ _ _=>rfl)) Hh EW T
 have ET:=zd8 (Z:=Z) (dqG (i:=71) T0 (bnd2 fun _ _ _ _ _ _ _ _=>rfl)) Y Hz T
 have Hi:=zgq (Z:=Z) (dqG (i:=72) T0 (bnd3 fun _ _ _ _ _ _ _ _ _=>rfl))  T
 have Ho:=zhJ (Z:=Z) (dqG (i:=73) T0 (bnd3 fun _ _ _ _ _ _ _ _ _=>rfl)) EK T
 have E6:=zfw (Z:=Z) (dqG (i:=74) T0 (bnd3 fun _ _ _ _ _ _ _ _ _=>rfl)) Ho Y ET Hi T
 exact(zrO (Z:=Z) DL Hj Hk u EK E6 T).imp zpv
end
end Bd
open PySem PySem.W PyProof.Rows
set_option maxRecDepth 100000 in
set_option maxHeartbeats 0 in
theorem PySem.Challenge.cw_blockdeal_k26_blocks_taken_holds : PySem.Challenge.rw_blockdeal_k26_blocks_taken.Holds := by
 w_on
 refine holds_law Bd.zoG fun l=>?_
 refine holds_open (r:=PySem.Challenge.rw_blockdeal_k26_blocks_taken.row) (d:=Bd.recD (Bd.top 75)) (kwd:=[]) Bd.zpt (YP:=Bd.HshOk Bd.DL) Bd.zs3 Bd.znJ (XP:=fun mg h=>XL Bd.qv [] mg h/\Bd.TupsAre Bd.TL mg h/\Bd.DctsAre Bd.PL Bd.FL mg h/\Bd.ExcsAre Bd.EXS Bd.EYS (ae "DealError") mg h) (fun s e=>⟨xl_of s (aT.mp (aT.mp (aT.mp (aT.mp e).1).1).1).1,Bd.zqC (aT.mp (aT.mp (aT.mp e).1).1).2,Bd.ztt (aT.mp (aT.mp e).1).2,Bd.ztd (aT.mp e).2⟩) (fun mg h h' x k=>⟨XL.keeps mg h h' x.1 k,x.2.1.keeps k,x.2.2.1.keeps k,x.2.2.2.keeps k⟩) (by kernel_rfl) (by kernel_rfl) (by kernel_rfl) (fun s e=>recFacts_of (aT.mp (aT.mp (aT.mp (aT.mp e).1).1).1).2) (by kernel_rfl) l (by kernel_rfl) ⟨rfl,rfl,rfl,rfl,rfl,by decide +kernel⟩ ?hw ?hc
 case hw=>w_witness2
 case hc=>exact Bd.zui (lw:=PySem.Challenge.rw_blockdeal_k26_blocks_taken) (k:=12) (by decide) rfl rfl fun w s₀ mg v y h G Y u=>Bd.zty G.T u G.X.2.1 G.X.2.2.1 Y G.X.2.2.2
