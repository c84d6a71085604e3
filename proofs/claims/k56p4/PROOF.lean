import PyProof.Rows.All
import Wide.All
import OpenK.AllK
import PySem.Challenge.RW_purseweb_k56_no_tree_and_not_still
set_option compiler.extract_closed false
set_option genSizeOf false
set_option maxHeartbeats 0
theorem Oaq(h:True:=by rfl):True:=h
def On:Lean.Syntax:=Oaq._auto_1
theorem Obq(h:True:=by decide):True:=h
def Op:Lean.Syntax:=Obq._auto_1
theorem Ocq(h:True:=by with_unfolding_all rfl):True:=h
def Os:Lean.Syntax:=Ocq._auto_1
theorem Odq(h:True:=by decide +kernel):True:=h
def Pi:Lean.Syntax:=Odq._auto_1
section
open Lean Parser.Tactic Parser.Term Parser
abbrev L2N:=Syntax.node .none
abbrev L2L x:=L2N ``rcasesPatLo #[L2N ``rcasesPatMed #[L2N `null #[x]],L2N `null #[]]
def L2v:Nat->Syntax->Syntax
|0,s=>s
|n+1,s=>if s.isOfKind ``anonymousCtor then L2N ``rcasesPat.tuple #[s[0],L2N `null (s[1].getArgs.mapIdx fun i x=>if i%2=1 then x else L2L (L2v n x)),s[2]]else if s.isOfKind ``hole then L2N ``rcasesPat.ignore #[s[0]]else L2N ``rcasesPat.one #[s]
def L2w:Nat->Term->Syntax->MacroM Syntax
|f+1,h,p=>do
 let s:=p[1].getSepArgs
 let c ← `(tactic|rcases $h:term with $(⟨L2L p⟩))
 if p.isOfKind ``rcasesPat.tuple&&s.size>1 then
  let a:=s[0]![0][0][0]
  let b:=if s.size=2 then s[1]![0][0][0]else p.setArg 1 (L2N `null (p[1].getArgs.extract 2 99))
  let m x(y:Name):Ident:=if x.isOfKind ``rcasesPat.one&&x[0].getId != `rfl then⟨x[0]⟩else mkIdent (y.appendIndexAfter f)
  let l:=m a `l
  let r:=m b `r
  let i:Ident:=⟨h⟩
  if i.getId==l.getId||i.getId==r.getId then return c
  `(tactic|first|((first|(have $l:ident:=And.left $h;have $r:ident:=And.right $h)|refine Exists.elim $h fun $l $r=>?_);(try clear $i);$(⟨← L2w f l a⟩);$(⟨← L2w f r b⟩))|$c:tactic)
 else return c
|_,_,x=>pure x
def L2m(x:Syntax):MacroM Syntax:=do
 let d:=x[1]
 let U:MacroM Syntax:=Macro.throwUnsupported
 let k:=x.setKind
 match x.getKind with
 |``Command.declaration=>
  if !d.isOfKind ``Command.definition||x[0][4].getNumArgs=1 then U else return if d[1][0].getId.getString!.front<'O' then x.setArg 0 (x[0].setArg 4 (L2N `null #[L2N ``Command.noncomputable #[mkAtom ""]])) else x.setArg 1 (L2N ``Command.theorem #[d[0],d[1],L2N ``Command.declSig #[d[2][0],d[2][1][0]],d[3]])
 |``apply=>if d[1].isOfKind ``Term.paren then U else return k ``exact
 |``Tactic.show=>return k ``refine
 |``dsimp=>if x[3].getNumArgs=1||x[4].getNumArgs=0 then U else return (x.setArg 3 (L2N `null #[mkAtom "only"])).setKind ``simp
 |``delta=>return k ``unfold
 |``tacticLet__=>
  let d:=x[2][0]
  if d.isOfKind ``letPatDecl then L2w 20 ⟨d[4]⟩ (L2v 9 d[0])else return k ``tacticHave__
 |_=>
  let p:=d.getArgs
  if (x.find? (·.isToken "|")).isSome||!p.any (·[0].isOfKind ``rcasesPat.tuple)then return k ``rintro
  let t ← p.mapM fun x=>do
   if x[0].isOfKind ``rcasesPat.tuple then `(tactic|(intro h;$(⟨← L2w 20 (← `(h)) x[0]⟩)))else `(tactic|rintro $(⟨x⟩):rintroPat)
  `(tactic|($[$t];*))
end
local macro_rules(kind:=Lean.Parser.Command.declaration)|x=>L2m x
local macro_rules(kind:=Lean.Parser.Tactic.apply)|x=>L2m x
local macro_rules(kind:=Lean.Parser.Tactic.show)|x=>L2m x
local macro_rules(kind:=Lean.Parser.Tactic.dsimp)|x=>L2m x
local macro_rules(kind:=Lean.Parser.Tactic.delta)|x=>L2m x
local macro_rules(kind:=Lean.Parser.Tactic.tacticLet__)|x=>L2m x
local macro_rules(kind:=Lean.Elab.Tactic.Ext.ext)|x=>L2m x
local macro_rules
|`(⋯)=>`(by simp)
|`(∅)=>`(by decide)
|`(~~~$e)=>`(by simpa using $e)
|`($e|>$i:ident)=>`(autoParam $e $i)
local macro_rules|`(())=>`(by lia)
set_option bootstrap.genMatcherCode false
open Option renaming some->aA,none->aB,bind_some->aZ,isSome_iff_exists->dY,map_some->dz,bind_eq_bind->pW,isSome_map->q9,getD_none->rE,none->tJ,some->ax
open Bool renaming false->aC,true->aD,and_eq_true->af,false_ne_true->br,not_eq_true'->jE,eq_iff_iff->ji,or_eq_true->jq,false_eq_true->qH,true_and->sx
open PySem renaming wpAny_bind->aE,Value->aI,wpAny_pure->aM,starEach->aN,Addr->aP,Shared->aR,wpAny->az,Str->bJ,Program->bO,Expr->bT,World->bX,mainGlobals->bY,Around->bg,Heap->bp,wpAny_mono->bq,wpAny_call_entry->bu,wpAny_newObj_type->cA,Stmt->cD,wpAny_callSpecial?_slot->cE,wpAny_Call_Name_kw->cU,wpAny_field->cY,wpAny_holding->cg,backTo->ck,foldedSetIterable->cw,wpAny_truthy_bool->dJ,compareOp->dW,behindInMarks->dX,sizeLine_eq->dh,bootBuiltins->dj,mem_of_lookup->eJ,wpAny_seqItems->eZ,Obj->fE,strLen_append->fH,rawInt->fJ,wpAny_setField->fM,codeAny_builtin->fR,Str->fW,codeAny_mono->fX,wpAny_typeNameOfWhole_keyiter->fg,wpAny_ite_split->gD,cLine->gE,SetTable->gH,swapsWith->gO,binaryOp->gS,wpAny_setField_rec->gV,ofString_length->gY,Pos->g6,wpAny_execs_nil->g7,wpAny_passesOwn->g8,FuncData->gj,wpAny_loadPart_at->gw,wpAny_typeNameOf_keyiter->iA,wpAny_isSubtype_exc->iD,wpAny_execs_cons->iH,NameKind->iI,sysModules->iR,call_meets->iT,int_text_length_le->iW,wpAny_attempt->ik,wpAny_setState_of->jF,IsPair->jL,wpAny_FormattedValue_plain->jO,codeAny->jT,Scope->jX,bindArgs->jc,plainId_quiet->jf,wpAny_ite_false->jn,argBest->jo,wpAny_call->jx,sliceBounds->kB,wpAny_letGo->kC,getItem->kI,wpAny_typeOf->kJ,Builtin->kM,wpAny_pyIter_slot->kN,wpAny_tryCatch->kT,pyNext->kY,wpAny_isInstance->kZ,wpAny_onRaise->k8,wpAny_newList->kc,ExceptHandler->kd,wpAny_updateSeq_pair->kh,excClassObj->kq,wpAny_loadPart'->lA,wpAny_setEntries_of->lH,intKind->lM,codeAmong->lT,assignEach->lV,wpAny_pyIter_tuple->lW,wpAny_newFunctionEnv_cells->lX,tupleKind_room_in1->l8,wpAny_rule->l9,wpAny_fieldsOf->lh,wpAny_binaryOp_repeat_ref->mC,wpAny_sequenceKey->mJ,wpAny_of_eq->mM,wpAny_dictEntries->mO,IsPart->mX,wpAny_comprehension_free->mZ,tupleKind->mz,noFill_tuple_add->nA,wpAny_askSetting->nF,noteFrame->nG,wpAny_Try_except->nH,builtinsNs->nK,pyIter->nM,typeIs_int->nQ,closureFor->nU,wpAny_formatField_none->n6,letOwnedTupleGo->oB,IsZip->oF,wpAny_dictEpoch->oG,wpAny_updateSeq->oN,wpAny_isTrue_Compare1->oO,codeAny_call_function->oP,wpAny_isOneOf_keyiter->oR,Env->oW,wpAny_Expr_any->oX,recursionLimit->o4,keywordEach->o5,compEnvC->o9,wpAny_newFunctionEnv->og,firstArgMember->oh,isSubtype_stop->oj,unbindBehindTheSuite->pA,formatField_of_reads->pC,codeAny_call_builtin->pE,PassesOwn->pL,BindsTo->pM,Keyword->pN,Arguments->pO,notedBy->pR,seqItems?->pS,wpAny_standAt->p6,seq_tuple_add->p7,attributeBase->p9,wpAny_handled->ph,isTrue->qA,intKind_is->qN,GenState->qT,concat_meets->qW,seqIndex_neg->qX,valueAt->qZ,ExcBaseFacts->qk,callerA->qt,lastMarks->rA,cellsFrom->rC,pickOrder->rM,tupleText->rN,CmpOp->rW,seqIndex_of->rX,wpAny_throw->rY,standAt->sC,wpAny_Name->sH,backToKw->sJ,bindL->sL,bindC->sM,atKey->sO,relayAll->sT,defaultsOf->sY,Tok->si,Within->tD,Result->tG,layNew->tH
open List renaming length->la,getElem?_eq_getElem->aF,length_map->aJ,getD_eq_getElem?_getD->aK,range->aL,mem_singleton->aO,getElem?_eq_some_iff->aQ,mem_cons_of_mem->aS,size_toArray->aT,replicate->aW,mem_cons->aY,mem_map->aa,getElem?_map->ag,length_append->ah,mem_append->aj,map_cons->ak,mem_range->ao,map_congr_left->aq,mem_cons_self->ar,mem_append_left->au,nodup_cons->av,mem_of_getElem?->aw,mem_append_right->bA,getElem?_append_left->bB,length_cons->bH,length_take->bK,all_eq_true->bN,getElem?_append_right->bQ,map_append->bR,map_map->bS,length_eq_zero_iff->bV,length_range->bZ,length_singleton->ba,getElem_mem->bw,append_nil->bx,getElem?_set->cB,length_replicate->cH,nodup_nil->cI,lookup_cons->cL,take_of_length_le->cN,sum_cons->cO,getElem?_replicate->cP,length_drop->cQ,getElem?_eq_none->cT,getElem_of_mem->cW,length_set->cq,getElem?_set_ne->cu,pairwise_map->dC,mem_filter->dG,not_mem_nil->dZ,nodup_append->dq,mem_of_mem_take->dt,pairwise_append->dw,getElem?_set_self->eB,take_length->eD,filterMap_cons->eI,replicate_succ->eM,getElem?_range->eO,take_append_of_le_length->eQ,append_assoc->fL,length->fQ,pairwise_iff_getElem->fS,zip_cons_cons->fU,take_sublist->fm,ext_getElem?->gA,mem_map_of_mem->gK,drop_eq_nil_of_le->gM,nodup_range->gQ,mem_flatMap->gR,take_append_drop->gX,drop_eq_getElem_cons->gZ,foldl_cons->g9,flatten_cons->gk,mem_of_mem_drop->gn,mem_erase_of_ne->gp,getElem?_take_of_lt->hV,length_erase_of_mem->iB,length_flatMap->iG,any_eq_true->iM,ext_getElem->iN,range_succ_eq_map->iV,length_pos_of_mem->iX,of_mem_zip->i6,find?_cons->i9,countP_eq_length_filter->ie,concat_eq_append->iu,reverse_cons->jB,take_add_one->jC,map_id->jP,take_succ->jR,toArray->jV,getElem_map->jW,mem_of_find?_eq_some->jZ,length_pos_iff->j8,range_succ->jm,take_left'->ju,mem_filterMap->jv,getElem?_drop->jy,find?_eq_none->jz,getElem?_cons_succ->kD,map_nil->kK,take_succ_eq_append_getElem->kS,eq_nil_or_concat->kW,getElem_inj->kX,all_cons->ka,map_take->ke,mem_iff_getElem->kj,all_map->lO,getElem?_zip_eq_some->mE,mem_take_iff_getElem->mH,foldl_append->mP,range'->mT,flatMap_cons->mU,mem_range'_1->mV,set_eq_of_length_le->m3,filterMap_cons_some->m7,idxOf_lt_length_iff->m9,map_drop->me,pairwise_mergeSort->nB,countP_cons->nI,foldl->nR,pairwise_lt_range->nY,length_nil->oE,sum_append->oH,find?_some->oM,perm_cons_erase->ou,getElem_toArray->pH,mergeSort_perm->pV,length_reverse->pY,filter_eq_self->pZ,any_cons->pf,contains_cons->qK,getElem_range->qL,getElem_idxOf->qM,map_replicate->qO,filter_append->qQ,ne_nil_of_mem->qR,idxOf_append->qm,map_set->qx,perm_middle->rH,mem_reverse->rR,cons_append->rS,flatMap_nil->rT,map_flatMap->rV,filter->r9,nil_append->rb,countP_map->rj,range_zero->rq,take_zero->sQ,drop_zero->sd,take_nil->sk,drop_nil->sr
open PySem.W renaming Frag->aG,kitOne->c9,fnOf->cf,codeIn->dS,kia_one->dU,nsIn->dm,findIn->eY,ktsIn->fF,keepIn->fK,callWith_K->gU,excIn->ip,kla_fn->jM,tabObj->jQ,kts_cls->jr,cellsFrom_some->kG,mg_of->k9,tabIn->kf,looks_findIn->ku,mroIn->mW,envX->ng,mem_of_lookupK->nh,instObj->oA,CodeHd->oV,lookIn->oY,InstAt->oZ,codeRec_of->qB,kitx_list->qU,kitx_dict->qV,plainGet->rB,kas_place->rJ,binds_K->rg,noTabs->s9
open PySem.Heap renaming get?_push_of_some->aH,lt_size->aV,get?_push_size->aX,get?_update_other->bj,get?_update_self->cS,SameBut->dD,size_push->dH,get?_none_of_le->jI,ExtBut->mL,size_update->nE,get?_push_ne->qj
open Nat renaming le_refl->aU,lt_of_lt_of_le->ay,ne_of_lt->bC,le_trans->cG,lt_irrefl->cR,zero_le->dM,le_of_lt->dR,lt_of_le_of_lt->eu,lt_succ_of_lt->fN,ne_of_gt->gL,lt_succ_self->iK,min_eq_left->i8,le_add_right->jU,min_eq_right->k6,le_succ->kg,mul_le_mul_right->kz,zero_add->lQ,mul_le_mul->lq,add_zero->nV,sub_self->nj,add_le_add_left->pT,add_left_cancel->pU,mul_comm->qY,le_succ_of_le->qc,mod_eq_of_lt->rO,zero_lt_one->rp,strongRecOn->rz,mod_lt->sV
open Option.some renaming inj->bM,injEq->mQ
open Ne renaming symm->bU
open Array renaming length_toList->bW,getElem?_eq_getElem->cV,getElem?_eq_some_iff->dI,getElem?_toList->di,toList_append->gG,getElem?_eq_none->iS,getElem_toList->jN,toArray_toList->ko,toList_push->mK,getD->nX,replicate->oK,toList_extract->oz,toList_inj->rD,toList->tE
open PyProof.Rows renaming slot_tuple_getitem->bc,callWith_type1->cJ,seqObj->fA,step_dedup->gC,callWith_builtin1->iJ,IntsAre->jA,envOfC->j6,formatField_int_small->kU,entry_tuple_getitem->lE,slicePart_none->lY,args_tuple_getitem->l7,AllBare->mI,listUpdate_at->m5,subscriptTail_builtinR->nO,entry_list_sort->oJ,slot_list_sort->om,args_list_sort->ot,Constant_none->p0,tupleItemsOf_->p8,Subscript_->qC,size_push'->qG,IsTup->qS,listItems_at->qd,plain_sorted->qf,entry_sorted->qg,args_sorted1->qh,kind_sorted->rZ,seqEpoch_at->r8,boot_range->sI,step_dedup->sX,Call_->sy
open False renaming elim->bz
open PySem.SetTable renaming below->cC,has->fZ,insertAt->gq,turns->iO,runEnd->js,freeSlot->mR,layClean->mS,slot->m6,bits->m8,fill->ma,probeStart->pX,laid->pw,fits->px,orStandIn->qI,advance->rK,tooFull->rQ,fresh->sR,Probe->sS,probe->sW
open PySem.F renaming plainAttrs_list->cF,slot_list_append->da,type_list_append->df,args_tuple_add_2->jd,entry_tuple_add->kA,slot_tuple_add->kH,slot_list_extend->mh,type_list_extend->mj,slot_list_insert->mq,type_list_insert->mw,slot_set_iter->oU
open True renaming intro->cK
open PySem.Obj renaming data_mapFields->cM,mapSeq->eK,isFreed_of_fields->eV,mapFields->fY,cls_mapFields->gm
open Int renaming toNat->cX,le_refl->cz,mul_comm->dF,toNat_natCast->dk,neg_mul->eU,mul_assoc->fI,mul_le_mul_of_nonneg_right->fV,mul_nonneg->fj,mul_left_comm->gy,mul_zero->gz,zero_mul->hU,mul_le_mul_of_nonneg_left->iQ,emod_lt_of_pos->iY,fdiv_eq_ediv_of_nonneg->jJ,le_of_mul_le_mul_left->j4,toNat_of_nonneg->j7,mul_fdiv_cancel_left->jh,emod_nonneg->jt,mul_sub->kE,mul_add->ky,eq_of_mul_eq_mul_left->mF,lt_mul_ediv_self_add->mx,le_of_lt->n9,le_trans->nu,one_mul->pI,natAbs_mul->pJ,mul_ediv_self_le->pK,lt_or_gt_of_ne->qP,lt_trichotomy->qr,add_zero->qy,add_mul->ra,not_lt->sf
open PySem.Value renaming ref->cZ,none->ee,int->fT,type->jH,str->my,bool->nJ,isStrOf->sj
open PySem.NameKind renaming free->cj,cell->ig
open PySem.Heap.SameBut renaming update->dE
open PySem.Builtin.Slice renaming slicePlaces->dN,sliceApplied->l6,sliceAdjust->mB
open Classical renaming byContradiction->dQ
open PySem.PyData renaming int->fC,hasDictAll->kQ,shownAll->lC,depth->nZ,tuple->n8,showableAll->qJ,depthAll->rh
open PySem.Str renaming ofString->fO,empty->jS
open PyProof.Rows.F renaming plain_set_update_loop->gJ,entry_set_update_loop->ja
open Sum renaming inl->gW,inr->sA
open PySem.PassesOwn renaming never->gh
open PySem.SetTable.probe renaming go->gu
open PySem.Around renaming under_plainId->gx,frames_deeper->o6
open PySem.Builtin.Tuple renaming tupleExact->iC,tupleItemsOf->jK
open ForInStep renaming yield->i7
open PySem.SetTable.below renaming go->jD
open PySem.Calls renaming call_function_entry->jY,spliced_cons->jw,spliced_nil->kF,Name_function_global->lU,evalArgs_plain->o7
open PySem.Builtin.Int renaming intBits->j9
open PySem.Builtin.List renaming listTooLong->je
open List.Perm renaming refl->kO,eq_of_pairwise->m4
open PySem.SetTable.layClean renaming free->kR
open PySem.SeqAt.EqAt renaming bool_bool->km,same->oI,of_refs->qE
open PySem.Challenge renaming pw_purseweb_k56_no_tree_and_not_still->lI,rw_purseweb_k56_no_tree_and_not_still->lJ
open PySem.Builtin.SmallTypes renaming nextOf->mD
open Or renaming inl->mY,inr->o8
open PySem.W.WData renaming weightAll->nC,int->rF
open PySem.SeqAt renaming EqAt->nW
open PySem.Builtin.Dict renaming showsAll->oQ
open PyProof.Rows.IsTup renaming new->pQ
open List.cons renaming inj->pq
open PySem.Heap.IsSliceOf renaming new->qD
open PySem.Code renaming quiet_builtin->qF
open Function renaming comp_def->qo
open PySem.Builtin.Frozenset renaming updateFrom->rk
open PySem.Builtin.Builtins renaming bindParams->sE
open PySem.CmpOf renaming ints_lt->su
open PySem.SetTable.Met.empty renaming injEq->sv
open PySem.IsRange renaming new->tI
open PySem.Shared renaming heap->tK
open Sum.inl renaming inj->tN
open PySem.W.KasT renaming ret->tO
open Prod.mk renaming inj->tP
abbrev N7:=List (List Int)
abbrev N6:=List Nat
abbrev Gj:=List Int
abbrev JK:=List (aP×fE)
abbrev Gu:=aI->aR->Prop
abbrev JM:=bJ->Option aI
abbrev Gm:=List bJ
abbrev Gr:=List aI
abbrev Gs:=List aP
abbrev Ka:=Nat->Int
abbrev aan:=Nat->Nat->Nat->Bool
abbrev Co:=Option aP
abbrev Mo:=Option Int
abbrev Ez:=Nat->Nat
abbrev Mk:=List bT
abbrev aai:=Array (Int×aI)
abbrev aau:=Array (Option aI)
abbrev aac:=List (bJ×aP)
abbrev GD:=Array aI
abbrev GB:=List oW
abbrev aaa:=Array Nat
abbrev aaq:=Nat->List aP
abbrev Cs:=List cD
abbrev N_:=Nat->bp->Prop
abbrev M_:=Int->Int->Int
abbrev L_:=String
abbrev L3:=List (Nat×Nat×Nat)
abbrev L1:=Int->Int->Prop
abbrev L0:=List Bool
abbrev Lm:=Nat->aI->Prop
abbrev Le:=aP->Prop
abbrev K_:=List (List Nat)
abbrev K0:=List (bJ×iI)
abbrev J_:=Nat->Nat->Int
abbrev I_:=Nat×Nat×Nat
theorem An.{u}{c:Prop}{h:Decidable c}(b:c){a:Sort u}{t e:a}:ite c t e=t:=if_pos b
theorem N4.{u}{c:Prop}{h:Decidable c}(b:Not c){a:Sort u}{t e:a}:ite c t e=e:=if_neg b
noncomputable section
set_option Elab.async false
set_option linter.all false
set_option maxRecDepth 100000
namespace _l
open PySem PySem.Spec PyProof.Rows
abbrev JL:=Sum Int bJ
def MP:JL->aI->Bool
 | .inl k,v=>aI.isInt k v
 | .inr x,v=>sj x v
def JF(w:bX):JL->Int
 | .inl k=>hashInt k
 | .inr x=>hashStr w x
def Yk:∀{k:JL}{v:aI},MP k v=aD->(∃i t,k=gW i/\v=fT i t)\/(∃x t,k=sA x/\v=my x t)
 | .inl i,v,h=>by let⟨t,e⟩:=aI.isInt_shape h;apply .inl ⟨i,t,rfl,e⟩
 | .inr x,v,h=>by let⟨t,e⟩:=aI.isStrOf_shape h;apply .inr ⟨x,t,rfl,e⟩
def kn(i:Int)(t:si):MP (.inl i) (.int i t)=aD:=by simp[MP,aI.isInt]
def sl(x:bJ)(t:si):MP (.inr x) (.str x t)=aD:=by simp[MP,sj]
def Zjg(a b:Int):decide ((gW a:JL)=gW b)=(a==b):=by grind
def Zjh(a b:bJ):decide ((sA a:JL)=sA b)=decide (a=b):=⋯
def Zji(a:Int)(b:bJ):decide ((gW a:JL)=sA b)=aC:=decide_eq_false (λq=>nomatch q)
def Zjj(a:bJ)(b:Int):decide ((sA a:JL)=gW b)=aC:=decide_eq_false (λq=>nomatch q)
def Dg(prog:bO)(w:bX):PySem.KeyKind prog w JL where
 is:=MP
 hash:=JF w
 inj:=λv a b Mi Ck=>by
  rcases Yk Mi with⟨i,t,rfl,rfl⟩ | ⟨x,t,rfl,rfl⟩
  ·rcases Yk Ck with⟨j,u,rfl,e⟩ | ⟨y,u,rfl,e⟩
   ·injection e with Mc _;rw[Mc]
   ·apply nomatch e
  ·rcases Yk Ck with⟨j,u,rfl,e⟩ | ⟨y,u,rfl,e⟩
   ·apply nomatch e
   ·injection e with Mc _;rw[Mc]
 byValue:=λk v h=>by rcases Yk h with⟨i,t,rfl,rfl⟩ | ⟨x,t,rfl,rfl⟩<;>rfl
 pyHash:=λEy h=>by
  rcases Yk Ey with⟨i,t,rfl,rfl⟩ | ⟨x,t,rfl,rfl⟩
  ·apply wpAny_pyHash_int h
  ·apply wpAny_pyHash_str h
 eqBool:=λAx Ey h=>by
  rcases Yk Ax with⟨i,t,rfl,rfl⟩ | ⟨x,t,rfl,rfl⟩
  ·rcases Yk Ey with⟨j,u,rfl,rfl⟩ | ⟨y,u,rfl,rfl⟩
   ·rw[Zjg] at h;apply wpAny_eqBool_int h
   ·rw[Zji] at h;apply nW.int_str i t y u _ _ _ _ h
  ·rcases Yk Ey with⟨j,u,rfl,rfl⟩ | ⟨y,u,rfl,rfl⟩
   ·rw[Zjj] at h;apply nW.str_int x t j u _ _ _ _ h
   ·rw[Zjh] at h;apply wpAny_eqBool_str h
 «strs»:=λk x t v h=>by
  rcases Yk h with⟨i,u,rfl,e⟩ | ⟨y,u,rfl,e⟩
  ·apply nomatch e
  ·injection e with Mc _;subst Mc;cases v<;>rfl
def uF(prog:bO)(w:bX)(i:Int)(t:si):(Dg prog w).is (.inl i) (.int i t)=aD:=kn i t
def R8(prog:bO)(w:bX)(x:bJ)(t:si):(Dg prog w).is (.inr x) (.str x t)=aD:=sl x t
inductive V where
 | Ma | Ap (b:Bool) | int (i:Int) | str (x:bJ) | aaz (b:Array UInt8) | aa5 (b:UInt64) | ref (a:aP) | ty (n:L_)
 deriving DecidableEq
noncomputable def RelV:V->aI->Prop
 | .Ma,u=>u=ee
 | .Ap b,u=>u=nJ b
 | .int i,u=>∃t,u=fT i t
 | .str x,u=>∃t,u=my x t
 | .aaz b,u=>∃t,u=aI.bytes b t
 | .aa5 b,u=>∃t,u=aI.float b t
 | .ref a,u=>u=cZ a
 | .ty n,u=>u=jH n
abbrev Gp:List V->List aI->Prop:=Paired RelV
def Gp.length{xs:List V}{a:Gr}(r:Gp xs a):la xs=la a:=Paired.length r
def Gp.get:∀{xs:List V}{us:Gr}{i:Nat}{x:V},Gp xs us->xs[i]?=aA x->∃u,us[i]?=aA u/\RelV x u
 | _,_,_,_,.nil,e=>by simp at e
 | _,_,0,_,.cons r _,e=>by simp at e;subst e;apply⟨_,rfl,r⟩
 | _,_,i+1,x,.cons _ t,e=>by let⟨u,b,a⟩:=Gp.get (i:=i) (x:=x) t (~~~e);apply⟨u,by simpa using b,a⟩
def Gp.set{x:V}{u:aI}(r:RelV x u):∀{xs:List V}{us:Gr}(i:Nat),Gp xs us->Gp (xs.set i x) (us.set i u)
 | _,_,_,.nil=>.nil
 | _,_,0,.cons _ t=>.cons r t
 | _,_,i+1,.cons q t=>.cons q (Gp.set r i t)
def Gp.append:∀{xs L9:List V}{us ws:Gr},Gp xs us->Gp L9 ws->Gp (xs++L9) (us++ws)
 | _,_,_,_,.nil,s=>s
 | _,_,_,_,.cons r t,s=>.cons r (Gp.append t s)
def Gp.take:∀{xs:List V}{us:Gr}(n:Nat),Gp xs us->Gp (xs.take n) (us.take n)
 | _,_,0,_=>.nil
 | _,_,_+1,.nil=>.nil
 | _,_,n+1,.cons r t=>.cons r (Gp.take n t)
def Gp.drop:∀{xs:List V}{us:Gr}(n:Nat),Gp xs us->Gp (xs.drop n) (us.drop n)
 | _,_,0,r=>r
 | _,_,_+1,.nil=>.nil
 | _,_,n+1,.cons _ t=>Gp.drop n t
def Ng:Option V->Option aI->Prop
 | some v,aA u=>RelV v u
 | none,aB=>True
 | _,_=>False
def KV{κ:Type}:List (κ×V)->List (κ×aI)->Prop:=Paired λ(p:κ×V) (q:κ×aI)=>p.1=q.1/\RelV p.2 q.2
def GS:JL->V
 | .inl i=>.int i
 | .inr x=>.str x
inductive HO where
 /-- a list -/
 | lst (xs:List V)
 /-- a tuple (never changes) -/
 | tup (xs:List V)
 /-- a dict acf keys are ints and texts;one acf keys are tuples of ints and texts (AA empty one is both) -/
 | Mf (JJ:List (JL×V)) | L8 (JJ:List (List JL×V))
 /-- a set of ints: Av members,Av size -/
 | set (S:Int->Bool) (n:Nat)
 /-- an instance of AA class at C,Av dict at Mm,Av attributes -/
 | ins (C Mm:aP) (fs:List (bJ×V))
 /-- AA dict of AA instance at x -/
 | own (x:aP)
 /-- AA dict of an exception -/
 | abk (fs:List (bJ×V))
 /-- a bound method,f of x -/
 | met (f x:aP)
 /-- a range object lo,lo+1,.. below N9 -/
 | abl (lo N9:Int)
 /-- a acg abw is known to AA object (AA acp;a dict while a loop walks it): read,never written while it is acq -/
 | Er (o:fE) (u:HO)
 /-- a code acr table -/
 | aaj (ps:GD)
 /-- any other acg,by ab8 is aD of Av one object (a def of ach own: SetO a S n:=HO.ext λh=>..) -/
 | ext (φ:bp->Prop)
abbrev Hp:=aP->Option HO
noncomputable def upd(H:Hp)(a:aP)(o:HO):Hp:=λb=>if b=a then aA o else H b
def bh{H:Hp}{a:aP}{o:HO}:upd H a o a=aA o:=by delta upd;rw[An rfl]
def a_{H:Hp}{a b:aP}{o:HO}(h:b≠a):upd H a o b=H b:=by delta upd;rw[N4 h]
def Zms{H:Hp}{a b:aP}{o u:HO}(h:H a=aA o)(h':H b=aA u)(d:o≠u):a≠b:=by grind
def Zk{H:Hp}{a b:aP}{o:HO}(h:H a=aA o)(h':H b=aB):a≠b:=by grind
def KZ(x:bJ):Bool:=x=="tree_of" || x=="still_by" || x=="made_of"
def Nl(x:bJ):bJ:=x++".<locals>."++"<lambda>"
def GO(o:fE)(q:bJ):Prop:=∃vs t,o.data = .fields vs/\vs[1]?=aA (.str q t)
def KH(q:bJ)(H:Hp)(ps:Gr):Prop:=TriplesOk ps/\∀pos v,lT pos ps=aA v->∃c o,v = .ref c/\H c=aA (.Er o (.own 0))/\GO o q
def Qe{h:bp}{T:aI}{xs:GD}{n:Nat}{o:fE}(e:(h.push { cls:=T,data:=.seq xs n }).get? h.objs.size=aA o):o.dict=aB:=by rw[aX _ rfl] at e;cases e;rfl
section
variable (P:bO) (w:bX)
def J6(H:Hp)(h:bp)(a:aP):HO->Prop
 | .lst xs=>xs.length<=sizeLine/\∃(Av:Gr) (n:Nat),Gp xs Av/\h.get? a=aA { cls:=.type "list",data:=.seq Av.toArray n }
 | .tup xs=>(xs.length<=sizeLine/\∀o,h.get? a=aA o->o.dict=aB)/\∃Av:List aI,Gp xs Av/\qS h a Av.toArray
 | .Mf JJ=>JJ.length<=sizeLine/\(a==iR)=aC/\∃vs,KV JJ vs/\h.DictOf (Dg P w) a vs
 | .L8 JJ=>JJ.length<=sizeLine/\(a==iR)=aC/\∃xs:List (List JL×aP×aI),
   Paired (λ(p:List JL×V) (q:List JL×aP×aI)=>p.1=q.1/\H q.2.1=aA (.tup (p.1.map GS))/\RelV p.2 q.2.2) JJ xs/\
   ∃o Gi ep,h.get? a=aA o/\o.ExactDict/\o.data = .dict Gi ep/\Gi.toList=xs.map (entryOfKey (mz (Dg P w)))/\(xs.map (·.1)).Nodup
 | .set S n=>h.SetOf (lM P w) a S n
 | .ins C Mm fs=>H Mm=aA (.own a)/\fs.length<=1000/\Mm≠a/\h.get? a=aA (oA C Mm)/\
   ∃aa0,h.Ns1 Mm aa0/\(∀f,Ng (fs.lookup f) (aa0 f))/\tD aa0 (fs.map (·.1))
 | .own _=>∃o,h.get? a=aA o
 | .abk fs=>∃aa0,h.Ns1 a aa0/\∀f,Ng (fs.lookup f) (aa0 f)
 | .abl lo N9=>∃t u v,h.get? a=aA { cls:=.type "range",data:=.fields #[.int lo t,.int N9 u,.int 1 v] }
 | .Er o u=>h.get? a=aA o/\J6 H h a u
 | .aaj ps=>∃(q:bJ) (t:si) (abm:GD),ps[0]?=aA (.str q t)/\h.get? a=aA { cls:=.none,data:=.fields abm }/\KH q H abm.toList
 | .met f x=>h.get? a=aA (PySem.W.methodObj (.ref f) (.ref x))
 | .ext φ=>φ h/\(∃o,h.get? a=aA o)/\∀Es Md:bp,φ Es->(∀o,Es.get? a=aA o->Md.get? a=aA o)->φ Md
def AX(H:Hp)(h:bp):Prop:=∀a o,H a=aA o->J6 P w H h a o
end
section
variable {P:bO} {w:bX} {H H':Hp} {h h':bp} {a:aP} {o:HO}
def J6.lt(x:J6 P w H h a o):a<h.objs.size:=by
 cases o with
 | lst xs=>let⟨_,_,_,_,e⟩:=x;apply aV e
 | tup xs=>let⟨_,_,_,p⟩:=x;apply p.lt
 | Mf JJ=>let⟨_,_,_,_,o,_,_,e,_⟩:=x;apply aV e
 | L8 JJ=>let⟨_,_,_,_,o,_,_,e,_⟩:=x;apply aV e
 | set S n=>let⟨o,_,_,_,e,_⟩:=x;apply aV e
 | ins C Mm fs=>let⟨_,_,_,e,_⟩:=x;apply aV e
 | own y=>let⟨_,e⟩:=x;apply aV e
 | abk fs=>let⟨_,⟨_,_,_,e,_⟩,_⟩:=x;apply aV e
 | abl lo N9=>let⟨_,_,_,e⟩:=x;apply aV e
 | Er aak u=>let⟨e,_⟩:=x;apply aV e
 | aaj ps=>let⟨_,_,_,_,e,_⟩:=x;apply aV e
 | met f y=>apply aV (show h.get? a=aA _ from x)
 | ext φ=>let⟨_,⟨_,e⟩,_⟩:=x;apply aV e
def Paired.abx{d c:Type}{F G:d->c->Prop}:∀{l₁:List d}{l₂:List c},Paired F l₁ l₂->(∀a b,F a b->G a b)->Paired G l₁ l₂
 | _,_,.nil,_=>.nil
 | _,_,.cons r t,f=>.cons (f _ _ r) (Paired.abx t f)
theorem J6.EC(x:J6 P w H h a o)(k:∀b u,(b=a\/H b=aA (.own a))->h.get? b=aA u->h'.get? b=aA u)
  (F:∀b,H b=aA (.own a)->H' b=aA (.own a)) (L:∀b xs,H b=aA (.tup xs)->H' b=aA (.tup xs)) (B:∀b u,H b=aA (.Er u (.own 0))->H' b=aA (.Er u (.own 0))):J6 P w H' h' a o:=by
 induction o with
 | lst xs=>let⟨z,A,n,r,e⟩:=x;apply⟨z,A,n,r,k _ _ (.inl rfl) e⟩
 | tup xs=>let⟨z,A,r,g,e,c⟩:=x;apply⟨⟨z.1,λo q=>by rw[k _ _ (.inl rfl) e] at q;cases q;apply z.2 _ e⟩,A,r,g,k _ _ (.inl rfl) e,c⟩
 | Mf JJ=>let⟨z,y,vs,r,g,i,ep,e,c⟩:=x;apply⟨z,y,vs,r,g,i,ep,k _ _ (.inl rfl) e,c⟩
 | L8 JJ=>
  let⟨z,y,xs,r,g,i,ep,e,c⟩:=x;apply⟨z,y,xs,Paired.abx r λp q z=>⟨z.1,L _ _ z.2.1,z.2.2⟩,g,i,ep,k _ _ (.inl rfl) e,c⟩
 | set S n=>let⟨g,i,ep,t,e,c⟩:=x;apply⟨g,i,ep,t,k _ _ (.inl rfl) e,c⟩
 | ins C Mm fs=>
  let⟨d,z,ne,e,j,⟨m,i,ep,l,c⟩,r⟩:=x;apply⟨F _ d,z,ne,k _ _ (.inl rfl) e,j,⟨m,i,ep,k _ _ (.inr d) l,c⟩,r⟩
 | own y=>let⟨g,e⟩:=x;apply⟨g,k _ _ (.inl rfl) e⟩
 | abk fs=>let⟨j,⟨m,i,ep,e,c⟩,r⟩:=x;apply⟨j,⟨m,i,ep,k _ _ (.inl rfl) e,c⟩,r⟩
 | abl lo N9=>let⟨t,u,v,e⟩:=x;apply⟨t,u,v,k _ _ (.inl rfl) e⟩
 | Er g u N8=>let⟨e,q⟩:=x;apply⟨k _ _ (.inl rfl) e,N8 q⟩
 | aaj ps=>
  let⟨q,t,s,E,e,D,G⟩:=x;show⟨q,t,s,E,k a _ (.inl rfl) e,D,λpos v I=>?_⟩;let⟨c,o,M,l,J⟩:=G pos v I;apply⟨c,o,M,B c o l,J⟩
 | met f y=>
  let e:=x;apply k a _ (.inl rfl) e
 | ext φ=>let⟨p,⟨o,e⟩,st⟩:=x;apply⟨st _ _ p λo q=>k _ _ (.inl rfl) q,⟨o,k _ _ (.inl rfl) e⟩,st⟩
def AX.lt(x:AX P w H h)(e:H a=aA o):a<h.objs.size:=(x a o e).lt
def AX.fresh(x:AX P w H h)(e:h.objs.size<=a):H a=aB:=by
 cases q:H a with
 | none=>rfl
 | some u=>apply absurd (ay (x.lt q) e) (cR _)
def AX.kept(x:AX P w H h)(k:∀b u,h.get? b=aA u->h'.get? b=aA u):AX P w H h':=λa o e=>
 (x a o e).EC (λb u _ q=>k b u q) (λ_ q=>q) (λ_ _ q=>q) λ_ _ q=>q
def AX.laid(x:AX P w H h)(k:∀b u,h.get? b=aA u->h'.get? b=aA u)(g:h.objs.size<=a)(new:J6 P w (upd H a o) h' a o):AX P w (upd H a o) h':=λb u e=>by
 let d:=x.fresh g;by_cases f:b=a
 ·subst f;rw[bh] at e;cases e;apply new
 ·rw[a_ f] at e;apply(x b u e).EC (λc v _ q=>k c v q) (λc q=>by rw[a_ (Zk q d)];apply q) (λc xs q=>by rw[a_ (Zk q d)];apply q) λc u q=>by rw[a_ (Zk q d)];apply q
end
def ET(H:Hp)(a:aP)(u:HO):Prop:=H a=aA u\/∃o,H a=aA (.Er o u)
def ET.ok{P:bO}{w:bX}{H:Hp}{h:bp}{a:aP}{u:HO}(r:ET H a u)(x:AX P w H h):J6 P w H h a u:=by
 rcases r with r | ⟨o,r⟩
 ·apply x a u r
 ·let⟨_,q⟩:=x a _ r;apply q
def EN:Option HO->Prop
 | some (.lst _)=>True
 | some (.Mf _)=>True
 | some (.L8 _)=>True
 | some (.set _ _)=>True
 | some (.ins _ _ _)=>True
 | some (.ext _)=>True
 | _=>False
section
variable {P:bO} {w:bX} {H:Hp} {h h':bp} {x e:aP} {JR:HO}
def AX.write(ok:AX P w H h)(f:EN (H x))(m:e=x\/H e=aA (.own x))(k:∀b u,b≠e->h.get? b=aA u->h'.get? b=aA u)(l:∃u,h'.get? e=aA u)
  (new:J6 P w (upd H x JR) h' x JR):AX P w (upd H x JR) h':=λb u q=>by
 let d:∀c y,H c=aA (.own y)->c≠x:=λc y r z=>by subst z;rw[r] at f;apply f
 let g:∀c xs,H c=aA (.tup xs)->c≠x:=λc xs r z=>by subst z;rw[r] at f;apply f
 by_cases i:b=x
 ·subst i;rw[bh] at q;cases q;apply new
 ·rw[a_ i] at q;by_cases a:b=e
  ·let n:H b=aA (.own x):=by
    rcases m with z | z
    ·apply absurd (a.trans z) i
    ·rw[a];apply z
   rw[q] at n;cases n;let⟨v,o⟩:=l;apply⟨v,by rw[a];apply o⟩
  ·show(ok b u q).EC (λc v j r=>k c v ?_ r) (λc r=>by rw[a_ (d c b r)];apply r) (λc xs r=>by rw[a_ (g c xs r)];apply r) λc v r=>by rw[a_ (λz=>by subst z;rw[r] at f;apply f)];apply r
   rcases j with rfl | j
   ·apply a
   ·ext rfl;rcases m with z | z
    ·apply d c b j z
    ·rw[j] at z;cases z;apply i rfl
end
structure Au(fs ex:Gs)(H H':Hp)(h h':bp):Prop where
 keep:∀b o,h.get? b=aA o->H b=aB->b∉fs->b∉ex->h'.get? b=aA o
 slot:∀b o,h.get? b=aA o->H b=aB->b∈fs->b∉ex->∃MO,h'.get? b=aA { o with slots:=MO }
 free:∀b o,h.get? b=aA o->H b=aB->b∉ex->H' b=aB
 there:∀b o,h.get? b=aA o->b∉ex->∃JR,h'.get? b=aA JR
 aad:∀b xs,H b=aA (.tup xs)->H' b=aA (.tup xs)
 AE:∀b o u,H b=aA (.Er o u)->H' b=aA (.Er o u)
 Cv:∀b ps,H b=aA (.aaj ps)->∃more,H' b=aA (.aaj (ps++more))
section
variable {fs fs' ex ab9:Gs} {H H1 H2:Hp} {h Es Md h':bp} {a x e:aP} {o:HO}
def Au.any(u:Au fs ex H H1 h Es){b:aP}{a:fE}(q:h.get? b=aA a)(n:H b=aB)(d:b∉ex):∃MO,Es.get? b=aA { a with slots:=MO }:=by
 by_cases c:b∈fs
 ·apply u.slot b a q n c d
 ·apply⟨a.slots,u.keep b a q n c d⟩
def Au.kept(k:∀b u,h.get? b=aA u->h'.get? b=aA u):Au fs ex H H h h':=
 ⟨λb a q _ _ _=>k b a q,λb a q _ _ _=>⟨a.slots,k b a q⟩,λ_ _ _ n _=>n,λb a q _=>⟨a,k b a q⟩,λ_ _ q=>q,λ_ _ _ q=>q,λ_ ps q=>⟨#[],by rw[q];simp⟩⟩
def Au.refl:Au fs ex H H h h:=Au.kept λ_ _ q=>q
def Au.laid(k:∀b u,h.get? b=aA u->h'.get? b=aA u)(d:h.objs.size<=a)(c:H a=aB):Au fs ex H (upd H a o) h h' where
 keep:=λb u q _ _ _=>k b u q
 slot:=λb u q _ _ _=>⟨u.slots,k b u q⟩
 free:=λb u q n _=>by rw[a_ (bC (ay (aV q) d))];apply n
 there:=λb u q _=>⟨u,k b u q⟩
 aad:=λb xs q=>by rw[a_ (Zk q c)];apply q
 AE:=λb u xs q=>by rw[a_ (Zk q c)];apply q
 Cv:=λb ps q=>⟨#[],by rw[a_ (Zk q c),q];simp⟩
def Au.write(c:EN (H x))(j:e=x\/H e=aA (.own x))(k:∀b u,b≠e->h.get? b=aA u->h'.get? b=aA u)(d:∃u,h'.get? e=aA u):Au fs ex H (upd H x o) h h':=by
 let i:∀b,H b=aB->b≠x:=λb n z=>by subst z;rw[n] at c;apply c
 let g:∀b,H b=aB->b≠e:=λb n z=>by
  subst z;rcases j with r | r
  ·apply i b n r
  ·rw[n] at r;cases r
 let f:∀b u,H b=aA u->¬EN (aA u)->b≠x:=λb u q nm z=>by subst z;rw[q] at c;apply nm c
 show⟨λb u q n _ _=>k b u (g b n) q,λb u q n _ _=>⟨u.slots,k b u (g b n) q⟩,λb u q n _=>by rw[a_ (i b n)];apply n,λb u q _=>?_,
  λb xs q=>by rw[a_ (f b _ q λz=>z)];apply q,λb u xs q=>by rw[a_ (f b _ q λz=>z)];apply q,λb ps q=>⟨#[],by rw[a_ (f b _ q λz=>z),q];simp⟩⟩
 by_cases a:b=e
 ·subst a;apply d
 ·apply⟨u,k b u a q⟩
end
def Ld(K:aG)(mg:JM)(base:bp)(H:Hp):Prop:=∀(q:bJ)(c:aP),KZ q=aD->dS K (.ref c) q=aD->
 ∃Pt ps t,oV base c Pt/\H Pt=aA (.aaj ps)/\ps[0]?=aA (.str (Nl q) t)/\base.BuiltinsAt mg Pt
def Ld.un{K:aG}{mg:JM}{a:bp}{fs o:Gs}{H f:Hp}{h h':bp}(t:Ld K mg a H)(u:Au fs o H f h h'):Ld K mg a f:=λq c k g=>by
 let⟨Pt,ps,tk,m,j,b,i⟩:=t q c k g;let⟨e,l⟩:=u.Cv Pt ps j
 let d:0<ps.size:=by
  cases z:ps.size with
  | zero=>rw[iS ()] at b;cases b
  | succ n=>lia
 apply⟨Pt,_,tk,m,l,by rw[Array.getElem?_append_left d];apply b,i⟩
def BJ(h:bp)(H:Hp):List aP:=(aL h.objs.size).filter λa=>(H a).isSome
def Kf(h:bp)(H:Hp):bp:=PySem.W.hideAll h (BJ h H)
def Un(h:bp)(H:Hp):(Kf h H).objs.size=h.objs.size:=PySem.W.hideAll_size _ _
def r2{h:bp}{H:Hp}{b:aP}{o:fE}(e:h.get? b=aA o)(n:H b=aB):(Kf h H).get? b=aA o:=
 PySem.W.hideAll_get _ e λa=>by let q:=(dG.mp a).2;rw[n] at q;simp at q
def Zen{h:bp}{H:Hp}{b:aP}{o:fE}(e:(Kf h H).get? b=aA o):h.get? b=aA o/\H b=aB:=by
 let a:=PySem.W.of_hideAll (BJ h H) e;show⟨a,?_⟩
 cases q:H b with
 | none=>rfl
 | some x=>
  let c:b∈BJ h H:=dG.mpr ⟨ao.mpr (aV a),by simp[q]⟩;let z:(Kf h H).get? b=aB:=PySem.W.hideAll_none (BJ h H) c;rw[z] at e;cases e
def Cf(g h:bp)(L:aP):List (aP×fE):=(aL h.objs.size).filterMap λa=>if a=L\/(g.get? a).isSome=aD then aB else(h.get? a).map λo=>(a,o)
def EH(g h:bp)(L d:aP):List (aP×fE):=(Cf g h L).filter λp=>decide (p.1≠d)
structure Mod(K:aG)(mg:JM)(base:bp):Prop where
 aav:K.In base
 glob:base.Ns bY mg
 blt:∃aa1,base.Ns nK aa1/\∀x:bJ,x≠"__name__"->aa1 x=dj x
 nolimit:base.NoLimit
 seer:base.NoSeer
structure Cx where
 prog:bO
 w:bX
 K:aG
 mg:bJ->Option aI
 base:bp
 A:bg
 N:List bJ
 s₀:aR
 H₀:Hp
 env:oW
 outer:List oW
 stack:List oW
 ex:List aP
 fn:bJ->Bool
 calm:Bool
 GG:List (aP×fE)
 Ar:aI->aR->Prop
def Mu(l:GB):List aP:=l.filterMap (·.frame)
abbrev Cx.fs(X:Cx):List aP:=Mu X.outer
def BC(sc:jX)(x:bJ):Prop:=sc.names.lookup x=aA .local\/sc.names.lookup x=aA .cell\/sc.names.lookup x=aA .free
def Loc(sc:jX)(x:bJ):Prop:=sc.names.lookup x=aA .local\/sc.names.lookup x=aA .cell
def D9(env:oW)(h:bp)(m:JM)(x:bJ)(u:aI):Prop:=
 (env.kindOf x=aA .local/\m x=aA u)\/((env.kindOf x=aA .cell\/env.kindOf x=aA .free)/\∃c,env.cells.lookup x=aA c/\h.IsCell c (aA u))
structure Cx.Ok(X:Cx):Prop where
 mod:Mod X.K X.mg X.base
 kind:X.env.scope.kind = .function
 glob:X.env.globals=bY
 blt:X.env.builtins=nK
 above:X.s₀.heap.objs.size<=X.env.locals
 inj:∀x y c,X.env.cells.lookup x=aA c->X.env.cells.lookup y=aA c->x=y
 has:∀x,(X.env.kindOf x=aA .cell\/X.env.kindOf x=aA .free)->∃c,X.env.cells.lookup x=aA c
 aa2:∀x c,X.fn x=aD->X.env.cells.lookup x=aA c->X.s₀.heap.objs.size<=c
 hd:X.calm=aD->X.A.handled=aB
 frames:X.A.frames=aA X.stack
 aao:X.stack=X.outer\/(X.stack=X.env::X.outer/\X.env.frame=aA X.env.locals)
 Cu:∀b∈X.ex,b≠X.env.locals/\∀x c,X.env.cells.lookup x=aA c->c≠b
 bs:∀b o,X.base.get? b=aA o->X.s₀.heap.get? b=aA o/\X.H₀ b=aB
 aae:X.base.objs.size<=X.s₀.heap.objs.size
 aa6:∀b o,X.base.get? b=aA o->b∉X.ex
 aa7:∀b∈X.ex,b∉X.fs
 ED:X.s₀.heap.FunFrames X.base X.outer
 aal:∀b∈X.fs,X.H₀ b=aB
 tab:Ld X.K X.mg X.base X.H₀
 abe:∀q:bJ,X.env.func≠aB->X.env.qual=q++".<locals>."->KZ q=aD->dS X.K X.env.code q=aD
structure Inv(X:Cx)(N5:JK)(σ:List (Option V))(H:Hp)(s:aR):Prop where
 ok:X.Ok
 os:s.os=X.s₀.os
 bare:mI s.gens
 base:Au X.fs X.ex X.H₀ H X.s₀.heap s.heap
 loc:∃m,s.heap.Ns X.env.locals m/\∀(i:Nat)(x:bJ)(v:V),X.N[i]?=aA x->σ[i]?=aA (aA v)->BC X.env.scope x->∃u,RelV v u/\D9 X.env s.heap m x u
 cell:∀x c,X.env.cells.lookup x=aA c->∃v,s.heap.IsCell c v
 free:H X.env.locals=aB
 GH:∀x c,X.env.cells.lookup x=aA c->H c=aB
 pin:∀p∈X.GG++N5,s.heap.get? p.1=aA p.2/\H p.1=aB/\p.1≠X.env.locals/\p.1∉X.fs/\∀v,p.2.data≠.cell v
 L5:AX X.prog X.w H s.heap
 len:la σ=X.N.length
section
variable {X:Cx} {N5:JK} {σ:List (Option V)} {H H':Hp} {s:aR} {h':bp}
def Cx.Ok.aci(ok:X.Ok){b:aP}{o:fE}(e:X.base.get? b=aA o):b∉X.fs:=λa=>by let:=(ok.ED.mem a).1;rw[e] at this;cases this
def Inv.bs(I:Inv X N5 σ H s):∀b o,X.base.get? b=aA o->s.heap.get? b=aA o/\H b=aB:=λb o e=>
 ⟨I.base.keep b o (I.ok.bs b o e).1 (I.ok.bs b o e).2 (I.ok.aci e) (I.ok.aa6 b o e),I.base.free b o (I.ok.bs b o e).1 (I.ok.bs b o e).2 (I.ok.aa6 b o e)⟩
theorem Inv.Gw(I:Inv X N5 σ H s):∀b o,X.base.get? b=aA o->s.heap.get? b=aA o:=λb o e=>(I.bs b o e).1
def Inv.mod(I:Inv X N5 σ H s):Mod X.K X.mg X.base:=I.ok.mod
theorem Inv.GA(I:Inv X N5 σ H s):X.K.In s.heap:=I.ok.mod.aav.keeps I.Gw
def Inv.fr(I:Inv X N5 σ H s):∃m,Fr X.base X.env.locals s.heap m:=
 let⟨m,a,_⟩:=I.loc
 ⟨m,a,I.Gw,cG I.ok.aae I.ok.above⟩
def Inv.lt(I:Inv X N5 σ H s):X.env.locals<s.heap.objs.size:=let⟨_,a,_⟩:=I.loc;a.lt
theorem Inv.GC(I:Inv X N5 σ H s):X.s₀.heap.objs.size<=s.heap.objs.size:=cG I.ok.above (dR I.lt)
def Inv.acj(I:Inv X N5 σ H s){a:aP}(h:s.heap.objs.size<=a):a∉X.fs:=λb=>by let⟨_,o,c,_⟩:=I.ok.ED.mem b;apply absurd (ay (aV c) (cG I.GC h)) (cR _)
def Inv.aaf(I:Inv X N5 σ H s):∀x c,X.env.cells.lookup x=aA c->c≠X.env.locals:=λx c e z=>by let⟨v,o,f,d⟩:=I.cell x c e;let⟨m,⟨h,g,ep,a,b,_⟩,_⟩:=I.loc;rw[z,a] at f;cases f;rw[b] at d;cases d
theorem Inv.ED(I:Inv X N5 σ H s):s.heap.FunFrames X.base X.outer:=by
 let all:∀(l:GB),(∀b∈Mu l,b∈X.fs)->X.s₀.heap.FunFrames X.base l->s.heap.FunFrames X.base l:=by
  ext l
  induction l with
  | nil=>ext _ _;trivial
  | cons env r N8=>
   ext hs h;let⟨k,⟨L,o,a,g,i,f⟩,j⟩:=h;let d:L∈X.fs:=hs L (by delta Mu;rw[eI,a];apply ar);let⟨m,e⟩:=I.base.slot L o i (I.ok.aal L d) d λz=>I.ok.aa7 L z d;apply⟨k,⟨L,_,a,g,e,f⟩,N8 (λb c=>hs b (by delta Mu;rw[eI,a];apply aS _ c)) j⟩
 apply all X.outer (λ_ c=>c) I.ok.ED
def Inv.stack(I:Inv X N5 σ H s):s.heap.FunFrames X.base X.stack:=by
 rcases I.ok.aao with e | ⟨e,a⟩
 ·rw[e];apply I.ED
 ·rw[e];let⟨m,b,_⟩:=I.loc;show .cons (by rw[I.ok.kind];decide) a b ?_ I.ED;apply jI (cG I.ok.aae I.ok.above)
def Inv.abn(I:Inv X N5 σ H s):∀b∈Mu X.stack,b∈X.env.locals::X.fs:=λb a=>by
 rcases I.ok.aao with e | ⟨e,c⟩
 ·rw[e] at a;apply aS _ a
 ·rw[e] at a;delta Mu at a;rw[eI,c] at a;apply a
def Inv.abo(I:Inv X N5 σ H s):∀b∈Mu X.stack,H b=aB:=λb a=>by
 rcases aY.mp (I.abn b a) with e | a
 ·rw[e];apply I.free
 ·let⟨_,o,c,_⟩:=I.ok.ED.mem a;apply I.base.free b o c (I.ok.aal b a) λz=>I.ok.aa7 b z a
def Inv.step{Q:Array qT}{t':Nat}{W:Drawn}{ch:Gs}(I:Inv X N5 σ H s)
  (g:∀b∈ch,(b∈X.ex\/X.s₀.heap.objs.size<=b)/\b≠X.env.locals/\(∀x c,X.env.cells.lookup x=aA c->c≠b)/\∀p∈X.GG++N5,p.1≠b)
  (keep:∀b o,b≠X.env.locals->b∉X.fs->b∉ch->s.heap.get? b=aA o->H b=aB->h'.get? b=aA o)
  (w:∀b o,b≠X.env.locals->b∈X.fs->b∉ch->s.heap.get? b=aA o->H b=aB->∃O,h'.get? b=aA { o with slots:=O }) (free:∀b o,b∉ch->s.heap.get? b=aA o->H b=aB->H' b=aB)
  (A:∀b o,b∉ch->s.heap.get? b=aA o->∃E,h'.get? b=aA E)
  (G:∀b xs,H b=aA (.tup xs)->H' b=aA (.tup xs)) (C:∀b o u,H b=aA (.Er o u)->H' b=aA (.Er o u)) (J:∀b ps,H b=aA (.aaj ps)->∃more,H' b=aA (.aaj (ps++more)))
  (ns:∀m,s.heap.Ns X.env.locals m->h'.Ns X.env.locals m) (N:AX X.prog X.w H' h') (Z:mI Q) :
  Inv X N5 σ H' { s with heap:=h',gens:=Q,drawn:=W,toks:=t' }:=by
 let F:∀b o,X.s₀.heap.get? b=aA o->b≠X.env.locals:=λb o e=>bC (ay (aV e) I.ok.above)
 let t:∀b o,X.s₀.heap.get? b=aA o->b∉X.ex->b∉ch:=λb o e a y=>by
  rcases(g b y).1 with z | z
  ·apply a z
  ·apply absurd (ay (aV e) z) (cR _)
 let f:∀x c,X.env.cells.lookup x=aA c->∀v,s.heap.IsCell c v->h'.IsCell c v:=by
  ext x c e v ⟨o,B,L⟩;let h:=λz=>(g c z).2.2.1 x c e rfl;by_cases R:c∈X.fs
  ·let⟨O,q⟩:=w c o (I.aaf x c e) R h B (I.GH x c e);apply⟨_,q,L⟩
  ·apply⟨o,keep c o (I.aaf x c e) R h B (I.GH x c e),L⟩
 show⟨I.ok,I.os,Z,⟨λb o e n y a=>?_,λb o e n y a=>?_,λb o e n a=>?_,λb o e a=>?_,λb xs e=>G b xs (I.base.aad b xs e),λb o xs e=>C b o xs (I.base.AE b o xs e),λb ps e=>?_⟩,?_,λx c e=>?_,?_,λx c e=>?_,λp S=>?_,N,I.len⟩
 ·apply keep b o (F b o e) y (t b o e a) (I.base.keep b o e n y a) (I.base.free b o e n a)
 ·let⟨O,j⟩:=I.base.slot b o e n y a;let⟨M,D⟩:=w b _ (F b o e) y (t b o e a) j (I.base.free b o e n a);apply⟨M,D⟩
 ·let⟨E,j⟩:=I.base.there b o e a;apply free b E (t b o e a) j (I.base.free b o e n a)
 ·let⟨E,j⟩:=I.base.there b o e a;apply A b E (t b o e a) j
 ·let⟨aby,j⟩:=I.base.Cv b ps e;let⟨abz,D⟩:=J b _ j;apply⟨aby++abz,by rw[D,Array.append_assoc]⟩
 ·let⟨m,T,U⟩:=I.loc;show⟨m,ns m T,λi x v j D Y=>?_⟩;let⟨u,r,l⟩:=U i x v j D Y;show⟨u,r,?_⟩;rcases l with l | ⟨k,c,e,z⟩
  ·apply .inl l
  ·apply .inr ⟨k,c,e,f x c e _ z⟩
 ·let⟨v,z⟩:=I.cell x c e;apply⟨v,f x c e v z⟩
 ·let⟨m,⟨o,_,_,B,_⟩,_⟩:=I.loc;apply free _ o (λz=>(g _ z).2.1 rfl) B I.free
 ·let⟨v,o,B,L⟩:=I.cell x c e;apply free c o (λz=>(g c z).2.2.1 x c e rfl) B (I.GH x c e)
 ·let⟨e,n,ne,P,d⟩:=I.pin p S;let h:=λz=>(g p.1 z).2.2.2 p S rfl;apply⟨keep p.1 p.2 ne P h e n,free p.1 p.2 h e n,ne,P,d⟩
def Inv.un{t':Nat}(I:Inv X N5 σ H s)(u:Au X.fs [] H H' s.heap h')(f:AX X.prog X.w H' h'):Inv X N5 σ H' { s with heap:=h',toks:=t' }:=by
 let⟨m,⟨o,q,ep,g,r⟩,_⟩:=id I.loc;let⟨p,j⟩:=u.any g I.free ⋯
 apply I.step (ch:=[]) (λ_ z=>nomatch z) (λb o _ c _ e n=>u.keep b o e n c ⋯) (λb o _ c _ e n=>u.slot b o e n c ⋯) (λb o _ e n=>u.free b o e n ⋯) (λb o _ e=>u.there b o e ⋯) u.aad u.AE u.Cv (λk i=>by
  let⟨l,es',d,a,h⟩:=i;rw[g] at a;cases a;apply⟨_,es',d,j,h⟩) f I.bare
def Inv.call{j:Array qT}{t':Nat}{t:Drawn}{ch:Gs}(I:Inv X N5 σ H s)(u:Au (Mu X.stack) ch H H' s.heap h')(i:AX X.prog X.w H' h')(w:mI j)
  (d:∀b∈ch,(b∈X.ex\/X.s₀.heap.objs.size<=b)/\b≠X.env.locals/\(∀x c,X.env.cells.lookup x=aA c->c≠b)/\∀p∈X.GG++N5,p.1≠b) :
  Inv X N5 σ H' { s with heap:=h',gens:=j,drawn:=t,toks:=t' }:=by
 let⟨m,⟨o,C,ep,k,r⟩,_⟩:=id I.loc;let⟨B,g⟩:=u.any k I.free λz=>(d _ z).2.1 rfl
 apply I.step d (λb o g l a e n=>u.keep b o e n (λz=>(aY.mp (I.abn b z)).elim g l) a) (λb o _ _ a e n=>u.any e n a) (λb o a e n=>u.free b o e n a) (λb o a e=>u.there b o e a) u.aad u.AE u.Cv (λy v=>by
  let⟨A,es',h,f,q⟩:=v;rw[k] at f;cases f;apply⟨_,es',h,g,q⟩) i w
def Inv.turned{t':Nat}{it:aP}(I:Inv X N5 σ H s)(k:∀b o,b≠it->s.heap.get? b=aA o->h'.get? b=aA o)(j:H it=aB)(f:it≠X.env.locals)
  (h:it∈X.ex\/X.s₀.heap.objs.size<=it) (w:∀x c,X.env.cells.lookup x=aA c->c≠it) (i:∀p∈X.GG++N5,p.1≠it):Inv X N5 σ H { s with heap:=h',toks:=t' }:=by
 let d:∀b u,H b=aA u->b≠it:=λb u e z=>by rw[z,j] at e;cases e
 show I.step (ch:=[it]) (λb g=>?_) (λb o _ _ a e _=>k b o (λz=>a (by simp[z])) e) (λb o _ _ a e _=>⟨o.slots,k b o (λz=>a (by simp[z])) e⟩) (λ_ _ _ _ n=>n)
  (λb o a e=>⟨o,k b o (λz=>a (by simp[z])) e⟩) (λ_ _ e=>e) (λ_ _ _ e=>e) (λb ps e=>⟨#[],by rw[e];simp⟩) (λm t=>?_) (λb u e=>?_) I.bare
 ·let e:b=it:=by simpa using g
  subst e;apply⟨h,f,w,i⟩
 ·let⟨o,y,ep,l,r⟩:=t;apply⟨o,y,ep,k _ o (bU f) l,r⟩
 ·show(I.L5 b u e).EC (λc v a q=>k c v ?_ q) (λ_ q=>q) (λ_ _ q=>q) λ_ _ q=>q;rcases a with z | z
  ·rw[z];apply d b u e
  ·apply d c _ z
def Inv.tok(I:Inv X N5 σ H s)(t:Nat):Inv X N5 σ H { s with toks:=t }:=I.un Au.refl I.L5
def Inv.kept{t':Nat}(I:Inv X N5 σ H s)(k:∀b u,s.heap.get? b=aA u->h'.get? b=aA u):Inv X N5 σ H { s with heap:=h',toks:=t' }:=I.un (Au.kept k) (I.L5.kept k)
def Inv.laid{a:aP}{o:HO}{t':Nat}(I:Inv X N5 σ H s)(k:∀b u,s.heap.get? b=aA u->h'.get? b=aA u)(c:s.heap.objs.size<=a)(new:J6 X.prog X.w (upd H a o) h' a o) :
  Inv X N5 σ (upd H a o) { s with heap:=h',toks:=t' }:=I.un (Au.laid k c (I.L5.fresh c)) (I.L5.laid k c new)
def Inv.write{x e:aP}{o:HO}{t':Nat}(I:Inv X N5 σ H s)(d:EN (H x))(c:e=x\/H e=aA (.own x))(k:∀b u,b≠e->s.heap.get? b=aA u->h'.get? b=aA u)(a:∃u,h'.get? e=aA u)
  (new:J6 X.prog X.w (upd H x o) h' x o):Inv X N5 σ (upd H x o) { s with heap:=h',toks:=t' }:=I.un (Au.write d c k a) (I.L5.write d c k a new)
def Inv.weak{a:List (Option V)}(I:Inv X N5 σ H s)(g:la a=la σ)(w:∀(i:Nat) v,a[i]?=aA (aA v)->σ[i]?=aA (aA v)):Inv X N5 a H s:=
 ⟨I.ok,I.os,I.bare,I.base,let⟨m,e,b⟩:=I.loc;⟨m,e,λi x v c f d=>b i x v c (w i v f) d⟩,I.cell,I.free,I.GH,I.pin,I.L5,g.trans I.len⟩
def Inv.abf{a:JK}(I:Inv X N5 σ H s)(h:∀p∈a,s.heap.get? p.1=aA p.2/\H p.1=aB/\p.1≠X.env.locals/\p.1∉X.fs/\∀v,p.2.data≠.cell v):Inv X a σ H s:=
 ⟨I.ok,I.os,I.bare,I.base,I.loc,I.cell,I.free,I.GH,λp b=>(aj.mp b).elim (λz=>I.pin p (au _ z)) (h p),I.L5,I.len⟩
def Oz{N:Gm}(d:N.Nodup){i j:Nat}{x:bJ}(a:N[i]?=aA x)(b:N[j]?=aA x):i=j:=by let⟨g,c⟩:=aQ.mp a;let⟨f,e⟩:=aQ.mp b;apply(kX d).mp (c.trans e.symm)
def du{M:Model}{A:bg}{E:Gu}{i:Nat}{x:bJ}{v:V}{u:aI}{Q:Unit->aR->Prop}(I:Inv X N5 σ H s)(GF:X.N.Nodup)(O:X.N[i]?=aA x)(t:Loc X.env.scope x)(r:RelV v u)
  (h:∀Aq,Inv X N5 (σ.set i (aA v)) H Aq->(∃a,dD a s.heap Aq.heap/\(a=X.env.locals\/X.env.cells.lookup x=aA a))->Q .unit Aq) (hf:X.fn x=aD\/X.env.scope.names.lookup x=aA .local:=by first | apply .inl rfl | apply .inr rfl | assumption):az M A (storeName X.env x u) Q E s:=by
 let⟨m,Y,Kb⟩:=id I.loc;let P:(X.env.scope.kind==.class || (X.env.scope.kind==.module&&X.env.locals != X.env.globals))=aC:=by rw[I.ok.kind];rfl
 let D:i<la σ:=by rw[I.len];apply(aQ.mp O).1
 let aaf:=I.aaf
 let f:∀{a:aP}{h':bp},(∃o,s.heap.get? a=aA o/\H a=aB)->dD a s.heap h'->AX X.prog X.w H h':=λ{a h'} Mi hs b aak e=>by
  let⟨_,_,w⟩:=Mi;show(I.L5 b aak e).EC (λc T l q=>(hs.2 c ?_).trans q) (λ_ q=>q) (λ_ _ q=>q) λ_ _ q=>q;ext rfl;rcases l with rfl | l
  ·rw[w] at e;cases e
  ·rw[w] at l;cases l
 rcases t with C | C
 ·show wpAny_storeName_local C Y (λh' hn' hs=>?_) P;let⟨aca,_,_,Z,_⟩:=id Y;show h _ ⟨I.ok,I.os,I.bare,⟨λb o e n G t=>?_,λb o e n G t=>?_,I.base.free,λb o e t=>?_,I.base.aad,I.base.AE,I.base.Cv⟩,⟨_,hn',λj y aar g B Gy=>?_⟩,λy c e=>?_,I.free,I.GH,λp Gn=>?_,f ⟨aca,Z,I.free⟩ hs,by simpa using I.len⟩ ⟨_,hs,.inl rfl⟩
  ·apply(hs.2 b (bC (ay (aV e) I.ok.above))).trans (I.base.keep b o e n G t)
  ·let⟨MO,g⟩:=I.base.slot b o e n G t;apply⟨MO,(hs.2 b (bC (ay (aV e) I.ok.above))).trans g⟩
  ·let⟨JR,g⟩:=I.base.there b o e t;apply⟨JR,(hs.2 b (bC (ay (aV e) I.ok.above))).trans g⟩
  ·by_cases J:j=i
   ·subst J;rw[O] at g;cases g;rw[eB D] at B;cases B;apply⟨u,r,.inl ⟨C,⋯⟩⟩
   ·rw[cu (bU J)] at B;let⟨aa8,Kd,q⟩:=Kb j y aar g B Gy;show⟨aa8,Kd,?_⟩;rcases q with⟨k,e⟩ | ⟨k,c,e,z⟩
    ·show .inl ⟨k,?_⟩;have:y≠x:=λe=>J (Oz GF g (e▸O));simp[this,e]
    ·apply .inr ⟨k,c,e,z.sameBut hs (aaf y c e)⟩
  ·let⟨T,z⟩:=I.cell y c e;apply⟨T,z.sameBut hs (aaf y c e)⟩
  ·let⟨e,n,ne,W,d⟩:=I.pin p Gn;apply⟨(hs.2 p.1 ne).trans e,n,ne,W,d⟩
 ·let F:X.fn x=aD:=by
   rcases hf with z | z
   ·apply z
   ·rw[z] at C;cases C
  let⟨c,l⟩:=I.ok.has x (.inl C);let⟨T,z⟩:=I.cell x c l;show wpAny_storeName_cell I.ok.kind C l z (λh' R hs=>?_);let⟨Cp,S,L⟩:=id z;show h { s with heap:=h' } ⟨I.ok,I.os,I.bare,⟨λb o e n G t=>?_,λb o e n G t=>?_,I.base.free,λb o e t=>?_,I.base.aad,I.base.AE,I.base.Cv⟩,⟨m,Y.sameBut hs (bU (aaf x c l)),λj y aar g B Gy=>?_⟩,λy U e=>?_,I.free,I.GH,λp Gn=>?_,f ⟨Cp,S,I.GH x c l⟩ hs,by simpa using I.len⟩ ⟨c,hs,.inr l⟩
  ·apply(hs.2 b (bC (ay (aV e) (I.ok.aa2 x c F l)))).trans (I.base.keep b o e n G t)
  ·let⟨MO,g⟩:=I.base.slot b o e n G t;apply⟨MO,(hs.2 b (bC (ay (aV e) (I.ok.aa2 x c F l)))).trans g⟩
  ·let⟨JR,g⟩:=I.base.there b o e t;apply⟨JR,(hs.2 b (bC (ay (aV e) (I.ok.aa2 x c F l)))).trans g⟩
  ·by_cases J:j=i
   ·subst J;rw[O] at g;cases g;rw[eB D] at B;cases B;apply⟨u,r,.inr ⟨.inl C,c,l,R⟩⟩
   ·rw[cu (bU J)] at B;let⟨aa8,Kd,q⟩:=Kb j y aar g B Gy;show⟨aa8,Kd,?_⟩;rcases q with q | ⟨k,U,e,abg⟩
    ·apply .inl q
    ·show .inr ⟨k,U,e,abg.sameBut hs ?_⟩;ext rfl;apply J (Oz GF g (I.ok.inj _ _ _ e l▸O))
  ·by_cases N:U=c
   ·subst N;apply⟨_,R⟩
   ·let⟨aax,z2⟩:=I.cell y U e;apply⟨aax,z2.sameBut hs N⟩
  ·let⟨e,n,ne,W,d⟩:=I.pin p Gn;show⟨(hs.2 p.1 ?_).trans e,n,ne,W,d⟩;ext q;rw[q,S] at e;let EE:Cp=p.2:=bM e;apply d T (by rw[<-EE];apply L)
def UX{M:Model}{A:bg}{E:Gu}{i:Nat}{x:bJ}{v:V}{u:aI}{Q:Unit->aR->Prop}(I:Inv X N5 σ H s)(d:X.N.Nodup)(b:X.N[i]?=aA x)(e:Loc X.env.scope x)(r:RelV v u)
  (h:∀a,Inv X N5 (σ.set i (aA v)) H a->Q .unit a) (c:X.fn x=aD\/X.env.scope.names.lookup x=aA .local:=by first | apply .inl rfl | apply .inr rfl | assumption):az M A (storeName X.env x u) Q E s:=
 du I d b e r (λa f _=>h a f) c
def Inv.abp{a:aR}{ch:Gs}(I:Inv X N5 σ H s)(h:a.os=s.os)(u:Au (Mu X.stack) ch H H' s.heap a.heap)(f:AX X.prog X.w H' a.heap)(g:mI a.gens)
  (d:∀b∈ch,(b∈X.ex\/X.s₀.heap.objs.size<=b)/\b≠X.env.locals/\(∀x c,X.env.cells.lookup x=aA c->c≠b)/\∀p∈X.GG++N5,p.1≠b):Inv X N5 σ H' a:=by
 let⟨h',i,j,t',k⟩:=a;let e:=h;subst e;apply I.call u f g d
end
abbrev Ml:=aI->Option aP->Hp->Prop
abbrev St:=List (Option V)
abbrev Me:=V->Hp->Prop
abbrev TE:=St->Hp->Me->Prop
abbrev TT:=St->Hp->(Bool->Hp->Prop)->Prop
abbrev Az:=St->Hp->(List V->Hp->Prop)->Prop
structure J4 where
 L4:St->Hp->Prop
 Cj:Me
 Gw:St->Hp->Prop:=λ_ _=>False
 Gq:St->Hp->Prop:=λ_ _=>False
abbrev Cq:=J4->St->Hp->Prop
def EP(X:Cx)(N5:JK)(σ:St)(Q:Me)(u:aI)(Aq:aR):Prop:=∃v H',Inv X N5 σ H' Aq/\RelV v u/\Q v H'
def HB(X:Cx)(N5:JK)(σ:St)(Q:Bool->Hp->Prop)(b:Bool)(Aq:aR):Prop:=∃H',Inv X N5 σ H' Aq/\Q b H'
def AP(X:Cx)(N5:JK)(σ:St)(Q:List V->Hp->Prop)(us:Gr)(Aq:aR):Prop:=∃vs H',Inv X N5 σ H' Aq/\Gp vs us/\Q vs H'
def Ba(X:Cx)(N5:JK)(D:J4)(f:Flow)(Aq:aR):Prop:=
 match f with
 | .next=>∃σ' H',Inv X N5 σ' H' Aq/\D.L4 σ' H'
 | .brk=>∃σ' H',Inv X N5 σ' H' Aq/\D.Gw σ' H'
 | .cont=>∃σ' H',Inv X N5 σ' H' Aq/\D.Gq σ' H'
 | .ret u=>∃v σ' H',Inv X N5 σ' H' Aq/\RelV v u/\D.Cj v H'
def JY(X:Cx)(e:bT)(t:TE):Prop:=
 ∀(N5:JK)(s:aR)(σ:St)(H:Hp)(Q:Me),Inv X N5 σ H s->t σ H Q->az (model X.prog X.w) X.A (eval e X.env) (EP X N5 σ Q) X.Ar s
def CQ(X:Cx)(e:bT)(t:TT):Prop:=
 ∀(N5:JK)(s:aR)(σ:St)(H:Hp)(Q:Bool->Hp->Prop),Inv X N5 σ H s->t σ H Q->az (model X.prog X.w) X.A (qA e X.env (eval e X.env)) (HB X N5 σ Q) X.Ar s
noncomputable def PW(X:Cx)(e:bT)(t:TT):Prop:=
 ∀(whole:Sem aI)(N5:JK)(s:aR)(σ:St)(H:Hp)(Q:Bool->Hp->Prop),Inv X N5 σ H s->t σ H Q->az (model X.prog X.w) X.A (qA e X.env whole) (HB X N5 σ Q) X.Ar s
def PW.pt{X:Cx}{e:bT}{t:TT}(h:PW X e t):CQ X e t:=h _
def MY(X:Cx)(Gi:Mk)(t:Az):Prop:=
 ∀(pos:g6)(N5:JK)(s:aR)(σ:St)(H:Hp)(Q:List V->Hp->Prop),Inv X N5 σ H s->t σ H Q->az (model X.prog X.w) X.A (spliced (ck pos (aN Gi X.env))) (AP X N5 σ Q) X.Ar s
def AV(X:Cx)(st:cD)(t:Cq):Prop:=
 ∀(N5:JK)(s:aR)(σ:St)(H:Hp)(D:J4),Inv X N5 σ H s->t D σ H->az (model X.prog X.w) X.A (exec st X.env) (Ba X N5 D) X.Ar s
def Kw(X:Cx)(st:Cs)(t:Cq):Prop:=
 ∀(N5:JK)(s:aR)(σ:St)(H:Hp)(D:J4),Inv X N5 σ H s->t D σ H->az (model X.prog X.w) X.A (execs st X.env) (Ba X N5 D) X.Ar s
def Z8{b:Type}{t:Sem b}{Q c:b->aR->Prop}{M:Model}{A:bg}{E:Gu}{s:aR}(h:az M A t Q E s)(d:∀a s,Q a s->c a s):az M A t c E s:=bq h d λ_ _ x=>x
section
variable {X:Cx}
def bin{a b:bT}{k m:TE}(t:JY X a k)(o:JY X b m){i:JK}{s:aR}{c:St}{H:Hp}{R:V->V->Hp->Prop}(I:Inv X i c H s)(h:k c H λx j=>m c j λy d=>R x y d)
  {l:Type} {Q:l->aR->Prop} {f:aI->aI->Sem l}
  (n:∀v u s2 x y d,Inv X i c d s2->RelV x v->RelV y u->R x y d->az (model X.prog X.w) X.A (f v u) Q X.Ar s2) :
  az (model X.prog X.w) X.A (eval a X.env) (λv e=>az (model X.prog X.w) X.A (eval b X.env) (λu g=>az (model X.prog X.w) X.A (f v u) Q X.Ar g) X.Ar e) X.Ar s:=by
 show Z8 (t i s c H _ I h) ?_;ext v s1 ⟨x,j,q,p,r⟩;show Z8 (o i s1 c j _ q r) ?_;ext u s2 ⟨y,d,A,z,w⟩;apply n v u s2 x y d A p z w
def KO(i:Nat):TE:=λσ H Q=>∃v,σ[i]?=aA (aA v)/\Q v H
def Fy(v:V):TE:=λ_ H Q=>Q v H
def Tx{i:Nat}{x:bJ}{pos:g6}(w:X.N[i]?=aA x)(q:BC X.env.scope x)(f:(x==("__debug__" : bJ))=aC|>Op)(g:(x==("__classdict__" : bJ))=aC|>Op):JY X (.Name x pos) (KO i):=by
 ext k s n H Q I h;let⟨v,e,h⟩:=h;let⟨m,o,p⟩:=I.loc;let⟨u,r,l⟩:=p i x v w e q;let b:EP X k n Q u s:=⟨v,H,I,r,h⟩;rcases l with⟨d,t⟩ | ⟨d,c,j,a⟩
 ·apply sH (wpAny_loadName_local I.ok.kind d o t b) f
 ·rcases d with d | d
  ·apply sH (wpAny_loadName_cell I.ok.kind d j a b) f
  ·apply sH (wpAny_loadName_free I.ok.kind d j a b g) f
def Xp{i j pos}:JY X (.Constant (.int i) j pos) (Fy (.int i)):=λ_ _ _ H _ I h=>wpAny_Constant_int ⟨.int i,H,I.tok _,⟨_,rfl⟩,h⟩
def Zmu{b j pos}:JY X (.Constant (.bool b) j pos) (Fy (.Ap b)):=λ_ _ _ H _ I h=>Constant_bool ⟨.Ap b,H,I,rfl,h⟩
def Xh{j pos}:JY X (.Constant .none j pos) (Fy .Ma):=λ_ _ _ H _ I h=>p0 ⟨.Ma,H,I,rfl,h⟩
def gB{x j pos}:JY X (.Constant (.str x) j pos) (Fy (.str x)):=λ_ _ _ H _ I h=>Calls.Constant_str ⟨.str x,H,I.tok _,⟨_,rfl⟩,h⟩
def Gl(X:Cx)(x:bJ):Prop:=X.env.kindOf x=aA .globalImplicit
def Wx{E:Gu}{b:JK}{s:aR}{c:St}{H:Hp}{x:bJ}{u:aI}{pos:g6}{Q:Gu}(I:Inv X b c H s)(d:Gl X x)(e:X.mg x=aA u)(h:Q u s)
  (a:(x==("__debug__" : bJ))=aC|>Op):az (model X.prog X.w) X.A (eval (.Name x pos) X.env) Q E s:=
 lU I.ok.kind d (Calls.loadGlobal_global (by rw[I.ok.glob];apply I.mod.glob.keeps I.Gw) e h) a
def Xv{E:Gu}{b:JK}{s:aR}{c:St}{H:Hp}{x:bJ}{u:aI}{pos:g6}{Q:Gu}(I:Inv X b c H s)(i:Gl X x)(g:X.mg x=aB)(f:dj x=aA u)(h:Q u s)
  (e:x≠"__name__"|>Op) (a:(x==("__debug__" : bJ))=aC|>Op):az (model X.prog X.w) X.A (eval (.Name x pos) X.env) Q E s:=by
 let⟨k,d,j⟩:=I.mod.blt;apply lU I.ok.kind i (Calls.loadGlobal_builtin (by rw[I.ok.glob];apply I.mod.glob.keeps I.Gw) g (by rw[I.ok.blt];apply d.keeps I.Gw) ((j x e).trans f) h) a
def Zep{x:bJ}{v:V}{u:aI}{pos:g6}(b:Gl X x)(e:X.mg x=aB)(c:dj x=aA u)(r:RelV v u)(d:x≠"__name__"|>Op)(a:(x==("__debug__" : bJ))=aC|>Op):JY X (.Name x pos) (Fy v):=
 λ_ _ _ H _ I h=>Xv I b e c ⟨v,H,I,r,h⟩ d a
variable {a b:bT} {Et Gx:TE} {pos:g6}
def Fu(X:Cx)(op:rW)(a b:bT)(t:TE):Prop:=
 ∀(N5:JK)(s:aR)(σ:St)(H:Hp)(Q:Me),Inv X N5 σ H s->t σ H Q->
  az (model X.prog X.w) X.A (eval a X.env) (λv s₁=>az (model X.prog X.w) X.A (eval b X.env) (λu s₂=>az (model X.prog X.w) X.A (dW op v u) (EP X N5 σ Q) X.Ar s₂) X.Ar s₁) X.Ar s
def kP(b:bT){a:rW}(h:a≠.In)(d:a≠.NotIn):dX a b=aC:=by
 let c:(a==rW.In)=aC:=by cases a<;>first | rfl | apply absurd rfl h
 let e:(a==rW.NotIn)=aC:=by cases a<;>first | rfl | apply absurd rfl d
 cases b<;>simp[dX,c,e]
def B4(Et:TE):TE:=λσ H Q=>Et σ H λx H1=>Q (.Ap (decide (x = .Ma))) H1
def NX(Et:TE):TE:=λσ H Q=>Et σ H λx H1=>Q (.Ap (!decide (x = .Ma))) H1
def RelV.acb{x:V}{v:aI}(r:RelV x v):(v==ee)=decide (x = .Ma):=by
 cases x with
 | Ma=>cases r;rfl
 | Ap _=>cases r;rfl
 | int _=>let⟨t,rfl⟩:=r;rfl
 | str _=>let⟨t,rfl⟩:=r;rfl
 | aaz _=>let⟨t,rfl⟩:=r;rfl
 | aa5 _=>let⟨t,rfl⟩:=r;rfl
 | ref _=>cases r;rfl
 | ty _=>cases r;rfl
def Zjk{j pos'}(f:JY X a Et):Fu X .Is a (.Constant .none j pos') (B4 Et):=by ext c s d H Q I h;show Z8 (f c s d H _ I h) ?_;ext v s1 ⟨x,i,e,g,b⟩;apply p0 (is_none_gen ⟨.Ap _,i,e,by rw[g.acb];rfl,b⟩)
def Zeq{j pos'}(f:JY X a Et):Fu X .IsNot a (.Constant .none j pos') (NX Et):=by ext c s d H Q I h;show Z8 (f c s d H _ I h) ?_;ext v s1 ⟨x,i,e,g,b⟩;apply p0 (isnot_none_gen ⟨.Ap _,i,e,by rw[g.acb];rfl,b⟩)
def Jh(t:TE):TT:=λσ H Q=>t σ H λx H1=>∃c,x = .Ap c/\Q c H1
def Zjl{c:rW}{t:TE}(h:Fu X c a b t)(g:dX c b=aC:=by first | apply kP _ ∅ ∅ | rfl):JY X (.Compare a [c] [b] pos) t:=λd s f H Q I e=>wpAny_Compare1 (h d s f H Q I e) g
def nL{f:rW}{t:TE}(h:Fu X f a b t)(e:dX f b=aC:=by first | apply kP _ ∅ ∅ | rfl):CQ X (.Compare a [f] [b] pos) (Jh t):=by ext g s i H Q I m;show oO (Z8 (h g s i H _ I m) λv s1 e=>Z8 e λu s2 n=>Z8 n λc p ⟨x,o,k,j,l⟩=>?_) e;let⟨d,rfl,q⟩:=l;cases j;apply dJ ⟨o,k,q⟩
def Zjm{e:bT}{t:TE}(h:JY X e t)(a:∀whole,qA e X.env whole=(do let v <-whole;sC e.pos;holding [v] (truthy v)):=by ext _;rfl):CQ X e (Jh t):=by ext b s c H Q I j;show isTrue_plain (Z8 (h b s c H _ I j) λv s1 ⟨x,k,g,f,i⟩=>?_) (a _);let⟨d,rfl,q⟩:=i;cases f;apply dJ ⟨k,g,q⟩
variable {aap abq:TT} {EH:Mk}
def F5(t u:TT):TT:=λσ H Q=>t σ H λc H1=>if c=aD then u σ H1 Q else Q aC H1
def B0(t u:TT):TT:=λσ H Q=>t σ H λc H1=>if c=aD then Q aD H1 else u σ H1 Q
def Ei(t:TT):TT:=λσ H Q=>t σ H λc H1=>Q (!c) H1
def Zer(f:CQ X a aap):PW X (.BoolOp .And [a] pos) aap:=by
 ext g b s d H Q I h;show isTrue_and (Z8 (f b s d H Q I h) λc s1 e=>?_)
 cases c with
 | true=>apply isTrue_and_nil e
 | false=>apply e
def Zjn(f:CQ X a aap):PW X (.BoolOp .Or [a] pos) aap:=by
 ext g b s d H Q I h;show isTrue_or (Z8 (f b s d H Q I h) λc s1 e=>?_)
 cases c with
 | false=>apply isTrue_or_nil e
 | true=>apply e
def Zjo(k:CQ X a aap)(j:PW X (.BoolOp .And (b::EH) pos) abq):PW X (.BoolOp .And (a::b::EH) pos) (F5 aap abq):=by
 ext l e s f H Q I h;show isTrue_and (Z8 (k e s f H _ I h) λc s1 ⟨i,g,d⟩=>?_)
 cases c with
 | true=>apply j l e s1 f i Q g d
 | false=>apply⟨i,g,d⟩
def Zmx(k:CQ X a aap)(j:PW X (.BoolOp .Or (b::EH) pos) abq):PW X (.BoolOp .Or (a::b::EH) pos) (B0 aap abq):=by
 ext l e s f H Q I h;show isTrue_or (Z8 (k e s f H _ I h) λc s1 ⟨i,g,d⟩=>?_)
 cases c with
 | true=>apply⟨i,g,d⟩
 | false=>apply j l e s1 f i Q g d
def Zjp(e:CQ X a aap):CQ X (.UnaryOp .Not a pos) (Ei aap):=by ext b s d H Q I h;apply isTrue_not (e b s d H (λc f=>Q (!c) f) I h)
def En(Et Gx:TE):TE:=λσ H Q=>Et σ H λx H1=>∃c,x = .Ap c/\if c=aD then Gx σ H1 Q else Q (.Ap aC) H1
def LW(Et:TE):TE:=λσ H Q=>Et σ H λx H1=>∃c,x = .Ap c/\Q (.Ap (!c)) H1
def Zjq{op}{t:TE}(h:JY X a t):JY X (.BoolOp op [a] pos) t:=λb s d H Q I c=>BoolOp_one (h b s d H Q I c)
def Zjr(k:JY X a Et)(j:JY X (.BoolOp .And (b::EH) pos) Gx):JY X (.BoolOp .And (a::b::EH) pos) (En Et Gx):=by
 ext e s f H Q I h;show BoolOp_and (Z8 (k e s f H _ I h) λv s1 ⟨x,i,g,l,d⟩=>?_);let⟨c,rfl,d⟩:=d;cases l;show dJ ?_
 cases c with
 | true=>apply j e s1 f i Q g d
 | false=>apply⟨.Ap aC,i,g,rfl,d⟩
def Zjs(g:JY X a Et):JY X (.UnaryOp .Not a pos) (LW Et):=by ext d s e H Q I h;show UnaryOp_ (Z8 (g d s e H _ I h) λv s1 ⟨x,j,f,i,b⟩=>?_);let⟨c,rfl,b⟩:=b;cases i;apply not_of (dJ ⟨.Ap (!c),j,f,rfl,b⟩)
def H9(t:TT)(Et Gx:TE):TE:=λσ H Q=>t σ H λc H1=>if c=aD then Et σ H1 Q else Gx σ H1 Q
def r1{c:bT}(m:CQ X c aap)(l:JY X a Et)(k:JY X b Gx):JY X (.IfExp c a b pos) (H9 aap Et Gx):=by
 ext e s f H Q I h;show wpAny_IfExp (Z8 (m e s f H _ I h) λd s1 ⟨j,i,g⟩=>?_)
 cases d with
 | true=>apply l e s1 f j Q i g
 | false=>apply k e s1 f j Q i g
end
def EJ(K:aG)(H:Hp)(a:aP)(xs:List V):Prop:=
 ET H a (.lst xs)\/
  ∃(o:fE) (Av:GD) (n:Nat),K.lookup a=aA o/\o.cls = .type "list"/\o.dict=aB/\o.data = .seq Av n/\Av.size<=sizeLine/\Gp xs Av.toList
def CG(K:aG)(H:Hp)(a:aP)(xs:List V):Prop:=
 ET H a (.tup xs)\/
  ∃(o:fE) (Av:GD) (n:Nat),K.lookup a=aA o/\o.cls = .type "tuple"/\o.data = .seq Av n/\Av.size<=sizeLine/\Gp xs Av.toList
def N0:aI->Option V
 | .none=>aA .Ma
 | .bool b=>aA (.Ap b)
 | .int i _=>aA (.int i)
 | .str x _=>aA (.str x)
 | .bytes b _=>aA (.aaz b)
 | .float b _=>aA (.aa5 b)
 | .ref a=>aA (.ref a)
 | .type n=>aA (.ty n)
 | _=>aB
def RelV.abs{x:V}{u:aI}(r:RelV x u):N0 u=aA x:=by
 cases x with
 | Ma=>cases r;rfl
 | Ap _=>cases r;rfl
 | int _=>let⟨t,rfl⟩:=r;rfl
 | str _=>let⟨t,rfl⟩:=r;rfl
 | aaz _=>let⟨t,rfl⟩:=r;rfl
 | aa5 _=>let⟨t,rfl⟩:=r;rfl
 | ref _=>cases r;rfl
 | ty _=>cases r;rfl
def RelV.inj{x y:V}{u:aI}(r:RelV x u)(q:RelV y u):x=y:=bM (r.abs.symm.trans q.abs)
def Gp.inj:∀{xs L9:List V}{us:Gr},Gp xs us->Gp L9 us->xs=L9
 | _,_,_,.nil,.nil=>rfl
 | _,_,_,.cons r t,.cons Kd t'=>by rw[r.inj Kd,Gp.inj t t']
section
variable {X:Cx} {N5:JK} {σ:St} {H:Hp} {s:aR} {a:aP} {xs L9:List V}
def EJ.of{K:aG}(h:H a=aA (.lst xs)):EJ K H a xs:=.inl (.inl h)
def CG.of{K:aG}(h:H a=aA (.tup xs)):CG K H a xs:=.inl (.inl h)
def Inv.list(I:Inv X N5 σ H s)(h:EJ X.K H a xs):∃b:List aI,Gp xs b/\PlainL s.heap a b.toArray/\la xs<=sizeLine:=by
 rcases h with h | ⟨o,b,n,d,f,c,hs,g,r⟩
 ·let⟨z,b,n,r,e⟩:=h.ok I.L5;apply⟨b,r,⟨_,n,e,rfl,rfl,rfl⟩,z⟩
 ·show⟨b.toList,r,⟨o,n,I.GA a o d,f,c,by simpa using hs⟩,?_⟩;let e:=r.length;dsimp[bW] at e
  lia
def Inv.tuple(I:Inv X N5 σ H s)(h:CG X.K H a xs):∃b:List aI,Gp xs b/\qS s.heap a b.toArray/\la xs<=sizeLine:=by
 rcases h with h | ⟨o,b,n,c,d,hs,f,r⟩
 ·let⟨z,b,r,p⟩:=h.ok I.L5;apply⟨b,r,p,z.1⟩
 ·show⟨b.toList,r,⟨o,I.GA a o c,d,n,by simpa using hs⟩,?_⟩;let e:=r.length;dsimp[bW] at e
  lia
def Inv.acd(I:Inv X N5 σ H s)(h:EJ X.K H a xs)(h':EJ X.K H a L9):xs=L9:=by
 let⟨i,r,⟨o,n,e,_,_,d⟩,_⟩:=I.list h;let⟨b,g,⟨k,j,f,_,_,c⟩,_⟩:=I.list h';rw[e] at f;cases f;rw[d] at c;injection c with d1 _
 have:i=b:=by simpa using congrArg tE d1
 subst this;apply r.inj g
def Inv.ace(I:Inv X N5 σ H s)(h:CG X.K H a xs)(h':CG X.K H a L9):xs=L9:=by
 let⟨i,r,⟨o,e,_,n,d⟩,_⟩:=I.tuple h;let⟨b,g,⟨k,f,_,j,c⟩,_⟩:=I.tuple h';rw[e] at f;cases f;rw[d] at c;injection c with d1 _
 have:i=b:=by simpa using congrArg tE d1
 subst this;apply r.inj g
end
abbrev Cx.aag(X:Cx)(E:Gu):Cx:={ X with Ar:=E }
abbrev Cx.EA(X:Cx):Cx:=X.aag λ_ _=>False
def Cx.Ok.aag{X:Cx}(ok:X.Ok)(E:Gu):(X.aag E).Ok:=
 ⟨ok.mod,ok.kind,ok.glob,ok.blt,ok.above,ok.inj,ok.has,ok.aa2,ok.hd,ok.frames,ok.aao,ok.Cu,ok.bs,ok.aae,ok.aa6,ok.aa7,ok.ED,ok.aal,ok.tab,ok.abe⟩
def Cx.Ok.aab{X:Cx}{E:Gu}(ok:(X.aag E).Ok):X.Ok:=
 ⟨ok.mod,ok.kind,ok.glob,ok.blt,ok.above,ok.inj,ok.has,ok.aa2,ok.hd,ok.frames,ok.aao,ok.Cu,ok.bs,ok.aae,ok.aa6,ok.aa7,ok.ED,ok.aal,ok.tab,ok.abe⟩
section
variable {X:Cx} {N5:JK} {σ:St} {H:Hp} {s:aR} {E:Gu}
def Inv.aag(I:Inv X N5 σ H s)(E:Gu):Inv (X.aag E) N5 σ H s:=⟨I.ok.aag E,I.os,I.bare,I.base,I.loc,I.cell,I.free,I.GH,I.pin,I.L5,I.len⟩
def Inv.aab(I:Inv (X.aag E) N5 σ H s):Inv X N5 σ H s:=⟨I.ok.aab,I.os,I.bare,I.base,I.loc,I.cell,I.free,I.GH,I.pin,I.L5,I.len⟩
def Ba.aab{D:J4}{f:Flow}{c:aR}(h:Ba (X.aag E) N5 D f c):Ba X N5 D f c:=by
 cases f with
 | next=>let⟨a,b,I,q⟩:=h;apply⟨a,b,I.aab,q⟩
 | brk=>let⟨a,b,I,q⟩:=h;apply⟨a,b,I.aab,q⟩
 | cont=>let⟨a,b,I,q⟩:=h;apply⟨a,b,I.aab,q⟩
 | ret u=>let⟨v,a,b,I,r,q⟩:=h;apply⟨v,a,b,I.aab,r,q⟩
theorem Kw.EA{st:Cs}{t:Cq}(h:Kw X.EA st t):Kw X st t:=λa s c H D I b=>
 bq (h a s c H D (I.aag _) b) (λ_ _ q=>q.aab) λ_ _ z=>bz z
end
section
variable {X:Cx} {st:cD} {EH:Cs} {t u:Cq} {e:bT} {JN:TE} {pos:g6}
def B8:Cq:=λD σ H=>D.L4 σ H
def Eh(t u:Cq):Cq:=λD σ H=>t { D with L4:=u D } σ H
def Zes:Kw X [] B8:=λ_ _ a H _ I h=>g7 ⟨a,H,I,h⟩
def TX(i:AV X st t)(e:Kw X EH u):Kw X (st::EH) (Eh t u):=by
 ext b s d H D I h;show iH (Z8 (i b s d H { D with L4:=u D } I h) λf s1 q=>?_)
 cases f with
 | next=>
  let⟨a,c,g,q⟩:=q;apply e b s1 a c D g q
 | ret v=>apply q
 | brk=>apply q
 | cont=>apply q
def nT(c:AV X st t):Kw X [st] t:=by
 ext a s b H D I h;show iH (Z8 (c a s b H D I h) λf s1 q=>?_)
 cases f with
 | next=>apply g7 q
 | ret v=>apply q
 | brk=>apply q
 | cont=>apply q
def Inv.quiet{a:JK}{b:St}{H:Hp}{s:aR}(I:Inv X a b H s):interactive X.env=aC:=by simp[interactive,I.ok.kind]
def EG(JN:TE):Cq:=λD σ H=>JN σ H λ_ H1=>D.L4 σ H1
def Xr(c:JY X e JN)(hs:gO e aB pos.line X.env=pure aC|>On):AV X (.Expr e pos) (EG JN):=by ext d s a H D I h;apply oX (Z8 (c d s a H _ I h) λv s1 ⟨x,g,f,i,b⟩=>⟨a,g,f,b⟩) I.quiet hs
def Eg(JN:TE):Cq:=λD σ H=>JN σ H D.Cj
def PI(c:JY X e JN):AV X (.Return (aA e) pos) (Eg JN):=by ext d s a H D I h;apply wpAny_Return_some (Z8 (c d s a H _ I h) λv s1 ⟨x,i,f,g,b⟩=>⟨x,a,i,f,g,b⟩)
def Ef(c:TT)(t u:Cq):Cq:=λD σ H=>c σ H λb H1=>if b=aD then t D σ H1 else u D σ H1
def Zia{c:bT}{a b:Cs}{i:TT}(m:CQ X c i)(n:Kw X a t)(l:Kw X b u):AV X (.If c a b pos) (Ef i t u):=by
 ext e s f H D I h;show wpAny_If (Z8 (m e s f H _ I h) λd s1 ⟨k,g,j⟩=>?_)
 cases d with
 | true=>apply n e s1 f k D g j
 | false=>apply l e s1 f k D g j
end
abbrev GJ:=V->St->Hp->(St->Hp->Prop)->Prop
abbrev aa3:=List V->St->Hp->(St->Hp->Prop)->Prop
def CY(X:Cx)(target:bT)(t:GJ):Prop:=
 ∀(N5:JK)(s:aR)(σ:St)(H:Hp)(v:V)(u:aI)(Q:St->Hp->Prop),Inv X N5 σ H s->RelV v u->t v σ H Q->
  az (model X.prog X.w) X.A (assign target X.env u) (λ_ Aq=>∃σ' H',Inv X N5 σ' H' Aq/\Q σ' H') X.Ar s
def BF(X:Cx)(ts:Mk)(t:aa3):Prop:=
 ∀(N5:JK)(s:aR)(σ:St)(H:Hp)(vs:List V)(us:Gr)(Q:St->Hp->Prop),Inv X N5 σ H s->Gp vs us->t vs σ H Q->
  az (model X.prog X.w) X.A (assignInOrder ((lV ts X.env).map (·.2)) us) (λ_ Aq=>∃σ' H',Inv X N5 σ' H' Aq/\Q σ' H') X.Ar s
abbrev ab0:=V->V->V->Hp->(Hp->Prop)->Prop
def JC(X:Cx)(t:ab0):Prop:=
 ∀(N5:JK)(s:aR)(σ:St)(H:Hp)(o i v:V)(abb aaw u:aI)(Q:Hp->Prop),Inv X N5 σ H s->RelV o abb->RelV i aaw->RelV v u->t o i v H Q->
  az (model X.prog X.w) X.A (setItem abb aaw u) (λ_ Aq=>∃H',Inv X N5 σ H' Aq/\Q H') X.Ar s
section
variable {X:Cx} {pos:g6}
def IM(i:Nat):GJ:=λv σ H Q=>Q (σ.set i (aA v)) H
def P7{i:Nat}{x:bJ}(c:X.N.Nodup)(a:X.N[i]?=aA x)(d:Loc X.env.scope x)(b:X.fn x=aD\/X.env.scope.names.lookup x=aA .local:=by first | apply .inl rfl | apply .inr rfl | assumption):CY X (.Name x pos) (IM i):=by ext f s g H v u Q I r h;apply wpAny_assign_Name (UX I c a d r (λj e=>⟨_,H,e,h⟩) b)
def DV:aa3:=λvs σ H Q=>vs=[]/\Q σ H
def HV(t:GJ)(u:aa3):aa3:=λvs σ H Q=>∃v r,vs=v::r/\t v σ H λσ' H'=>u r σ' H' Q
def Ys:BF X [] DV:=by ext c s a H vs b Q I r h;let⟨e,h⟩:=h;subst e;cases r;apply assignInOrder_nil ⟨a,H,I,h⟩
def Zv{e:bT}{a:Mk}{t:GJ}{u:aa3}(f:CY X e t)(k:BF X a u)
  (hs:(lV (e::a) X.env).map (·.2)=assign e X.env::(lV a X.env).map (·.2)|>On):BF X (e::a) (HV t u):=by
 ext c s d H vs m Q I r h;let⟨v,n,j,h⟩:=h;subst j
 cases r with
 | cons r Mn=>
  rw[hs];show assignInOrder_cons (Z8 (f c s d H _ _ _ I r h) λ_ s1 ⟨b,l,g,i⟩=>?_);apply k c s1 b l _ _ Q g Mn i
def F6(K:aG)(n:Nat)(t:aa3):GJ:=λv σ H Q=>∃a xs,v = .ref a/\CG K H a xs/\xs.length=n/\t xs σ H Q
def Xi{c:Mk}{k:Nat}{t:aa3}{n:Nat}(m:X.calm=aD)(h:BF X c t)
  (l:(lV c X.env).length=n|>On) (f:(lV c X.env).findIdx? (·.1)=aB|>On):CY X (.Tuple c k pos) (F6 X.K n t):=by
 ext i s j H v u Q I r d;let⟨a,xs,z,w,p,d⟩:=d;subst z;cases r;let⟨B,g,y,A⟩:=I.tuple w;show assign_Tuple_tuple (I.ok.hd m) y (by simp[l,<-p,g.length]) f λh' x=>?_;let q:=I.kept (t':=s.toks) λb o e=>x b o (bC (aV e)) e;apply h i _ j H xs _ Q q (~~~g) d
def BW(to ack:TE)(t:ab0):GJ:=λv σ H Q=>to σ H λo H1=>ack σ H1 λi H2=>t o i v H2 λH3=>Q σ H3
def gI{o i:bT}{f e:TE}{t:ab0}(m:JY X o f)(w:JY X i e)(hs:JC X t)
  (E:∀v,assign (.Subscript o i pos) X.env v=(do
   let a <-holding [v] (eval o X.env);let b <-holding [v,a] (eval i X.env)
   sC pos
   holding [v,a,b] (setItem a b v)
   release [v,a,b] []):=by ext _;rfl):CY X (.Subscript o i pos) (BW f e t):=by
 ext d s c H v u Q I r h;show aE (cg (Z8 (m d s c H _ I h) λa s1 ⟨x,C,n,g,q⟩=>?_));show aE (cg (Z8 (w d s1 c C _ n q) λb s2 ⟨y,j,B,A,z⟩=>?_));show aE (p6 (aE (cg (Z8 (hs d s2 c j x y v a b u _ B g A r z) λ_ D ⟨k,p,l⟩=>?_))));apply wpAny_release ⟨c,k,p,l⟩
def J0(JN:TE)(g:GJ):Cq:=λD σ H=>JN σ H λx H1=>g x σ H1 D.L4
def zV{a e:bT}{d:TE}{g:GJ}(f:JY X e d)(n:CY X a g)(hs:swapsWithSole [a] e pos.line X.env=pure aC|>On)(m:swappedStores [a] e X.env=pure aB|>On)
  (j:(lV [a] X.env).map (·.2)=[assign a X.env]|>On):AV X (.Assign [a] e pos) (J0 d g):=by
 ext b s c H D I h;show wpAny_Assign_stores (Z8 (f b s c H _ I h) λv s1 ⟨x,o,k,i,l⟩=>?_) hs m;rw[j];apply Z8 (n b s1 c o x v _ k i l) λ_ s2 q=>q
def Zjv{i:Nat}{x:bJ}{e:bT}{a:TE}{pos':g6}(m:X.N.Nodup)(l:X.N[i]?=aA x)(n:Loc X.env.scope x)(b:JY X e a)(hs:gO e (aA (.Name x pos')) pos.line X.env=pure aC|>On)(d:X.fn x=aD\/X.env.scope.names.lookup x=aA .local:=by first | apply .inl rfl | apply .inr rfl | assumption) :
  AV X (.Assign [.Name x pos'] e pos) (J0 a (IM i)):=by
 ext c s f H D I h;show wpAny_Assign_Name (Z8 (b c s f H _ I h) λv s1 ⟨y,p,j,g,k⟩=>?_) hs;apply UX j m l n g (λs2 o=>⟨_,p,o,k⟩) d
end
section
variable {X:Cx} {pos:g6}
def Cd(c:TT)(Gx:Cq):Cq:=λD σ H=>∃W:Nat->St->Hp->Prop,(∃m,W m σ H)/\∀m σ H,W m σ H->
 c σ H λb H1=>if b=aD then ∃N:St->Hp->Prop,(∀σ' H',N σ' H'->∃JQ,JQ<m/\W JQ σ' H')/\Gx { D with L4:=N,Gq:=N,Gw:=D.L4 } σ H1 else D.L4 σ H1
def d'{c:bT}{e:Cs}{u:TT}{x:Cq}(A:pL (model X.prog X.w) X.A X.env X.Ar)(F:CQ X c u)(B:Kw X e x):AV X (.While c e [] pos) (Cd u x):=by
 ext l s C H D I h;let⟨W,⟨M,E⟩,i⟩:=h;show wpAny_While (codeAny_whileLoop (λn G=>∃σ' H',Inv X l σ' H' G/\W n σ' H') ?_ M ⟨C,H,I,E⟩);ext n s1 ⟨d,z,J,L⟩;show g8 A (Z8 (F l s1 d z _ J (i n d z L)) λb s2 ⟨t,y,k⟩=>?_)
 cases b with
 | true=>
  let⟨N,w,k⟩:=k;show g8 A (Z8 (B l s2 d t _ y k) λf O j=>?_)
  cases f with
  | next=>
   let⟨a,g,p,m⟩:=j;let⟨o,q,r⟩:=w a g m;apply⟨o,q,a,g,p,r⟩
  | cont=>
   let⟨a,g,p,m⟩:=j;let⟨o,q,r⟩:=w a g m;apply⟨o,q,a,g,p,r⟩
  | brk=>apply j
  | ret v=>apply j
 | false=>
  apply g7 ⟨d,t,y,k⟩
end
structure It where
 go:Nat->Hp->Prop
 aas:Nat->Hp->V->Hp->Prop
 stop:Nat->Hp->Prop
def Il(X:Cx)(N5:JK)(H:Hp)(b:aP):Prop:=
 H b=aB/\b≠X.env.locals/\b∉X.fs/\(b∈X.ex\/X.s₀.heap.objs.size<=b)/\(∀x c,X.env.cells.lookup x=aA c->c≠b)/\∀p∈X.GG++N5,p.1≠b
def Inv.aa4{X:Cx}{f:JK}{g:St}{H d:Hp}{s:aR}{b:aP}(I:Inv X f g H s)(a:s.heap.objs.size<=b)(h:d b=aB):Il X f d b:=by
 show⟨h,gL (ay I.lt a),I.acj a,.inr (cG I.GC a),λx c e z=>?_,λp i z=>?_⟩
 ·let⟨v,q⟩:=I.cell x c e;apply absurd (ay q.lt (by rw[z];apply a)) (cR _)
 ·apply absurd (ay (aV (I.pin p i).1) (by rw[z];apply a)) (cR _)
structure Ki(P:bO)(w:bX)(K:aG)(Eu:bT)(J:It)(Gh:Gs)(it:aP)(EB:N_):Prop where
 mem:it∈Gh
 obj:∀i h,EB i h->∀b∈Gh,∃o,h.get? b=aA o/\∀v,o.data≠.cell v
 keep:∀i h h',EB i h->(∀b∈Gh,∀o,h.get? b=aA o->h'.get? b=aA o)->EB i h'
 item:∀(X:Cx),X.prog=P->X.w=w->X.K=K->X.calm=aD->∀(i:Nat)(N5:JK)(s:aR)(σ:St)(H:Hp)(E:Gu),Inv X N5 σ H s->(∀b∈Gh,Il X N5 H b)->EB i s.heap->J.go i H->
  az (model P w) X.A (kY (.ref it)) (λr s1=>∃u,r=aA u/\
   az (model P w) X.A (oB Eu (.ref it) u) (λ_ s2=>∃x H',Inv X N5 σ H' s2/\RelV x u/\J.aas i H x H'/\EB (i+1) s2.heap/\∀b∈Gh,H' b=aB) E s1) E s
 done:∀(X:Cx),X.prog=P->X.w=w->X.K=K->X.calm=aD->∀(i:Nat)(N5:JK)(s:aR)(σ:St)(H:Hp)(E:Gu),Inv X N5 σ H s->(∀b∈Gh,Il X N5 H b)->EB i s.heap->J.stop i H->
  az (model P w) X.A (kY (.ref it)) (λr s1=>r=aB/\Inv X N5 σ H s1) E s
 self:∀(A:bg)(i:Nat)(s:aR)(Q:Gu)(E:Gu),EB i s.heap->Q (.ref it) s->az (model P w) A (nM (.ref it)) Q E s
abbrev TI:=St->Hp->(It->Hp->Prop)->Prop
def Js(X:Cx)(N5:JK)(σ:St)(Eu:bT)(R:It->Hp->Prop)(ab1:aI)(s2:aR):Prop:=
 ∃(it:aP) (Gh:Gs) (EB:N_) (J:It) (H':Hp),ab1 = .ref it/\Inv X N5 σ H' s2/\Ki X.prog X.w X.K Eu J Gh it EB/\EB 0 s2.heap/\(∀b∈Gh,Il X N5 H' b)/\R J H'
def A8(X:Cx)(Eu iter:bT)(Ke:TI):Prop:=
 ∀(N5:JK)(s:aR)(σ:St)(H:Hp)(R:It->Hp->Prop),Inv X N5 σ H s->Ke σ H R->
  az (model X.prog X.w) X.A (eval iter X.env) (λv s1=>az (model X.prog X.w) X.A (nM v) (Js X N5 σ Eu R) X.Ar s1) X.Ar s
def S6{M:Model}{A:bg}{E:Gu}{s:aR}{b:bT}{it:aP}{u:aI}{o:fE}{n:L_}{vs:GD}{Q:Unit->aR->Prop}(f:s.heap.get? it=aA o)(e:o.cls = .type n)(c:o.data = .fields vs)
    (d:["enumerate","zip","dict_itemiterator","dict_reverseitemiterator","odict_iterator","itertools.zip_longest","itertools.pairwise"].contains n=aC) (a:Q .unit s):az M A (oB b (.ref it) u) Q E s:=by
  cases b<;>first
    | apply aM a
    | (cases u<;>first
        | apply aM a
        | (show aE (wpAny_load f ?_)
           rw[e,c];change az M A (if(["enumerate","zip","dict_itemiterator","dict_reverseitemiterator","odict_iterator","itertools.zip_longest","itertools.pairwise"].contains n&&vs[0]?==aA (fJ _))=aD then _ else _) Q E s;rw[N4 (by ext h;rw[d] at h;cases h)];apply aM a))
def HI(K:aG)(a:aP):It:=
 ⟨λi H=>∃xs x,EJ K H a xs/\xs[i]?=aA x,λi H x H'=>H'=H/\∀xs,EJ K H a xs->xs[i]?=aA x,λi H=>∃xs,EJ K H a xs/\xs.length<=i⟩
def Itt(K:aG)(a:aP):It:=
 ⟨λi H=>∃xs x,CG K H a xs/\xs[i]?=aA x,λi H x H'=>H'=H/\∀xs,CG K H a xs->xs[i]?=aA x,λi H=>∃xs,CG K H a xs/\xs.length<=i⟩
def Hh(lo:Int)(n:Nat):It:=⟨λi _=>i<n,λi H x H'=>H'=H/\x = .int (lo+i),λi _=>n<=i⟩
def wV{P:bO}{w:bX}{K:aG}{M:bT}(a it:aP):Ki P w K M (HI K a) [it] it (λi h=>h.IsListIter it a i) where
 mem:=⋯
 obj:=λi h st b f=>by
  let e:b=it:=by simpa using f
  subst e;let⟨o,e,c,d⟩:=st;apply⟨o,e,λv z=>by rw[d] at z;cases z⟩
 keep:=λi h h' st k=>st.at λo e=>k it ⋯ o e
 item:=by ext X D y m F i G s J H E I j st A;subst D y m;let⟨xs,x,l,B⟩:=A;let⟨T,q,p,L⟩:=I.list l;let⟨u,R,W⟩:=q.get B;let⟨C,f1,O,t,n,r⟩:=j it ⋯;show wpAny_pyNext_list_item st p.isList (~~~R) λh' g U=>?_;let Q:=I.turned (t':=s.toks) (λb o f e=>(U.2 b f).trans e) C f1 t n r;let⟨o,e,c,d⟩:=id g;apply⟨u,rfl,S6 e c d rfl ⟨x,H,Q,W,⟨rfl,λZ N=>by rw[I.acd N l];apply B⟩,g,λb f=>(j b f).1⟩⟩
 done:=by ext X D y m F i G s J H E I j st A;subst D y m;let⟨xs,l,B⟩:=A;let⟨T,q,p,L⟩:=I.list l;let⟨C,f1,O,t,n,r⟩:=j it ⋯;let Y:=q.length;apply wpAny_pyNext_list_end (I.ok.hd F) st p.isList (by simp;lia) λh' S=>⟨rfl,I.turned (λb o f e=>S b o f e) C f1 t n r⟩
 self:=λ_ _ _ _ _ st h=>wpAny_pyIter_listiter st h
def TL{P:bO}{w:bX}{K:aG}{M:bT}(a it:aP):Ki P w K M (Itt K a) [it] it (λi h=>h.IsTupleIter it a i) where
 mem:=⋯
 obj:=λi h st b f=>by
  let e:b=it:=by simpa using f
  subst e;let⟨o,e,c,d⟩:=st;apply⟨o,e,λv z=>by rw[d] at z;cases z⟩
 keep:=λi h h' st k=>st.at λo e=>k it ⋯ o e
 item:=by ext X D y m F i G s J H E I j st A;subst D y m;let⟨xs,x,l,B⟩:=A;let⟨T,q,p,L⟩:=I.tuple l;let⟨u,R,W⟩:=q.get B;let⟨C,f1,O,t,n,r⟩:=j it ⋯;show wpAny_pyNext_tuple_item st (p) (~~~R) λh' g U=>?_;let Q:=I.turned (t':=s.toks) (λb o f e=>(U.2 b f).trans e) C f1 t n r;let⟨o,e,c,d⟩:=id g;apply⟨u,rfl,S6 e c d rfl ⟨x,H,Q,W,⟨rfl,λZ N=>by rw[I.ace N l];apply B⟩,g,λb f=>(j b f).1⟩⟩
 done:=by ext X D y m F i G s J H E I j st A;subst D y m;let⟨xs,l,B⟩:=A;let⟨T,q,p,L⟩:=I.tuple l;let⟨C,f1,O,t,n,r⟩:=j it ⋯;let Y:=q.length;apply wpAny_pyNext_tuple_end (I.ok.hd F) st (p) (by simp;lia) λh' S=>⟨rfl,I.turned (λb o f e=>S b o f e) C f1 t n r⟩
 self:=λ_ _ _ _ _ st h=>wpAny_pyIter_tupleiter st h
def T_{P:bO}{w:bX}{K:aG}{B:bT}(it:aP)(lo:Int)(n:Nat):Ki P w K B (Hh lo n) [it] it (λi h=>IsRangeIter h it (lo+(i:Nat)*1) ((n:Int)-(i:Nat)) 1) where
 mem:=⋯
 obj:=λi h st b a=>by
  let e:b=it:=by simpa using a
  subst e
  apply⟨_,st,λv z=>by
   let G:=z;cases G⟩
 keep:=λi h h' st k=>k it ⋯ _ st
 item:=by ext X y x u f i q s r H E I d st m;subst y x u;let⟨p,f1,C,l,g,j⟩:=d it ⋯;let W:=Walks.range (prog:=X.prog) (w:=X.w) (I.ok.hd f) it lo 1 n;show W.item i s _ _ m st λv h' tk D c A=>?_;let⟨t,rfl⟩:=D;let F:Inv X q r H { s with heap:=h',toks:=tk }:=I.turned (λb o a e=>A b o (~~~a) e) p f1 l g j;show⟨_,rfl,S6 c rfl rfl rfl ⟨.int (lo+i),H,F,⟨t,?_⟩,⟨rfl,rfl⟩,c,λb a=>(d b a).1⟩⟩;rw[Int.mul_one]
 done:=by ext X y x u f i q s r H E I d st m;let⟨p,f1,C,l,g,j⟩:=d it ⋯;apply wpAny_pyNext_range_end (I.ok.hd f) st (by have:n<=i:=m;lia) λh' J=>⟨rfl,I.turned (λb o a e=>J b o a e) p f1 l g j⟩
 self:=λ_ _ _ _ _ st h=>wpAny_pyIter_rangeiter st h
section
variable {X:Cx} {Eu:bT}
def Ai(K:aG)(aat:TE):TI:=λσ H R=>aat σ H λx H1=>∃a,x = .ref a/\(∃xs,EJ K H1 a xs)/\R (HI K a) H1
def JE(K:aG)(aat:TE):TI:=λσ H R=>aat σ H λx H1=>∃a,x = .ref a/\(∃xs,CG K H1 a xs)/\R (Itt K a) H1
def Zet{l:bT}{d:TE}(k:JY X l d):A8 X Eu l (Ai X.K d):=by
 ext f s i H R I h;show Z8 (k f s i H _ I h) ?_;ext v s1 ⟨x,r,c,j,n⟩;let⟨a,e,⟨xs,m⟩,q⟩:=n;subst e;cases j;let⟨w,u,p,t⟩:=c.list m;show wpAny_pyIter_list p.isList ?_;show⟨s1.heap.objs.size,[s1.heap.objs.size],_,_,r,rfl,c.kept λb o e=>aH _ e,wV a _,⟨_,aX _ rfl,rfl,rfl⟩,λb g=>?_,q⟩;let e:b=s1.heap.objs.size:=by simpa using g
 subst e;apply c.aa4 (aU _) (c.L5.fresh (aU _))
def Zjx{l:bT}{d:TE}(k:JY X l d):A8 X Eu l (JE X.K d):=by
 ext f s i H R I h;show Z8 (k f s i H _ I h) ?_;ext v s1 ⟨x,r,c,j,n⟩;let⟨a,e,⟨xs,m⟩,q⟩:=n;subst e;cases j;let⟨w,u,p,t⟩:=c.tuple m;show lW (p) ?_;show⟨s1.heap.objs.size,[s1.heap.objs.size],_,_,r,rfl,c.kept λb o e=>aH _ e,TL a _,⟨_,aX _ rfl,rfl,rfl⟩,λb g=>?_,q⟩;let e:b=s1.heap.objs.size:=by simpa using g
 subst e;apply c.aa4 (aU _) (c.L5.fresh (aU _))
def UI{c:JK}{d:St}{H:Hp}{s:aR}{R:It->Hp->Prop}{E:Gu}{lo a:Int}{t u v:si}{tk:Nat}(I:Inv X c d H s)(i : -(2^62)<=lo)(m:lo<2^62)(j : -(2^62)<=a)(h:a<2^62)
  (q:R (Hh lo (a-lo).toNat) H):az (model X.prog X.w) X.A (nM (.ref s.heap.objs.size)) (Js X c d Eu R) E { s with heap:=s.heap.push { cls:=.type "range",data:=.fields #[.int lo t,.int a u,.int 1 v] },toks:=tk }:=by
 show wpAny_pyIter_range (tI ..) (small_one i m j h) ?_;let f:Inv X c d H { s with heap:=s.heap.push { cls:=.type "range",data:=.fields #[.int lo t,.int a u,.int 1 v] },toks:=tk }:=I.kept λb o e=>aH _ e
 show⟨(s.heap.push { cls:=.type "range",data:=.fields #[.int lo t,.int a u,.int 1 v] }).objs.size,[(s.heap.push { cls:=.type "range",data:=.fields #[.int lo t,.int a u,.int 1 v] }).objs.size],_,_,H,rfl,
  f.kept λb o e=>aH _ e,T_ _ lo (a-lo).toNat,?_,λb g=>?_,q⟩
 ·let l:lo+((0:Nat):Int)*1=lo:=⋯
  let k:(((a-lo).toNat:Nat):Int)-((0:Nat):Int)=kM.Range.rangeSize lo a 1:=by rw[rangeSize_one];split<;>lia
  rw[l,k];apply aX _ rfl
 ·let e:b=(s.heap.push { cls:=.type "range",data:=.fields #[.int lo t,.int a u,.int 1 v] }).objs.size:=by simpa using g
  subst e;apply f.aa4 (aU _) (f.L5.fresh (aU _))
def Ah(Et:Az):TI:=λσ H R=>Et σ H λvs H1=>∃j:Int,vs=[.int j]/\-(2^62)<=j/\j<2^62/\R (Hh 0 j.toNat) H1
def JH(Et:Az):TI:=λσ H R=>Et σ H λvs H1=>∃i j:Int,vs=[.int i,.int j]/\(-(2^62)<=i/\i<2^62/\-(2^62)<=j/\j<2^62)/\R (Hh i (j-i).toNat) H1
def tw{a:bT}{c:Az}{p pos:g6}(l:Gl X "range")(k:X.mg "range" = aB)(m:MY X [a] c)(hs:aN [a] X.env=[(aC,eval a X.env)]|>On):A8 X Eu (.Call (.Name "range" p) [a] [] pos) (Ah c):=by
 ext d s f H R I h;show sy (Xv I l k sI (cJ (Z8 (m pos d s f H _ I h) λo s1 ⟨vs,u,i,g,b⟩=>?_) hs rfl));let⟨j,e,b,n,q⟩:=b;subst e
 cases g with
 | cons r Mn=>
  cases Mn;let⟨t,rfl⟩:=r;apply call_range_1 (UI i () () b n (~~~q))
def hJ{a b:bT}{f:Az}{p pos:g6}(u:Gl X "range")(o:X.mg "range" = aB)(v:MY X [a,b] f)(hs:aN [a,b] X.env=[(aC,eval a X.env),(aC,eval b X.env)]|>On)(c:aN [b] X.env=[(aC,eval b X.env)]|>On) :
  A8 X Eu (.Call (.Name "range" p) [a,b] [] pos) (JH f):=by
 ext g s k H R I h;show sy (Xv I u o sI (cJ (Z8 (v pos g s k H _ I h) λy s1 ⟨vs,z,n,l,d⟩=>?_) (by rw[hs,c]) (by rw[c];rfl)));let⟨i,j,e,⟨d,x,m,w⟩,q⟩:=d;subst e
 cases l with
 | cons r Mn=>
  cases Mn with
  | cons Kd Mn=>
   cases Mn;let⟨t,rfl⟩:=r;let⟨t',rfl⟩:=Kd;apply call_range_2 (UI n d x m w q)
def FK(Ke:TI)(g:GJ)(Gx:Cq):Cq:=λD σ H=>Ke σ H λJ H1=>∃W:Nat->Nat->St->Hp->Prop,(∃m,W 0 m σ H1)/\∀i m σ H,W i m σ H->
 (J.stop i H/\D.L4 σ H)\/(J.go i H/\∃N:St->Hp->Prop,(∀σ' H',N σ' H'->∃JQ,JQ<m/\W (i+1) JQ σ' H')/\∀x H',J.aas i H x H'->g x σ H' λσ2 H2=>Gx { D with L4:=N,Gq:=N,Gw:=D.L4 } σ2 H2)
def MF(Gh:Gs)(h:bp):List (aP×fE):=Gh.filterMap λb=>(h.get? b).map λo=>(b,o)
def V7{a:Gs}{h:bp}{b:aP}{o:fE}(c:b∈a)(e:h.get? b=aA o):(b,o)∈MF a h:=jv.mpr ⟨b,c,by rw[e];rfl⟩
def r_{a:Gs}{h:bp}{p:aP×fE}(f:p∈MF a h):p.1∈a/\h.get? p.1=aA p.2:=by
 let⟨b,c,e⟩:=jv.mp f
 cases q:h.get? b with
 | none=>rw[q] at e;cases e
 | some o=>
  rw[q] at e;let d:=bM e;subst d;apply⟨c,q⟩
def Inv.pinned{a:JK}{g:St}{H:Hp}{s:aR}{c:Gs}(I:Inv X a g H s)(i:∀b∈c,Il X a H b)(j:∀b∈c,∃o,s.heap.get? b=aA o/\∀v,o.data≠.cell v):Inv X (a++MF c s.heap) g H s:=
 I.abf λp m=>(aj.mp m).elim (λz=>I.pin p (bA _ z)) λz=>by let⟨f,e⟩:=r_ z;let⟨l,f1,k,_⟩:=i p.1 f;let⟨o,h,d⟩:=j p.1 f;rw[e] at h;cases h;apply⟨e,l,f1,k,d⟩
def Inv.abh{a d:JK}{b:St}{H:Hp}{s:aR}(I:Inv X (a++d) b H s):Inv X a b H s:=I.abf λp c=>I.pin p (bA _ (au _ c))
def Sh{q:bT}{w:Cs}{Ke:TI}{g:GJ}{Gx:Cq}{pos:g6}(L:pL (model X.prog X.w) X.A X.env X.Ar)(Ex:X.calm=aD)(N9:A8 X Eu q Ke)(Gz:CY X Eu g)(c:Kw X w Gx)
  (hs:∀x,cw q X.env x=pure x:=by ext _;rfl):AV X (.For Eu q w [] pos) (FK Ke g Gx):=by
 ext y s Z H D I h;show wpAny_For (Z8 (N9 y s Z H _ I h) λv s1 Es=>Z8 Es λab1 s2 Md=>?_) hs;let⟨it,A,EB,J,H2,e,I2,T,O,Y,W,⟨m0,abi⟩,B⟩:=Md;subst e
 -- ab8 stays aD of AA acs objects through AA loop
 let l:∀{H':Hp},(∀b∈A,H' b=aB)->∀b∈A,Il X y H' b:=λAy b c=>⟨Ay b c,(Y b c).2⟩;show codeAny_forLoop_any (λn Aq=>∃i σ' H',Inv X y σ' H' Aq/\EB i Aq.heap/\(∀b∈A,H' b=aB)/\W i n σ' H') ?_ m0 ⟨0,Z,H2,I2,O,λb c=>(Y b c).1,abi⟩;ext n s3 ⟨i,p,M,I3,G,E,abc⟩;rcases B i n p M abc with⟨C,abd⟩ | ⟨go,N,GF,step⟩
 ·show g8 L (Z8 (T.done X rfl rfl rfl Ex i y s3 p M X.Ar I3 (l E) G C) λr s4 ⟨S,I4⟩=>?_);subst S;apply g7 ⟨p,M,I4,abd⟩
 ·show g8 L (Z8 (T.item X rfl rfl rfl Ex i y s3 p M X.Ar I3 (l E) G go) λr s4 ⟨u,S,Mp⟩=>?_);subst S;show g8 L (Z8 Mp λ_ s5 ⟨x,H5,I5,ab2,ab3,z,R⟩=>?_);let P:=I5.pinned (l R) (T.obj _ _ z);show g8 L (Z8 (Gz _ s5 p H5 x u _ P ab2 (step x H5 ab3)) λ_ abr ⟨Q,H6,I6,ab4⟩=>?_);show g8 L (Z8 (c _ abr Q H6 _ I6 ab4) λf U t=>?_);let again:∀{a:St}{j:Hp},Inv X (y++MF A s5.heap) a j U->N a j->∃m,m<n/\∃i σ' H',Inv X y σ' H' U/\EB i U.heap/\(∀b∈A,H' b=aB)/\W i m σ' H':=λ{a j} k F=>by let⟨JQ,hm,ab5⟩:=GF a j F;show⟨JQ,hm,i+1,a,j,k.abh,T.keep _ _ _ z λb c o e=>(k.pin (b,o) (bA _ (bA _ (V7 c e)))).1,λb c=>?_,ab5⟩;let⟨o,e,d⟩:=T.obj _ _ z b c;apply(k.pin (b,o) (bA _ (bA _ (V7 c e)))).2.1
  cases f with
  | next=>let⟨a,j,k,F⟩:=t;apply again k F
  | cont=>let⟨a,j,k,F⟩:=t;apply again k F
  | brk=>let⟨a,j,k,t⟩:=t;apply⟨a,j,k.abh,t⟩
  | ret v=>let⟨aay,a,j,k,acm,t⟩:=t;apply⟨aay,a,j,k.abh,acm,t⟩
end
abbrev JO:=V->V->Hp->Me->Prop
def MU(X:Cx)(f:aI->aI->Sem aI)(r:JO):Prop:=
 ∀(N5:JK)(s:aR)(σ:St)(H:Hp)(x y:V)(v u:aI)(Q:Me),Inv X N5 σ H s->RelV x v->RelV y u->r x y H Q->
  az (model X.prog X.w) X.A (f v u) (EP X N5 σ Q) X.Ar s
def FW(X:Cx)(f:aI->Sem aI)(r:V->Hp->Me->Prop):Prop:=
 ∀(N5:JK)(s:aR)(σ:St)(H:Hp)(x:V)(v:aI)(Q:Me),Inv X N5 σ H s->RelV x v->r x H Q->
  az (model X.prog X.w) X.A (f v) (EP X N5 σ Q) X.Ar s
def Ie(X:Cx)(f:aI)(r:List V->Hp->Me->Prop):Prop:=
 ∀(N5:JK)(s:aR)(σ:St)(H:Hp)(xs:List V)(us:Gr)(Q:Me),Inv X N5 σ H s->Gp xs us->r xs H Q->
  az (model X.prog X.w) X.A (call f us) (EP X N5 σ Q) X.Ar s
def Ga(X:Cx)(r:V->Hp->(Bool->Hp->Prop)->Prop):Prop:=
 ∀(N5:JK)(s:aR)(σ:St)(H:Hp)(x:V)(v:aI)(Q:Bool->Hp->Prop),Inv X N5 σ H s->RelV x v->r x H Q->
  az (model X.prog X.w) X.A (truthy v) (HB X N5 σ Q) X.Ar s
def IW(r:JO)(Et Gx:TE):TE:=λσ H Q=>Et σ H λx H1=>Gx σ H1 λy H2=>r x y H2 Q
def HY(r:V->Hp->Me->Prop)(Et:TE):TE:=λσ H Q=>Et σ H λx H1=>r x H1 Q
def IP(C:L1)(g:Int->Int->V):JO:=λx y H Q=>∃i j,x = .int i/\y = .int j/\C i j/\Q (g i j) H
def IF(g:Int->Int->V):JO:=λx y H Q=>∃i j,x = .int i/\y = .int j/\Q (g i j) H
def Ms(g:Int->V):V->Hp->Me->Prop:=λx H Q=>∃i,x = .int i/\Q (g i) H
section
variable {X:Cx} {a b c:bT} {Et Gx aa9:TE} {pos:g6}
def zC(p:JY X a Et)(l:JY X b Gx){i:JK}{s:aR}{c:St}{H:Hp}{R:V->V->Hp->Prop}(I:Inv X i c H s)
  (h:Et c H λx j=>Gx c j λy d=>R x y d) {Q:Gu} {f:aI->aI->Sem aI}
  (k:∀v u s2 x y d,Inv X i c d s2->RelV x v->RelV y u->R x y d->az (model X.prog X.w) X.A (f v u) Q X.Ar s2) :
  az (model X.prog X.w) X.A (eval a X.env) (λv e=>az (model X.prog X.w) X.A (eval b X.env) (λu g=>az (model X.prog X.w) X.A (f v u) Q X.Ar g) X.Ar e) X.Ar s:=by
 show Z8 (p i s c H _ I h) ?_;ext v s1 ⟨x,j,n,m,o⟩;show Z8 (l i s1 c j _ n o) ?_;ext u s2 ⟨y,d,t,r,q⟩;apply k v u s2 x y d t m r q
def vA{c:Operator}{r:JO}(i:MU X (gS c) r)(l:JY X a Et)(e:JY X b Gx):JY X (.BinOp a c b pos) (IW r Et Gx):=by ext d s f H Q I h;apply wpAny_BinOp (zC l e I h λv u s2 x y g m k j q=>i d s2 f g x y v u Q m k j q)
def Zm7{b:UnaryOp}{r:V->Hp->Me->Prop}(k:FW X (unaryOp b) r)(g:JY X a Et):JY X (.UnaryOp b a pos) (HY r Et):=by ext c s d H Q I h;apply UnaryOp_ (Z8 (g c s d H _ I h) λv s1 ⟨x,j,f,i,e⟩=>k c s1 d j x v Q f i e)
def vR{f:aI->aI->Sem aI}{C:L1}{g:M_}
  (rule:∀(i j:Int)(t u:si)(s:aR)(Q:Gu)(E:Gu),C i j->Q (.int (g i j) s.toks) { s with toks:=s.toks+1 }->az (model X.prog X.w) X.A (f (.int i t) (.int j u)) Q E s) :
  MU X f (IP C λi j=>.int (g i j)):=by
 ext d s e H x y v u Q I c b h;let⟨i,j,rfl,rfl,a,q⟩:=h;let⟨t,rfl⟩:=c;let⟨t',rfl⟩:=b;apply rule i j t t' s _ _ a ⟨.int (g i j),H,I.tok _,⟨_,rfl⟩,q⟩
def Zm8{f:aI->aI->Sem aI}{g:M_}
  (rule:∀(i j:Int)(t u:si)(s:aR)(Q:Gu)(E:Gu),Q (.int (g i j) s.toks) { s with toks:=s.toks+1 }->az (model X.prog X.w) X.A (f (.int i t) (.int j u)) Q E s) :
  MU X f (IF λi j=>.int (g i j)):=by
 ext c s d H x y v u Q I b a h;let⟨i,j,rfl,rfl,q⟩:=h;let⟨t,rfl⟩:=b;let⟨t',rfl⟩:=a;apply rule i j t t' s _ _ ⟨.int (g i j),H,I.tok _,⟨_,rfl⟩,q⟩
def yg{f:aI->aI->Sem aI}{g:Int->Int->Bool}
  (rule:∀(i j:Int)(t u:si)(s:aR)(Q:Gu)(E:Gu),Q (.bool (g i j)) s->az (model X.prog X.w) X.A (f (.int i t) (.int j u)) Q E s) :
  MU X f (IF λi j=>.Ap (g i j)):=by
 ext c s d H x y v u Q I b a h;let⟨i,j,rfl,rfl,q⟩:=h;let⟨t,rfl⟩:=b;let⟨t',rfl⟩:=a;apply rule i j t t' s _ _ ⟨.Ap (g i j),H,I,rfl,q⟩
def Kk(i j:Int):Prop:=0<j/\j<1073741824
def B7(i j:Int):Prop:=j≠0/\j.natAbs<1073741824
def NB(i j:Int):Prop:=0<=j/\j<=1000000/\i.natAbs<2^64
def Dy(i j:Int):Prop:=(-(2^64)<i/\i<2^64)\/(-(2^64)<j/\j<2^64)
def Dy.ok{i j:Int}(h:Dy i j):IntMulOk i j:=by
 rcases h with⟨b,a⟩ | ⟨b,a⟩
 ·apply .of_left (intBits_le_64 b a)
 ·apply .of_right (intBits_le_64 b a)
def Zj0:MU X (gS .Add) (IF λi j=>.int (i+j)):=Zm8 λ_ _ _ _ _ _ _ q=>add_int q
def Zj1:MU X (gS .Sub) (IF λi j=>.int (i-j)):=Zm8 λ_ _ _ _ _ _ _ q=>sub_int q
def Zj2:MU X (gS .Mult) (IP Dy λi j=>.int (i*j)):=vR λ_ _ _ _ _ _ _ a q=>mul_int q a.ok
def Zex:MU X (gS .FloorDiv) (IP Kk λi j=>.int (i/j)):=vR λi j _ _ _ _ _ a q=>by let c:=a.1;let b:=a.2;apply floordiv_int () (by rw[jJ i ()];apply q) (.inl (PyProof.noPylong_small ()))
def Zj3:MU X (gS .Mod) (IP (λ_ j=>0<j) λi j=>.int (i%j)):=vR λi j _ _ _ _ _ a q=>by apply mod_int' () (by rw[Int.fmod_eq_emod_of_nonneg i ()];apply q)
def Zj4:MU X (gS .Pow) (IP NB λi j=>.int (i^j.toNat)):=vR λ_ _ _ _ _ _ _ a q=>pow_int_small a.1 a.2.1 a.2.2 q
def unI{f:aI->Sem aI}{g:Int->Int}
  (rule:∀(i:Int)(t:si)(s:aR)(Q:Gu)(E:Gu),Q (.int (g i) s.toks) { s with toks:=s.toks+1 }->az (model X.prog X.w) X.A (f (.int i t)) Q E s) :
  FW X f (Ms λi=>.int (g i)):=by
 ext b s c H x v Q I a h;let⟨i,rfl,q⟩:=h;let⟨t,rfl⟩:=a;apply rule i t s _ _ ⟨.int (g i),H,I.tok _,⟨_,rfl⟩,q⟩
def Zj5:FW X (unaryOp .USub) (Ms λi=>.int (-i)):=unI λ_ _ _ _ _ q=>neg_int q
end
section
variable {X:Cx} {a b c:bT} {Et Gx aa9:TE} {pos:g6}
def RC:MU X (dW .Lt) (IF λi j=>.Ap (decide (i<j))):=yg λ_ _ _ _ _ _ _ q=>lt_int q
def Zie:MU X (dW .LtE) (IF λi j=>.Ap (decide (i<=j))):=yg λ_ _ _ _ _ _ _ q=>le_int q
def Zif:MU X (dW .Gt) (IF λi j=>.Ap (decide (j<i))):=yg λ_ _ _ _ _ _ _ q=>gt_int q
def Zm9:MU X (dW .GtE) (IF λi j=>.Ap (decide (j<=i))):=yg λ_ _ _ _ _ _ _ q=>ge_int q
def UY(b:bT){a:rW}(h:a≠.In|>Op)(d:a≠.NotIn|>Op):dX a b=aC:=by
 let c:(a==rW.In)=aC:=by cases a<;>first | rfl | apply absurd rfl h
 let e:(a==rW.NotIn)=aC:=by cases a<;>first | rfl | apply absurd rfl d
 cases b<;>simp[dX,c,e]
def Zey{c:rW}{r:JO}(i:MU X (dW c) r)(m:JY X a Et)(e:JY X b Gx)(j:dX c b=aC):JY X (.Compare a [c] [b] pos) (IW r Et Gx):=by ext d s f H Q I h;apply wpAny_Compare1 (zC m e I h λv u s2 x y g n l k q=>i d s2 f g x y v u Q n l k q) j
def J2(t:TE):TT:=λσ H Q=>t σ H λx H'=>∃k,x = .Ap k/\Q k H'
def Zez{g:rW}{r:JO}(o:MU X (dW g) r)(A:JY X a Et)(i:JY X b Gx)(t:dX g b=aC):CQ X (.Compare a [g] [b] pos) (J2 (IW r Et Gx)):=by
 ext d s f H Q I h
 show oO (Z8 (A d s f H _ I h) λv s1 ⟨x,E,p,j,w⟩=>Z8 (i d s1 f E _ p w) λu s2 ⟨y,l,D,C,B⟩=>
  Z8 (o d s2 f l x y v u _ D j C B) λc G ⟨z,m,q,F,k,e,n⟩=>?_) t
 subst e;cases F;apply dJ ⟨m,q,n⟩
def GU(r Kd:JO)(Et Gx aa9:TE):TE:=λσ H Q=>Et σ H λx H1=>Gx σ H1 λy H2=>r x y H2 λz H3=>∃k,z = .Ap k/\
 (if k=aD then aa9 σ H3 λabt H4=>Kd y abt H4 Q else Q (.Ap aC) H3)
def r3{l f:rW}{r n:JO}(G:MU X (dW l) r)(j:MU X (dW f) n)(P:JY X a Et)(B:JY X b Gx)(F:JY X c aa9)
  (M:rA [l,f] [b,c]=aC|>Os):JY X (.Compare a [l,f] [b,c] pos) (GU r n Et Gx aa9):=by
 ext g s i H Q I h
 show Compare_chain (Z8 (P g s i H _ I h) λv s1 ⟨x,W,J,D,N⟩=>chain_link (Z8 (B g s1 i W _ J N) λu s2 ⟨y,E,U,q,S⟩=>
  Z8 (G g s2 i E x y v u _ U D q S) λd t ⟨z,m,p,Y,k,e,o⟩=>?_)) M
 subst e;cases Y;show dJ ?_
 cases k with
 | false=>apply ite_ff ⟨.Ap aC,m,p,rfl,o⟩
 | true=>apply ite_tt (chain_last (Z8 (F g t i m _ p o) λw O ⟨L,C,T,A,R⟩=>j g O i C y L u w Q T q A R))
def q2{l f:rW}{r n:JO}(M:MU X (dW l) r)(j:MU X (dW f) n)(Y:JY X a Et)(B:JY X b Gx)(J:JY X c aa9)
  (R:rA [l,f] [b,c]=aC|>Os):CQ X (.Compare a [l,f] [b,c] pos) (J2 (GU r n Et Gx aa9)):=by
 ext g s i H Q I h
 show isTrue_chain (Z8 (Y g s i H _ I h) λv s1 ⟨x,H1,N,E,S⟩=>test_link (Z8 (B g s1 i H1 _ N S) λu s2 ⟨y,G,I2,q,aah⟩=>
  Z8 (M g s2 i G x y v u _ I2 E q aah) λd t ⟨z,m,p,abj,k,e,o⟩=>?_)) R
 subst e;cases abj;show dJ ?_
 cases k with
 | false=>
  let⟨k',F,T⟩:=o;cases F;apply ite_ff ⟨m,p,T⟩
 | true=>
  show ite_tt (test_last (Z8 (J g t i m _ p o) λw U ⟨O,C,I4,A,Z⟩=>Z8 (j g U i C y O u w _ I4 q A Z) λabu s5 ⟨z2,H5,L,W,k2,P,D⟩=>?_));subst P;cases W;apply dJ ⟨H5,L,D⟩
def JB(K:aG)(x:V)(H:Hp)(k:Bool):Prop:=
 match x with
 | .Ma=>k=aC
 | .Ap b=>k=b
 | .int i=>k=(i != 0)
 | .str y=>y.length<=sizeLine/\k=((y.length:Int) != 0)
 | .aaz y=>y.size<=sizeLine/\k=((y.size:Int) != 0)
 | .ref p=>(∃xs,EJ K H p xs/\k = !xs.isEmpty)\/(∃xs,CG K H p xs/\k = !xs.isEmpty)\/∃JJ,H p=aA (.Mf JJ)/\k = !JJ.isEmpty
 | _=>False
def U_{κ:Type}{a:List (κ×V)}{vs:List (κ×aI)}(r:KV a vs):(!vs.isEmpty) = !a.isEmpty:=by cases r<;>rfl
def OA{xs:List V}{a:Gr}(r:Gp xs a):(!a.toArray.isEmpty) = !xs.isEmpty:=by cases r<;>simp
def zD:(sizeLine:Nat)<2^63:=by rw[dh];decide
def Zj6:Ga X (λx H Q=>∃k,JB X.K x H k/\Q k H):=by
 ext u s w H x v Q I d h;let⟨k,e,q⟩:=h;let hs:=dh
 cases x with
 | Ma=>
  cases d;let a:=e;subst a;apply truthy_none ⟨H,I,q⟩
 | Ap b=>
  cases d;let a:=e;subst a;apply dJ ⟨H,I,q⟩
 | int i=>
  let⟨t,rfl⟩:=d;let a:=e;subst a;apply PySem.P.truthy_int ⟨H,I,q⟩
 | str y=>
  let⟨t,rfl⟩:=d;let⟨n,a⟩:=e;subst a;apply PySem.P.truthy_str () ⟨H,I.tok _,q⟩
 | aaz y=>
  let⟨t,rfl⟩:=d;let⟨n,a⟩:=e;subst a;apply PySem.W.truthy_bytes () ⟨H,I.tok _,q⟩
 | ref p=>
  cases d;let a:=e;rcases a with⟨xs,f,a⟩ | ⟨xs,f,a⟩ | ⟨z,f,a⟩
  ·subst a;let⟨o,r,g,j⟩:=I.list f;let c:=r.length;apply wpAny_truthy_list g.isList (by dsimp[aT];lia) ⟨H,I.tok _,by rw[OA r];apply q⟩
  ·subst a;let⟨o,r,g,j⟩:=I.tuple f;let c:=r.length;apply truthy_tuple g (by dsimp[aT];lia) ⟨H,I.tok _,by rw[OA r];apply q⟩
  ·subst a;let⟨j,l,vs,r,m⟩:=I.L5 p _ f;let c:=Paired.length r;apply wpAny_truthy_dict l m () ⟨H,I.tok _,by rw[U_ r];apply q⟩
 | _=>apply(e).elim
def w'(i:JY X a Et)(f:∀whole,qA a X.env whole=(do let v <-whole;sC a.pos;holding [v] (truthy v))) :
  CQ X a (λb H Q=>Et b H λx c=>∃k,JB X.K x c k/\Q k c):=by
 ext d s b H Q I h;apply isTrue_plain (Z8 (i d s b H _ I h) λv s1 ⟨x,l,g,j,e⟩=>Zj6 d s1 b l x v Q g j e) (f _)
def Vy{x:V}{a:Gr}(r:Gp [x] a):∃u,a=[u]/\RelV x u:=by
 cases r with
 | cons aba aam=>cases aam;apply⟨_,rfl,aba⟩
def qi{x y:V}{a:Gr}(r:Gp [x,y] a):∃u abt,a=[u,abt]/\RelV x u/\RelV y abt:=by
 cases r with
 | cons aba aam=>
  cases aam with
  | cons abj acn=>cases acn;apply⟨_,_,rfl,aba,abj⟩
def ro(b:X.calm=aD):Ie X (.builtin "max") (λxs H Q=>∃i j,xs=[.int i,.int j]/\Q (.int (if j>i then j else i)) H):=by
 ext d s f H xs c Q I r h;let⟨i,j,rfl,q⟩:=h;let⟨u,e,rfl,⟨t,rfl⟩,⟨t',rfl⟩⟩:=qi r;show max_two_ints (I.ok.hd b) λh' tk k=>⟨_,H,I.kept k,?_,q⟩;by_cases a:j>i
 ·rw[An a,An a];apply⟨_,rfl⟩
 ·rw[N4 a,N4 a];apply⟨_,rfl⟩
def Qg(b:X.calm=aD):Ie X (.builtin "min") (λxs H Q=>∃i j,xs=[.int i,.int j]/\Q (.int (if j<i then j else i)) H):=by
 ext d s f H xs c Q I r h;let⟨i,j,rfl,q⟩:=h;let⟨u,e,rfl,⟨t,rfl⟩,⟨t',rfl⟩⟩:=qi r;show min_two_ints (I.ok.hd b) λh' tk k=>⟨_,H,I.kept k,?_,q⟩;by_cases a:j<i
 ·rw[An a,An a];apply⟨_,rfl⟩
 ·rw[N4 a,N4 a];apply⟨_,rfl⟩
def TQ:Ie X (.type "int") (λxs H Q=>(∃i,xs=[.int i]/\Q (.int i) H)\/∃k,xs=[.Ap k]/\Q (.int (if k then 1 else 0)) H):=by
 ext c s d H xs b Q I r h;rcases h with⟨i,rfl,q⟩ | ⟨k,rfl,q⟩
 ·let⟨u,rfl,t,rfl⟩:=Vy r;apply call_int_int ⟨.int i,H,I,⟨_,rfl⟩,q⟩
 ·let⟨u,rfl,a⟩:=Vy r;cases a;apply call_int_bool ⟨.int (if k then 1 else 0),H,I.tok _,⟨_,rfl⟩,q⟩
def F4(K:aG)(x:V)(H:Hp)(n:Nat):Prop:=
 match x with
 | .str y=>y.length<=sizeLine/\n=y.length
 | .aaz y=>y.size<=sizeLine/\n=y.size
 | .ref p=>(∃xs,EJ K H p xs/\n=xs.length)\/∃xs,CG K H p xs/\n=xs.length
 | _=>False
def tc:Ie X (.builtin "len") (λxs H Q=>∃x n,xs=[x]/\F4 X.K x H n/\Q (.int n) H):=by
 ext m s o H xs l Q I r h;let⟨x,n,rfl,e,q⟩:=h;let⟨u,rfl,f⟩:=Vy r;let hs:=dh
 cases x with
 | str y=>
  let⟨t,rfl⟩:=f;let⟨j,b⟩:=e;subst b;apply len_str () ⟨.int _,H,I.tok _,⟨_,rfl⟩,q⟩
 | aaz y=>
  let⟨t,rfl⟩:=f;let⟨j,b⟩:=e;subst b;apply PySem.W.len_bytes () ⟨.int _,H,I.tok _,⟨_,rfl⟩,q⟩
 | ref p=>
  cases f;let b:=e;rcases b with⟨xs,g,b⟩ | ⟨xs,g,b⟩
  ·subst b;let⟨k,c,d,i⟩:=I.list g;let a:=c.length;apply Calls.call_len_list d.isList (by dsimp[aT];lia) ⟨.int xs.length,H,I.tok _,⟨_,by dsimp[aT];rw[a]⟩,q⟩
  ·subst b;let⟨k,c,d,i⟩:=I.tuple g;let a:=c.length;apply len_tuple d (by dsimp[aT];lia) ⟨.int xs.length,H,I.tok _,⟨_,by dsimp[aT];rw[a]⟩,q⟩
 | _=>apply(e).elim
end
structure ab6(h:bp)(x Mm C:aP)(aa0:JM):Prop where
 obj:h.get? x=aA (oA C Mm)
 ns:h.Ns1 Mm aa0
 ne:Mm≠x
def sD{h:bp}{d:aP}{c:JM}(n:h.Ns1 d c):∃AB,h.get? d=aA AB/\∀name,oY name AB=aA (c name):=by
 let⟨o,f,ep,j,g,m,_,l⟩:=n;show⟨o,j,λname=>?_⟩;let e:=l name;delta nsFind findBy at e;rw[<-Array.find?_toList] at e;delta oY;rw[g]
 dsimp only
 split
 ·rename_i y q;rw[q] at e;apply congrArg aA e
 ·rename_i q;rw[q] at e;let a:f.toList.any (·.refKey)=aC:=by rw[List.any_eq_false];ext y i;let⟨z,t,b⟩:=m y (Array.mem_toList_iff.mp i);simp[DictEntry.refKey,b]
  let k:¬f.toList.any (·.refKey)=aD:=by rw[a];apply br
  rw[N4 k];apply congrArg aA e
def ab6.look{h:bp}{x c C:aP}{b:JM}(I:ab6 h x c C b):∃a,oZ h x (oA C c) C (aA a)/\∀name,oY name a=aA (b name):=
 let⟨a,e,d⟩:=sD I.ns
 ⟨a,⟨I.obj,rfl,rfl,e⟩,d⟩
def Ng.some_of{v:V}{o:Option aI}(r:Ng (aA v) o):∃u,o=aA u/\RelV v u:=by
 cases o with
 | none=>apply(r).elim
 | some u=>apply⟨u,rfl,r⟩
section
variable {P:bO} {w:bX} {H H':Hp} {h h':bp} {a C Mm:aP} {fs fs':List (bJ×V)}
def Ze0(c:AX P w H h)(e:H a=aA (.ins C Mm fs)):∃b,ab6 h a Mm C b/\(∀f,Ng (fs.lookup f) (b f))/\tD b (fs.map (·.1))/\la fs<=1000/\H Mm=aA (.own a):=by let⟨d,z,ne,g,b,n,r,q⟩:=(c a _ e);apply⟨b,⟨g,n,ne⟩,r,q,z,d⟩
end
structure ab7(K:aG)(C:aP):Prop where
 aco:rB K C jS=aD
 hd:PySem.W.hasDictIn K C=aD
 po:PySem.W.plainOver K C=aD
 acu:eY K (.ref C) "__setattr__" = aA (aA (.builtin "object.__setattr__"))
def ab7.get{K:aG}{C:aP}(c:ab7 K C)(f:bJ):rB K C f=aD:=c.aco
section
variable {X:Cx} {N5:JK} {σ:St} {H:Hp} {s:aR} {A:bg} {E:Gu} {Q:Gu} {c:aI} {b:Bool}
inductive AD(K:aG)(H:Hp):V->aI->Prop where
 | Ma:AD K H .Ma (.type "NoneType")
 | Ap (x:Bool):AD K H (.Ap x) (.type "bool")
 | int (i:Int):AD K H (.int i) (.type "int")
 | str (x:bJ):AD K H (.str x) (.type "str")
 | aa5 (x:UInt64):AD K H (.aa5 x) (.type "float")
 | lst {a:aP} {xs:List V} (e:H a=aA (.lst xs)):AD K H (.ref a) (.type "list")
 | Er {a:aP} {o:fE} {xs:List V} (e:H a=aA (.Er o (.lst xs))):AD K H (.ref a) (.type "list")
 | tup {a:aP} {xs:List V} (e:H a=aA (.tup xs)):AD K H (.ref a) (.type "tuple")
 | Mf {a:aP} {JJ:List (JL×V)} (e:H a=aA (.Mf JJ)):AD K H (.ref a) (.type "dict")
 | L8 {a:aP} {JJ:List (List JL×V)} (e:H a=aA (.L8 JJ)):AD K H (.ref a) (.type "dict")
 | ins {a C Mm:aP} {fs:List (bJ×V)} (e:H a=aA (.ins C Mm fs)) (cl:ab7 K C) (Mi:eY K (.ref C) "__class__" = aA (aA (.builtin "object.__class__")))
   (Ay:PySem.W.specialIn K (.builtin "object.__class__") "__get__" = aA (aA (.builtin "getset_descriptor.__get__"))) (G_:PySem.W.takesIn K (.builtin "object.__class__")=aA aD)
   (hm:mW K C (.type "object")=aA aD):AD K H (.ref a) (.ref C)
def qv{x:V}{u t:aI}(I:Inv X N5 σ H s)(d:RelV x u)(ty:AD X.K H x t)(e:c9 X.K t c=aA b)(h:∀tk,Q (.bool b) { s with toks:=tk }) :
  az (model X.prog X.w) A (call (.builtin "isinstance") [u,c]) Q E s:=by
 cases ty with
 | Ma=>cases (d);apply dU PySem.W.kitx_none I.GA cK e (λz=>nomatch z) h
 | Ap y=>cases (d);apply dU PySem.W.kitx_bool I.GA cK e (λz=>nomatch z) h
 | int i=>let⟨t,q⟩:=(d);cases q;apply dU PySem.W.kitx_int I.GA cK e (λz=>nomatch z) h
 | str y=>let⟨t,q⟩:=(d);cases q;apply dU PySem.W.kitx_str I.GA cK e (λz=>nomatch z) h
 | aa5 y=>let⟨t,q⟩:=(d);cases q;apply dU PySem.W.kitx_float I.GA cK e (λz=>nomatch z) h
 | @lst a xs ea=>
  cases (d);let⟨_,_,n,_,f⟩:=(I.L5 a _ ea);apply dU qU I.GA ⟨_,f,rfl⟩ e (λz=>nomatch z) h
 | @Er a aak xs ea=>
  cases (d);let⟨_,_,_,n,_,f⟩:=(I.L5 a _ ea);apply dU qU I.GA ⟨_,f,rfl⟩ e (λz=>nomatch z) h
 | @tup a xs ea=>
  cases (d);let⟨_,_,_,p⟩:=(I.L5 a _ ea);let⟨o,f,g,_⟩:=p;apply dU PySem.W.kitx_tuple I.GA ⟨o,f,g⟩ e (λz=>nomatch z) h
 | @Mf a JJ ea=>
  cases (d);let⟨_,_,vs,_,p⟩:=(I.L5 a _ ea);let⟨o,j,ep,f,g,_⟩:=p;apply dU qV I.GA ⟨o,f,g.1⟩ e (λz=>nomatch z) h
 | @L8 a JJ ea=>
  cases (d);let⟨_,_,xs,_,o,j,ep,f,g,_⟩:=(I.L5 a _ ea);apply dU qV I.GA ⟨o,f,g.1⟩ e (λz=>nomatch z) h
 | @ins a C Mm fs ea cl Mi Ay G_ hm=>
  cases (d);let⟨k,O,_⟩:=Ze0 I.L5 ea;let⟨l,J,_⟩:=O.look;apply dU (PySem.W.kitx_own (cl.get _) cl.hd Mi Ay G_ hm) I.GA J e (λz=>nomatch z) h
end
structure Cm(k:Nat)(A:bg):Prop where
 hd:A.handled=aB
 Cr:A.depth+3*k+5<o4
 un:A.units+16*k+200<gE
 Ic:A.guards=aA []
def Cm.mono{j k:Nat}{A:bg}(r:Cm k A)(h:j<=k):Cm j A:=⟨r.hd,by let:=r.Cr;lia,by let:=r.un;lia,r.Ic⟩
def Cm.deeper{k:Nat}{A:bg}(r:Cm (k+1) A)(env:oW):Cm k (A.deeper env):=
 ⟨r.hd,by let:=r.Cr;change A.depth+1+3*k+5<_;lia,by let:=r.un;change A.units+3+16*k+200<_;lia,r.Ic⟩
def Cm.depth{k:Nat}{A:bg}(r:Cm k A):A.depth<o4:=by let:=r.Cr;lia
def Cm.units{k:Nat}{A:bg}(r:Cm k A):A.units+64<gE:=by let:=r.un;lia
def CJ:Az:=λ_ H Q=>Q [] H
def Dz(Et:TE)(Aw:Az):Az:=λσ H Q=>Et σ H λx H1=>Aw σ H1 λxs H2=>Q (x::xs) H2
section
variable {X:Cx} {e:bT} {Gi:Mk} {JN:TE} {t:Az} {pos:g6}
def YN:MY X [] CJ:=λ_ _ _ _ H Q I h=>kF ⟨[],H,I,.nil,h⟩
def ZQ(i:JY X e JN)(j:MY X Gi t)(hs:aN (e::Gi) X.env=(aC,eval e X.env)::aN Gi X.env|>On):MY X (e::Gi) (Dz JN t):=by ext pos a s b H Q I h;rw[hs];show jw (Z8 (i a s b H _ I h) λu s1 ⟨x,n,f,c,g⟩=>?_);apply Z8 (j pos a s1 b n _ f g) λo s2 ⟨xs,d,m,l,k⟩=>⟨x::xs,d,m,.cons c l,k⟩
def JA(t:Az):TE:=λσ H Q=>t σ H λxs H1=>xs.length<=sizeLine/\∀p,H1 p=aB->Q (.ref p) (upd H1 p (.tup xs))
def DU(t:Az):TE:=λσ H Q=>t σ H λxs H1=>xs.length<=sizeLine/\∀p,H1 p=aB->Q (.ref p) (upd H1 p (.lst xs))
def Zg{abv}(h:MY X Gi t):JY X (.Tuple Gi abv pos) (JA t):=by ext d s g H Q I i;show wpAny_Tuple_spliced (Z8 (h pos d s g H _ I i) λc s1 ⟨xs,j,a,r,z,q⟩=>⟨by rw[<-r.length];apply z,?_⟩);let f:=a.L5.fresh (aU _);show⟨.ref s1.heap.objs.size,upd j s1.heap.objs.size (.tup xs),a.laid (λb u e=>aH _ e) (aU _) ?_,rfl,q _ f⟩;apply⟨⟨z,λo e=>Qe e⟩,c,r,⟨_,aX _ rfl,rfl,_,rfl⟩⟩
def RB(h:MY X Gi t):JY X (.List Gi pos) (DU t):=by ext d s g H Q I i;show wpAny_List_spliced (Z8 (h pos d s g H _ I i) λc s1 ⟨xs,j,a,r,z,q⟩=>⟨by rw[<-r.length];apply z,?_⟩);let f:=a.L5.fresh (aU _);show⟨.ref s1.heap.objs.size,upd j s1.heap.objs.size (.lst xs),a.laid (λb u e=>aH _ e) (aU _) ?_,rfl,q _ f⟩;apply⟨z,c,0,r,aX _ rfl⟩
end
abbrev Sp:=List V->Hp->Me->Ml->Prop
abbrev uH:=List oW->Hp->aR->Ml->aI->aR->Prop
structure lL(P:bO)(w:bX)(K:aG)(mg:JM)(base:bp)(A:bg)(outer:GB)(s:aR)(H:Hp):Prop where
 frames:A.frames=aA outer
 mod:Mod K mg base
 bs:∀b o,base.get? b=aA o->s.heap.get? b=aA o/\H b=aB
 aae:base.objs.size<=s.heap.objs.size
 ED:s.heap.FunFrames base outer
 aal:∀b∈Mu outer,H b=aB
 tab:Ld K mg base H
 L5:AX P w H s.heap
 bare:mI s.gens
def CE(outer:GB)(P:bO)(w:bX)(H:Hp)(s:aR)(Q:Me)(u:aI)(Aq:aR):Prop:=
 ∃v H',Aq.os=s.os/\mI Aq.gens/\Au (Mu outer) [] H H' s.heap Aq.heap/\AX P w H' Aq.heap/\RelV v u/\Q v H'
def CR(CX:uH)(outer:GB)(P:bO)(w:bX)(H:Hp)(s:aR)(Q:Me)(E:Ml)(r:tG)(Aq:aR):Prop:=
 match r with
 | .ok (.ret u)=>CE outer P w H s Q u Aq
 | .ok _=>False
 | .error e=>CX outer H s E e Aq
structure S7(P:bO)(w:bX)(K:aG)(mg:JM)(base:bp)(CX:uH)(k:Nat)(f:aP)(fd:gj)(ps:Gm)(sp:Sp):Prop where
 len:∀vs H Q E,sp vs H Q E->la vs=la ps
 run:∀(A:bg)(outer:GB)(s:aR)(H:Hp)(args:Args)(us:Gr)(vs:List V)(Q:Me)(E:Ml),Cm k A->lL P w K mg base A outer s H->pM s fd args (ps.zip us)->Gp vs us->sp vs H Q E->
  jT (model P w) A (.call (.ref f) args) (CR CX outer P w H s Q E) s
section
variable {X:Cx} {N5:JK} {σ:St} {H:Hp} {s Aq:aR}
def Inv.se(I:Inv X N5 σ H s):lL X.prog X.w X.K X.mg X.base X.A X.stack s H:=
 ⟨I.ok.frames,I.ok.mod,I.bs,cG I.ok.aae I.GC,I.stack,I.abo,I.ok.tab.un I.base,I.L5,I.bare⟩
def Inv.after{Q:Me}{u:aI}(I:Inv X N5 σ H s)(h:CE X.stack X.prog X.w H s Q u Aq):EP X N5 σ Q u Aq:=by let⟨v,e,os,a,un,c,r,q⟩:=h;let⟨i,g,d,t,f⟩:=Aq;obtain rfl:=os;apply⟨v,e,I.call un c a (λb z=>absurd z ⋯),r,q⟩
end
def NW(sp:Sp)(dvs:List V)(E:Ml)(t:Az):TE:=λσ H Q=>t σ H λvs H1=>sp (vs++dvs) H1 Q E
def Binds(K:aG)(fd:gj)(ps:Gm)(ds:Gr):Prop:=
 ∀(s:aR)(us:Gr),K.In s.heap->(us++ds).length=la ps->pM s fd ⟨us,[]⟩ (ps.zip (us++ds))
def Binds.all{K:aG}{b:gj}{ps:Gm}(h:∀a:List aI,a.length=la ps->jc b ⟨a,[]⟩=pure (ps.zip a)):Binds K b ps []:=λs a _ c=>by rw[bx] at c ⊢;apply .of_eq (h a c)
def Km(CX:uH)(X:Cx)(E:Ml):Prop:=∀(N5:JK)(σ:St)(H:Hp)(s:aR)(e:aI)(Aq:aR),Inv X N5 σ H s->CX X.stack H s E e Aq->X.Ar e Aq
section
variable {X:Cx} {CX:uH} {k:Nat} {f C:aP} {fd:gj} {ps:Gm} {sp:Sp} {dvs:List V} {ds:Gr} {E:Ml} {x m:bJ} {p pos apos:g6} {e o:bT} {Gi:Mk} {Et:TE} {t:Az}
def Zj7{c:JK}{d:St}{H:Hp}{s:aR}{Q:Me}{a:Gr}{vs:List V}(F:S7 X.prog X.w X.K X.mg X.base CX k f fd ps sp)(o:Cm k X.A)(j:Binds X.K fd ps ds)(i:Gp dvs ds)(n:Km CX X E)
  (I:Inv X c d H s) (r:Gp vs a) (h:sp (vs++dvs) H Q E):az (model X.prog X.w) X.A (call (.ref f) a) (EP X c d Q) X.Ar s:=by
 let g:=r.append i;let l:(a++ds).length=la ps:=by rw[<-g.length];apply F.len _ _ _ _ h
 show jx (fX (F.run X.A X.stack s H ⟨a,[]⟩ (a++ds) (vs++dvs) Q E o I.se (j s a I.GA l) g h) λr m b=>?_)
 cases r with
 | error e=>apply n c d H s e m I b
 | ok fl=>
  cases fl with
  | ret u=>apply I.after b
  | next=>apply bz b
  | brk=>apply bz b
  | cont=>apply bz b
def VY(F:S7 X.prog X.w X.K X.mg X.base CX k f fd ps sp)(v:Cm k X.A)(n:Gl X x)(m:X.mg x=aA (.ref f))(w:fK X.K (.ref f)=aD)(j:Binds X.K fd ps ds)(d:Gp dvs ds)(o:Km CX X E)
  (u:MY X (e::Gi) t) (b:(x==("__debug__" : bJ))=aC|>Op) (g:aN (e::Gi) X.env=(aC,eval e X.env)::aN Gi X.env|>On) (a:(ck pos (aN Gi X.env)).any (·.1)=aC|>On) :
  JY X (.Call (.Name x p) (e::Gi) [] pos) (NW sp dvs E t):=by
 ext i s l H Q I h;show cU (Wx I n m ?_ b);show gU I.ok.mod.aav w (Z8 (u pos i s l H _ I h) λy s1 ⟨vs,z,c,r,q⟩=>⟨c.GA,?_⟩) g a;apply Zj7 F v j d o c r q
end
def Jb(X:Cx)(kws:List pN)(t:Az):Prop:=
 ∀(pos:g6)(N5:JK)(s:aR)(σ:St)(H:Hp)(Q:List V->Hp->Prop),Inv X N5 σ H s->t σ H Q->az (model X.prog X.w) X.A (evalAll ((sJ pos (o5 kws X.env)).map (·.2))) (AP X N5 σ Q) X.Ar s
structure Z2(N P:Gm)(sc:jX):Prop where
 kind:sc.kind = .function
 co:sc.isCoroutine=aC
 gen:sc.isGenerator=aC
 nd:N.Nodup
 pre:N.take (la P)=P
 par:∀x∈P,sc.names.lookup x=aA .local\/sc.names.lookup x=aA .cell
 vc:∀y∈sc.names,y.2≠.free
def dA{kindOf:bJ->Option iI}{x:bJ}:∀{binds:List (bJ×aI)}{m:JM},(∀v,(x,v)∉binds)->sL kindOf binds m x=m x
 | [],_,_=>rfl
 | (n,v)::r,m,h=>by
  delta sL;rw[dA λw a=>h w (aS _ a)];split
  ·have:x≠n:=by ext rfl;apply h v ar
   simp[this]
  ·rfl
def WX{kindOf:bJ->Option iI}{x:bJ}:∀{binds:List (bJ×aI)}{m:JM},(∀v,(x,v)∉binds)->sM kindOf binds m x=m x
 | [],_,_=>rfl
 | (n,v)::r,m,h=>by
  delta sM;rw[WX λw a=>h w (aS _ a)];split
  ·rfl
  ·have:x≠n:=by ext rfl;apply h v ar
   simp[this]
def e_{kindOf:bJ->Option iI}{x:bJ}{v:aI}:∀{P:Gm}{vs:Gr}{i:Nat}{m:JM},P.Nodup->P[i]?=aA x->vs[i]?=aA v->kindOf x=aA .local->
  sL kindOf (P.zip vs) m x=aA v
 | [],_,_,_,_,h,_,_=>by simp at h
 | _::_,[],_,_,_,_,h,_=>by simp at h
 | p::P,w::vs,0,m,nd,Es,Md,hk=>by simp at Es Md;subst Es;subst Md;change sL kindOf ((p,w)::P.zip vs) m p=_;delta sL;rw[dA λv a=>(av.mp nd).1 (i6 a).1,An hk];simp
 | p::P,w::vs,i+1,m,nd,Es,Md,hk=>by change sL kindOf ((p,w)::P.zip vs) m x=_;delta sL;apply e_ (i:=i) (av.mp nd).2 (~~~Es) (~~~Md) hk
def PY{kindOf:bJ->Option iI}{x:bJ}{v:aI}:∀{P:Gm}{vs:Gr}{i:Nat}{m:JM},P.Nodup->P[i]?=aA x->vs[i]?=aA v->kindOf x≠aA .local->
  sM kindOf (P.zip vs) m x=aA v
 | [],_,_,_,_,h,_,_=>by simp at h
 | _::_,[],_,_,_,_,h,_=>by simp at h
 | p::P,w::vs,0,m,nd,Es,Md,hk=>by simp at Es Md;subst Es;subst Md;change sM kindOf ((p,w)::P.zip vs) m p=_;delta sM;rw[WX λv a=>(av.mp nd).1 (i6 a).1,N4 hk];simp
 | p::P,w::vs,i+1,m,nd,Es,Md,hk=>by change sM kindOf ((p,w)::P.zip vs) m x=_;delta sM;apply PY (i:=i) (av.mp nd).2 (~~~Es) (~~~Md) hk
noncomputable def start(N:Gm)(vs:List V):St:=vs.map aA++aW (la N-la vs) aB
def Ip(CX:uH)(P:bO)(w:bX)(K:aG)(mg:JM)(base:bp)(N:Gm)(qual:bJ)(scope:jX)(f:aP)(cd:aI)(A:bg)(outer:GB)(s:aR)(H:Hp)(E:Ml):Cx where
 prog:=P
 w:=w
 K:=K
 mg:=mg
 base:=base
 A:=A.deeper (j6 qual scope s.heap.objs.size f cd)
 N:=N
 s₀:=s
 H₀:=H
 env:=j6 qual scope s.heap.objs.size f cd
 outer:=outer
 stack:=j6 qual scope s.heap.objs.size f cd::outer
 ex:=[]
 calm:=aD
 fn:=λ_=>aD
 GG:=[]
 Ar:=λe Aq=>az (model P w) (A.deeper (j6 qual scope s.heap.objs.size f cd)) (leaving (j6 qual scope s.heap.objs.size f cd) e) (λ_ u7=>CX outer H s E e u7) (λe' u7=>CX outer H s E e' u7) Aq
def O5{a:jX}{n:Nat}{x:bJ}(h:a.names.lookup x=aA .cell):∃c,(rC n a.names []).lookup x=aA c:=by let q:=kG a.names n [] (.inl h);apply dY.mp q
def uP{a b c:bJ}(h:a++c=b++c):a=b:=by
 let⟨a⟩:=a;let⟨b⟩:=b;let d:a++c.cps=b++c.cps:=congrArg bJ.cps h;let f:a.toList++c.cps.toList=b.toList++c.cps.toList:=by rw[<-gG,<-gG,d]
 let e:=rD.mp (List.append_cancel_right f);rw[e]
def Vg{CX:uH}{P:bO}{w:bX}{K:aG}{mg:JM}{n:bp}{N ps:Gm}{g:bJ}{d:jX}{f:aP}{B:aI}{A:bg}{j:GB}{s s1:aR}{H:Hp}{E:Ml}{I:Gr}{vs:List V}
  (J:dS K B g=aD) (S:Z2 N ps d) (O:A.handled=aB) (m:lL P w K mg n A j s H) (X:la vs=la ps) (r:Gp vs I)
  (x:InCallC s s.heap.objs.size (sL (j6 g d s.heap.objs.size f B).kindOf (ps.zip I) λ_=>aB) (rC (s.heap.objs.size+1) d.names []) (sM (j6 g d s.heap.objs.size f B).kindOf (ps.zip I) λ_=>aB) s1) :
  Inv (Ip CX P w K mg n N g d f B A j s H E) [] (start N vs) H s1:=by
 let Q:la ps<=la N:=by let:=congrArg fQ S.pre;rw[bK] at this;lia
 let⟨F,tk,rfl,M⟩:=x.done;let t:∀b:aP,b∉(Ip CX P w K mg n N g d f B A j s H E).ex:=λb z=>absurd (show b∈([]:Gs) from z) ⋯
 show⟨⟨m.mod,S.kind,rfl,rfl,aU _,λy z c F l=>?_,λy o=>?_,λy c _ h=>?_,λ_=>O,o6 m.frames,.inr ⟨rfl,rfl⟩,λb z=>absurd z (t b),m.bs,m.aae,λb _ _=>t b,λb z=>absurd z (t b),m.ED,m.aal,m.tab,λq _ T _=>by rw[<-uP T];apply J⟩,
  rfl,m.bare,Au.kept M,⟨_,x.toInCall.ns,λi y v F l W=>?_⟩,λy c h=>⟨_,x.cell y c h⟩,m.L5.fresh (aU _),λy c h=>?_,λp D=>absurd (show p∈([]:JK) from D) ⋯,m.L5.kept M,?_⟩
 ·apply name_of_addr x.apart (eJ F) (eJ l)
 ·let o:=o;rcases o with o | o
  ·apply O5 o
  ·apply absurd rfl (S.vc _ (eJ o))
 ·apply dR (x.above y c (eJ h))
 ·let G:i<la vs:=by
   delta start at l;by_cases G:i<la vs
   ·apply G
   ·rw[bQ (~~~G)] at l;rw[cP] at l;split at l<;>cases l
  let U:vs[i]?=aA v:=by
   delta start at l;rw[bB (~~~G),ag] at l
   cases e:vs[i]? with
   | none=>rw[e] at l;cases l
   | some a=>rw[e] at l;cases l;rfl
  let⟨u,L,R⟩:=r.get U;let D:ps[i]?=aA y:=by rw[<-S.pre,hV ()];apply F
  let C:ps.Nodup:=by rw[<-S.pre];apply S.nd.sublist (fm _ _)
  show⟨u,R,?_⟩;rcases S.par y (aw D) with k | k
  ·apply .inl ⟨k,e_ C D L k⟩
  ·let⟨c,e⟩:=O5 k;show .inr ⟨.inl k,c,e,?_⟩;let q:=x.cell y c e;rw[PY C D L (by change d.names.lookup y≠_;rw[k];decide)] at q;apply q
 ·apply m.L5.fresh (dR (x.above y c (eJ h)))
 ·delta start;change _=la N;rw[ah,aJ,cH]
  lia
def XQ{CX:uH}{P:bO}{w:bX}{K:aG}{mg:JM}{i:bp}{k:Nat}{f:aP}{name d:bJ}{h:pO}{j:Cs}{a:jX}{W GS G Y g Gq Cp:aI}{X AB:Co}
  {O:aau} {N ps:Gm} {U:Sp} (lk:K.lookup f=aA ⟨Cp,AB,.func (cf name d h j a W GS G Y X g Gq),O⟩) (B:dS K g d=aD) (S:Z2 N ps a)
  (len:∀vs H Q E,U vs H Q E->la vs=la ps)
  (p:∀(A:bg)(c:GB)(s:aR)(H:Hp)(vs:List V)(Q:Me)(E:Ml),Cm k (A.deeper (j6 d a s.heap.objs.size f g))->U vs H Q E->
   ∃t,Kw (Ip CX P w K mg i N d a f g A c s H E) j t/\t { L4:=λ_ m=>Q .Ma m,Cj:=Q } (start N vs) H) :
  S7 P w K mg i CX (k+1) f (cf name d h j a W GS G Y X g Gq) ps U:=by
 show⟨len,λA c s H args us vs Q E T C Ck r F=>?_⟩;let Kb:=len _ _ _ _ F;let Z:=C.mod.aav.keeps λb o e=>(C.bs b o e).1;let R:=C.mod.nolimit.keeps λb o e=>(C.bs b o e).1
 let z:∀y∈ps.zip us,a.names.lookup y.1=aA .local\/(a.names.lookup y.1=aA .cell/\((rC (s.heap.objs.size+1) a.names []).lookup y.1).isSome=aD):=by
  ext⟨n,v⟩ hy;rcases S.par n (i6 hy).1 with q | q
  ·apply .inl q
  ·apply .inr ⟨q,kG _ _ _ (.inl q)⟩
 show oP T.depth (Z _ _ lk) rfl S.co S.gen rfl (qB Z B) (Ck _ _ _ _ ?_);show lX S.kind z λenv he s1 x=>?_;subst he;show⟨R.keeps x.toInCall.keep,codeAny_func ?_⟩;let⟨t,ht,hq⟩:=p A c s H vs Q E (T.deeper _) F;let I:Inv (Ip CX P w K mg i N d a f g A c s H E) [] (start N vs) H s1:=Vg B S T.hd C Kb r x;show bq (ht [] s1 (start N vs) H _ I hq) (λfl L hs=>?_) λe L hs=>hs
 let D:∀{l:St}{m:Hp}{v:V}{u:aI},Inv (Ip CX P w K mg i N d a f g A c s H E) [] l m L->RelV v u->Q v m->CE c P w H s Q u L:=
  λ{l m v u} J M q=>⟨v,m,J.os,J.bare,J.base,J.L5,M,q⟩
 cases fl with
 | ret u=>
  let⟨v,l,m,J,M,q⟩:=hs;apply D J M q
 | next=>
  let⟨l,m,J,q⟩:=hs;apply D (v:=V.Ma) J rfl q
 | brk=>
  let⟨_,_,_,q⟩:=hs;apply bz q
 | cont=>
  let⟨_,_,_,q⟩:=hs;apply bz q
section
variable {X:Cx} {x:bJ} {p pos:g6} {e:bT} {Gi:Mk} {t:Az} {id T:L_} {r:List V->Hp->Me->Prop}
def BI(r:List V->Hp->Me->Prop)(t:Az):TE:=λσ H Q=>t σ H λvs H1=>r vs H1 Q
def OB(k:Ie X (.builtin id) r)(q:Gl X x)(n:X.mg x=aB)(l:dj x=aA (.builtin id))(u:MY X (e::Gi) t)(j:x≠"__name__"|>Op)(b:(x==("__debug__" : bJ))=aC|>Op)
  (f:aN (e::Gi) X.env=(aC,eval e X.env)::aN Gi X.env|>On) (a:(ck pos (aN Gi X.env)).any (·.1)=aC|>On):JY X (.Call (.Name x p) (e::Gi) [] pos) (BI r t):=by
 ext c s d H Q I h;show cU (Xv I q n l ?_ j b);apply iJ (Z8 (u pos c s d H _ I h) λg s1 ⟨vs,v,m,i,o⟩=>k c s1 d v vs g Q m i o) f a
def Wv(k:Ie X (.type T) r)(q:Gl X x)(n:X.mg x=aB)(l:dj x=aA (.type T))(u:MY X (e::Gi) t)(j:x≠"__name__"|>Op)(b:(x==("__debug__" : bJ))=aC|>Op)
  (f:aN (e::Gi) X.env=(aC,eval e X.env)::aN Gi X.env|>On) (a:(ck pos (aN Gi X.env)).any (·.1)=aC|>On):JY X (.Call (.Name x p) (e::Gi) [] pos) (BI r t):=by
 ext c s d H Q I h;show cU (Xv I q n l ?_ j b);apply cJ (Z8 (u pos c s d H _ I h) λg s1 ⟨vs,v,m,i,o⟩=>k c s1 d v vs g Q m i o) f a
end
end _l
namespace HT
open PySem PyProof.Rows
section
variable {prog:bO} {w:bX} {A:bg} {E:Gu} {s:aR}
def uE{t b:aP}{vs a:Gr}{Q:Gu}(z:qS s.heap t vs.toArray)(v:qS s.heap b a.toArray)(p:vs≠[])
  (x:a=[]->Q (.ref t) s) (B:a≠[]->Q (.ref s.heap.objs.size) { s with heap:=s.heap.push { cls:=.type "tuple",data:=.seq (vs++a).toArray } })
  (l:la vs+la a<=sizeLine):az (model prog w) A (gS .Add (.ref t) (.ref b)) Q E s:=by
 let⟨⟨j,dd,g,r⟩,h,y,n,u⟩:=id z;let⟨⟨o,d,data2,f⟩,c,k,q,m⟩:=id v;subst y u k m;let e:vs.toArray++a.toArray=(vs++a).toArray:=⋯
 by_cases i:a=[]
 ·apply qW ⟨_,h,rfl⟩ ⟨_,c,rfl⟩ nA p7 kH kA (jd _ _)
   (tuple_addW1 t b vs.toArray a.toArray n q dd d r f (~~~p) (by simp[i])) ⟨h,c,x i⟩
 ·show qW ⟨_,h,rfl⟩ ⟨_,c,rfl⟩ nA p7 kH kA (jd _ _)
   (tuple_addW2 t b vs.toArray a.toArray n q dd d r f (~~~p) (~~~i) (by rw[aT];apply l)) ⟨h,c,?_⟩
  rw[e];apply B i
def GR(n d:Nat):Option Int->Nat
 | none=>d
 | some v=>if v<0 then(v+(n:Int)).toNat else min v.toNat n
def k4(n d:Nat):GR n d aB=d:=rfl
def i_(n d k:Nat):GR n d (aA (k:Int))=min k n:=rfl
def xC(v:Int)(n d:Nat):(if v<0 then max (v+(n:Int)) 0 else min v (n:Int))=((GR n d (aA v):Nat):Int):=by
 change(if v<0 then max (v+(n:Int)) 0 else min v (n:Int))=(((if v<0 then(v+(n:Int)).toNat else min v.toNat n):Nat):Int);by_cases a:v<0
 ·dsimp[An a];lia
 ·dsimp[N4 a];lia
def V_(lo a:Mo)(n:Nat):mB lo a 1 (n:Int)=(((GR n 0 lo:Nat):Int),((GR n n a:Nat):Int)):=by
 show Prod.ext ?_ ?_
 ·cases lo with
  | none=>rfl
  | some v=>apply xC v n 0
 ·cases a with
  | none=>rfl
  | some v=>apply xC v n n
def WW(i j:Nat):dN (i:Int) (j:Int) 1=j-i:=by
 delta dN;split<;>lia
def SD{v:aI}{o:Mo}{Q:Option Int->aR->Prop}(p:mX v o)(h:Q o s):az (model prog w) A (kM.Slice.slicePartIndex v) Q E s:=by
 cases p with
 | none=>apply lY h
 | int i t=>apply slicePart_int h
def Vz{f:aP}{d e:aI}{lo a:Mo}{n:Nat}{Q:Int×Int×Nat->aR->Prop}(hs:s.heap.IsSliceOf f d e .none)(j:mX d lo)(g:mX e a)
  (h:Q (((GR n 0 lo:Nat):Int),1,GR n n a-GR n 0 lo) s):az (model prog w) A (l6 (.ref f) (pure (n:Int))) Q E s:=by
 let⟨os,c,i,b⟩:=id hs;show aE (aE (cY c b rfl (aE (cY c b rfl (aE (cY c b rfl (aM ?_)))))));show aE (lY ?_);show aE (SD j (aE (SD g (aE (aM ?_)))));change az _ _ (match mB lo a 1 (n:Int) with | (lo,a)=>pure (lo,(1:Int),dN lo a 1)) _ _ s;rw[V_ lo a n];change az _ _ (pure (((GR n 0 lo:Nat):Int),(1:Int),dN ((GR n 0 lo:Nat):Int) ((GR n n a:Nat):Int) 1)) _ _ s;rw[WW];apply aM h
def R2(xs:GD)(i k:Nat):((aL k).filterMap λ(m:Nat)=>xs[((i:Int)+(m:Int)*1).toNat]?).toArray=((xs.toList.drop i).take k).toArray:=by
 let e:(λ(m:Nat)=>xs[((i:Int)+(m:Int)*1).toNat]?)=λm=>xs[i+m]?:=by
  funext m;have:((i:Int)+(m:Int)*1).toNat=i+m:=()
  rw[this]
 rw[e];let:=pick_run xs i k;rw[List.filterMap_map] at this;let a:((λx=>xs[x]?) ∘ λx=>i+x)=λm=>xs[i+m]?:=rfl;rw[a] at this;rw[this]
def lu{t i:aP}{a:GD}{k l:aI}{lo c:Mo}{Q:Gu}(d:qS s.heap t a)(hs:s.heap.IsSliceOf i k l .none)(n:mX k lo)(r:mX l c)
  (o:¬(GR a.size 0 lo=0/\GR a.size a.size c=a.size))
  (h:Q (.ref s.heap.objs.size) { s with heap:=s.heap.push { cls:=.type "tuple",data:=.seq ((a.toList.drop (GR a.size 0 lo)).take (GR a.size a.size c-GR a.size 0 lo)).toArray } })
  (p:a.size<=sizeLine):az (model prog w) A (kI (.ref t) (.ref i)) Q E s:=by
 let b:sizeOk (.seq ((a.toList.drop (GR a.size 0 lo)).take (GR a.size a.size c-GR a.size 0 lo)).toArray):=by
  change((a.toList.drop (GR a.size 0 lo)).take (GR a.size a.size c-GR a.size 0 lo)).toArray.size<=sizeLine;rw[aT,bK,cQ,bW]
  lia
 let⟨os,j,e,m⟩:=id hs;let g:s.TypeIs (.ref i) "slice":=⟨os,j,e⟩;delta kI
 try with_reducible show cg ?_
 first | show aE (aM ?_) | skip
 show aE (mJ d.typeIs rfl ?_)
 show aE (cE d.typeIs bc
  (bu bc d.typeIs lE ?_ (l7 _ _)))
 change az _ _ (jK (.ref t) >>= _) _ _ s;show aE (p8 d ?_);show aE (kJ g ?_);show aE (Vz hs n r ?_);let f:¬((((GR a.size 0 lo:Nat):Int)==0&&(1:Int)==1&&(GR a.size a.size c-GR a.size 0 lo)==a.size)=aD):=by ext q;rw[af,af] at q;let u:=eq_of_beq q.1.1;let v:=eq_of_beq q.2;apply o ⟨(),()⟩
 change az _ _ (if(((GR a.size 0 lo:Nat):Int)==0&&(1:Int)==1&&(GR a.size a.size c-GR a.size 0 lo)==a.size)=aD then _ else _) _ _ s;rw[N4 f,R2]
 first
  | apply aE (cA (aM ⟨_,rfl,aM h⟩) b)
  | apply aE (cA (aE (aM (aM ⟨_,rfl,aM h⟩))) b)
  | apply aE (aE (cA (aM (aM ⟨_,rfl,aM h⟩)) b))
  | apply aE (aE (cA (aM ⟨_,rfl,aM h⟩) b))
end
end HT
namespace _l
open PySem PySem.Spec PyProof.Rows
abbrev TO:=St->Hp->(Option Int->Hp->Prop)->Prop
def Bx(X:Cx)(e:Option bT)(t:TO):Prop:=
 ∀(N5:JK)(s:aR)(σ:St)(H:Hp)(Q:Option Int->Hp->Prop),Inv X N5 σ H s->t σ H Q->
  az (model X.prog X.w) X.A (evalPart e X.env) (λu Aq=>∃o H',Inv X N5 σ H' Aq/\mX u o/\Q o H') X.Ar s
def Gf:TO:=λ_ H Q=>Q aB H
def Em(t:TE):TO:=λσ H Q=>t σ H λx H1=>∃i,x = .int i/\Q (aA i) H1
def V8{ns:Gj}:∀{a:Gr},Gp (ns.map V.int) a->jA a ns:=by
 induction ns with
 | nil=>ext a r;rw[kK] at r;cases r;apply .nil
 | cons n ns N8=>
  ext a r
  cases r with
  | cons aba aam=>
   let⟨t,e⟩:=aba;subst e;apply .cons n t (N8 aam)
section
variable {X:Cx} {e:bT} {JN:TE} {lo N9:Option bT} {aat th:TO} {pos p2:g6}
def Ze3:Bx X aB Gf:=by ext a s b H Q I h;apply aM ⟨aB,H,I,.none,h⟩
def RG(h:JY X e JN):Bx X (aA e) (Em JN):=by ext b s d H Q I c;show Z8 (h b s d H _ I c) ?_;ext u s1 ⟨x,j,f,g,a⟩;let⟨i,rfl,q⟩:=a;let⟨t,rfl⟩:=g;apply⟨aA i,j,f,.int i t,q⟩
def Ho(X:Cx)(r:V->Option Int->Option Int->Hp->Me->Prop):Prop:=
 ∀(N5:JK)(s:aR)(σ:St)(H:Hp)(x:V)(v vl vu:aI)(lo N9:Mo)(MO:aP)(Q:Me),Inv X N5 σ H s->RelV x v->s.heap.IsSliceOf MO vl vu .none->mX vl lo->mX vu N9->r x lo N9 H Q->
  ∃T id,typeLookup (.type T) "__getitem__" = pure (aA (.builtin id))/\s.TypeIs v T/\az (model X.prog X.w) X.A (kI v (.ref MO)) (EP X N5 σ Q) X.Ar s
def Eb(r:V->Option Int->Option Int->Hp->Me->Prop)(JN:TE)(aat th:TO):TE:=λσ H Q=>JN σ H λx H1=>aat σ H1 λl H2=>th σ H2 λu H3=>r x l u H3 Q
def OC{r:V->Option Int->Option Int->Hp->Me->Prop}(C:Ho X r)(j:JY X e JN)(n:Bx X lo aat)(y:Bx X N9 th):JY X (.Subscript e (.Slice lo N9 aB p2) pos) (Eb r JN aat th):=by ext a s d H Q I h;show qC (Z8 (j a s d H _ I h) λv s1 ⟨x,L,t,k,A⟩=>?_);show wpAny_Slice (Z8 (n a s1 d L _ t A) λf s2 ⟨l,m,J,z,E⟩=>Z8 (y a s2 d m _ J E) λg c ⟨u,i,w,G,o⟩=>?_);show aM ?_;let F:Inv X a d i { c with heap:=c.heap.push { cls:=.type "slice",data:=.fields #[f,g,.none] } }:=w.kept λb M q=>aH _ q;let⟨T,id,p,D,B⟩:=C a { c with heap:=c.heap.push { cls:=.type "slice",data:=.fields #[f,g,.none] } } d i x v f g l u c.heap.objs.size Q F k (qD ..) z G o;apply tail_any D p B rfl
def G0(xs:List V)(lo N9:Mo):List V:=(xs.drop (HT.GR (la xs) 0 lo)).take (HT.GR (la xs) (la xs) N9-HT.GR (la xs) 0 lo)
def Q0(xs:List V)(lo a:Mo):(G0 xs lo a).length<=la xs:=by
 delta G0;rw[bK,cQ]
 lia
def D8(K:aG):V->Option Int->Option Int->Hp->Me->Prop:=λx lo N9 H Q=>∃a xs,x = .ref a/\CG K H a xs/\
 ¬(HT.GR xs.length 0 lo=0/\HT.GR xs.length xs.length N9=xs.length)/\∀p,H p=aB->Q (.ref p) (upd H p (.tup (G0 xs lo N9)))
def XA:Ho X (D8 X.K):=by
 ext p s t H x v u w lo f y Q I k hs i n h;let⟨a,xs,rfl,l,j,q⟩:=h;cases k;let⟨m,r,g,d⟩:=I.tuple l;let c:m.toArray.size=xs.length:=by rw[aT];apply r.length.symm
 show⟨"tuple",_,bc.lookup,g.typeIs,?_⟩;show HT.lu g hs i n (by rw[c];apply j) ?_ (by rw[c];apply d);rw[c];show⟨.ref s.heap.objs.size,_,I.laid (λb z q=>aH _ q) (aU _) ?_,rfl,q _ (I.L5.fresh (aU _))⟩;apply⟨⟨cG (Q0 xs lo f) d,λo e=>Qe e⟩,_,(r.drop (HT.GR xs.length 0 lo)).take (HT.GR xs.length xs.length f-HT.GR xs.length 0 lo),pQ _ _⟩
def El(K:aG):JO:=λx y H Q=>∃a b xs L9,x = .ref a/\y = .ref b/\CG K H a xs/\CG K H b L9/\xs≠[]/\xs.length+L9.length<=sizeLine/\
 (L9=[]->Q (.ref a) H)/\(L9≠[]->∀p,H p=aB->Q (.ref p) (upd H p (.tup (xs++L9))))
def Gp.k_{xs:List V}{a:Gr}(r:Gp xs a):a=[]↔xs=[]:=by
 cases r with
 | nil=>simp
 | cons _ _=>simp
def Ze4:MU X (gS .Add) (El X.K):=by ext t s A H x y v u Q I l j h;let⟨a,b,xs,B,rfl,rfl,n,i,m,f,k,p⟩:=h;cases l;cases j;let⟨C,d,r,_⟩:=I.tuple n;let⟨g,c,p2,_⟩:=I.tuple i;show HT.uE r p2 (λz=>m (d.k_.mp z)) (λz=>⟨.ref a,H,I,rfl,k (c.k_.mp z)⟩) (λz=>?_) (by rw[<-d.length,<-c.length];apply f);show⟨.ref s.heap.objs.size,_,I.laid (λb D q=>aH _ q) (aU _) ?_,rfl,p (λw=>z (c.k_.mpr w)) _ (I.L5.fresh (aU _))⟩;apply⟨⟨by rw[ah];apply f,λo e=>Qe e⟩,_,d.append c,pQ _ _⟩
end
def Kn(n:Nat)(i:Int):Option Nat:=if 0<=i then(if i<n then aA i.toNat else aB) else if -(n:Int)<=i then aA (i+n).toNat else aB
def AZ{α:Type}(xs:List α)(i:Int):Option α:=(Kn (la xs) i).bind λj=>xs[j]?
def yJ{n:Nat}{i:Int}{j:Nat}(h:Kn n i=aA j):seqIndex? i n=aA j/\j<n/\-(n:Int)<=i/\i<n:=by
 delta Kn at h;by_cases b:0<=i
 ·rw[An b] at h;by_cases a:i<n
  ·rw[An a] at h;let e:=bM h;apply⟨by rw[rX b a,e],(),(),a⟩
  ·rw[N4 a] at h;cases h
 ·rw[N4 b] at h;by_cases a : -(n:Int)<=i
  ·rw[An a] at h;let e:=bM h;apply⟨by rw[qX () a,e],(),a,()⟩
  ·rw[N4 a] at h;cases h
def bb{a:Type}{xs:List a}{i:Int}{v:a}(h:AZ xs i=aA v):∃j,seqIndex? i (la xs)=aA j/\xs[j]?=aA v/\j<la xs/\-(la xs:Int)<=i/\i<la xs:=by
 delta AZ at h
 cases e:Kn (la xs) i with
 | none=>rw[e] at h;cases h
 | some j=>
  rw[e] at h;let⟨d,b,f,c⟩:=yJ e;apply⟨j,d,h,b,f,c⟩
def Wy{a:Type}{xs:List a}{j:Nat}{v:a}(h:xs[j]?=aA v):AZ xs (j:Int)=aA v:=by
 let b:=(aQ.mp h).1;let e:Kn (la xs) (j:Int)=aA j:=by delta Kn;rw[An (),An ()];simp
 delta AZ;rw[e];apply h
def MI(b:bT):Prop:=∀o i,subscripted b aC o i=operate [o,i] (kI o i)
def Dt(X:Cx)(r:JO):Prop:=
 ∀(value slice:bT)(N5:JK)(s:aR)(σ:St)(H:Hp)(x y:V)(v u:aI)(Q:Me),Inv X N5 σ H s->RelV x v->RelV y u->r x y H Q->
  subscripted slice aC v u=operate [v,u] (kI v u)->az (model X.prog X.w) X.A (subscriptTail value slice v u) (EP X N5 σ Q) X.Ar s
def MK(X:Cx)(id:L_)(r:V->List V->Hp->Me->Prop):Prop:=
 ∀(N5:JK)(s:aR)(σ:St)(H:Hp)(x:V)(xs:List V)(v:aI)(us:Gr)(Q:Me),Inv X N5 σ H s->RelV x v->Gp xs us->r x xs H Q->
  az (model X.prog X.w) X.A (call (.builtin id) (v::us)) (EP X N5 σ Q) X.Ar s
section
variable {X:Cx} {a b:bT} {Et Gx:TE} {pos:g6}
def Dt.or{r e:JO}(h:Dt X r)(h':Dt X e):Dt X (λx y H Q=>r x y H Q\/e x y H Q):=by
 ext b a c s d H x y v u Q I g f q hs;rcases q with q | q
 ·apply h b a c s d H x y v u Q I g f q hs
 ·apply h' b a c s d H x y v u Q I g f q hs
def yf{r:JO}(k:Dt X r)(j:JY X a Et)(d:JY X b Gx)(hs:MI b):JY X (.Subscript a b pos) (IW r Et Gx):=by ext c s e H Q I h;apply qC (zC j d I h λv u s2 x y f l i g q=>k a b c s2 e f x y v u Q l i g q (hs _ _))
def NA(K:aG):JO:=λx y H Q=>∃p xs i v,x = .ref p/\y = .int i/\EJ K H p xs/\AZ xs i=aA v/\Q v H
def HP(K:aG):JO:=λx y H Q=>∃p xs i v,x = .ref p/\y = .int i/\CG K H p xs/\AZ xs i=aA v/\Q v H
def HN:JO:=λx y H Q=>∃z i c,x = .str z/\y = .int i/\z.length<=sizeLine/\AZ z.cps.toList i=aA c/\Q (.str ⟨#[c]⟩) H
def mi:Dt X (NA X.K):=by
 ext e c m s n H x y v u Q I D C h hs;let⟨p,xs,i,z,rfl,rfl,B,l,q⟩:=h;cases D;let⟨t,rfl⟩:=C;let⟨E,r,d,J⟩:=I.list B;let⟨j,b,G,L,o,F⟩:=bb l;let⟨w,g,CC⟩:=r.get G;let A:=r.length;let M:=zD;let a:EP X m n Q w s:=⟨z,H,I,CC,q⟩;by_cases k:0<=i
 ·let f:i.toNat=j:=by rw[rX k F] at b;apply bM b
  apply item_listR d.isList k () (by rw[f];simpa using g) a hs
 ·let f:(i+(E.toArray.size:Int)).toNat=j:=by rw[qX () o] at b;rw[aT,<-A];apply bM b
  apply nO d.isList.typeIs slot_list_getitem.lookup
   (wpAny_getItem_list_neg d.isList () (by rw[aT]<;>lia) () (by rw[f];simpa using g) ⟨rfl,a⟩) hs
def vk:Dt X (HP X.K):=by
 ext c a f s g H x y v u Q I A o h hs;let⟨p,xs,i,z,rfl,rfl,n,e,q⟩:=h;cases A;let⟨t,rfl⟩:=o;let⟨G,r,d,D⟩:=I.tuple n;let⟨j,k,B,E,C,J⟩:=bb e;let⟨w,m,CC⟩:=r.get B;let l:=r.length;let F:=zD;let b:EP X f g Q w s:=⟨z,H,I,CC,q⟩
 apply nO d.typeIs slot_tuple_getitem.lookup
  (getItem_tuple d () () (by rw[aT,<-l];apply k) (~~~m) ⟨rfl,b⟩) hs
def Zj8:Dt X HN:=by
 ext b a r s w H x y v u Q I m l h hs;let⟨z,i,c,rfl,rfl,A,e,q⟩:=h;let⟨t,rfl⟩:=m;let⟨t',rfl⟩:=l;let⟨j,d,p,B,f,o⟩:=bb e;let g:z.cps.toList.length=z.length:=by simp[bJ.length]
 rw[g] at d f o;let C:=zD
 apply tail_any (typeIs_str s z t) slot_str_getitem.lookup (getItem_str (by
  let n:decide (i < -(2^63:Int))=aC:=decide_eq_false ();let k:decide (i ≥ 2^63)=aC:=decide_eq_false ();rw[n,k,Bool.or_false]) (by rw[d];simpa using p) ⟨.str ⟨#[c]⟩,H,I.tok _,⟨_,rfl⟩,q⟩) hs
def D_(K:aG):JO:=λx y H Q=>NA K x y H Q\/HP K x y H Q\/HN x y H Q
def Zj9:Dt X (D_ X.K):=mi.or (vk.or Zj8)
def Rp(a:Gr)(n j:Nat)(u:aI):eK (·.setIfInBounds j u) { cls:=.type "list",data:=.seq a.toArray n }={ cls:=.type "list",data:=.seq (a.set j u).toArray n }:=by simp[eK]
def Inv.lst{b:JK}{c:St}{H:Hp}{s:aR}{p:aP}{xs:List V}(I:Inv X b c H s)(h:H p=aA (.lst xs)) :
  ∃(a:Gr) (n:Nat),Gp xs a/\s.heap.get? p=aA { cls:=.type "list",data:=.seq a.toArray n }/\la xs<=sizeLine:=by
 let⟨z,a,n,r,e⟩:=I.L5 p _ h;apply⟨a,n,r,e,z⟩
def Inv.vi{g:JK}{j:St}{H:Hp}{s:aR}{p:aP}{xs c:List V}{k a:Gr}{n d:Nat}{f:fE->fE}(I:Inv X g j H s)(h:H p=aA (.lst xs))
  (o:s.heap.get? p=aA { cls:=.type "list",data:=.seq k.toArray n }) (i:f { cls:=.type "list",data:=.seq k.toArray n }={ cls:=.type "list",data:=.seq a.toArray d }) (r:Gp c a) (m:la c<=sizeLine) (t:Nat) :
  Inv X g j (upd H p (.lst c)) { s with heap:=s.heap.update p f,toks:=t }:=by
 let e:(s.heap.update p f).get? p=aA { cls:=.type "list",data:=.seq a.toArray d }:=by rw[cS f o (by rw[i]<;>rfl),i]
 show I.write (by rw[h];trivial) (.inl rfl) (λb u l q=>(bj _ _ (bU l)).trans q) ⟨_,e⟩ ?_;apply⟨m,a,d,r,e⟩
def A0:V->V->V->Hp->(Hp->Prop)->Prop:=λo i v H Q=>∃p xs k j,o = .ref p/\i = .int k/\H p=aA (.lst xs)/\Kn xs.length k=aA j/\Q (upd H p (.lst (xs.set j v)))
def OD:JC X A0:=by
 ext C s D H o i v E G u Q I A B y h;let⟨p,xs,k,j,rfl,rfl,w,z,q⟩:=h;cases A;let⟨t,rfl⟩:=B;let⟨l,n,r,c,x⟩:=I.lst w;let⟨a,J,f,e⟩:=yJ z;let b:=r.length;let F:=zD
 let g:=
  I.vi w c (Rp l n j u) (r.set y j) (by rw[cq];apply x) s.toks
 by_cases m:0<=k
 ·let d:k.toNat=j:=by rw[rX m e] at a;apply bM a
  apply PySem.W.ki_setAt c m () (by rw[aT,<-b];apply e) (by rw[d];apply⟨_,g,q⟩)
 ·let d:(k+(l.toArray.size:Int)).toNat=j:=by rw[qX () f] at a;rw[aT,<-b];apply bM a
  apply PySem.W.ki_setBack c () (by rw[aT,<-b];apply f) () (by rw[d];apply⟨_,g,q⟩)
def Vb(lo a:Mo)(n:Nat):(kB lo a aB n).1=((HT.GR n 0 lo:Nat):Int)/\(kB lo a aB n).2.1=((HT.GR n n a:Nat):Int)/\(kB lo a aB n).2.2=1:=by
 show⟨?_,?_,rfl⟩
 ·cases lo with
  | none=>simp[kB,HT.GR]
  | some i=>
   dsimp[kB,HT.GR,rE];by_cases h:i<0
   ·dsimp[h,if_true]<;>lia
   ·dsimp[h,if_false]<;>lia
 ·cases a with
  | none=>simp[kB,HT.GR]
  | some i=>
   dsimp[kB,HT.GR,rE];by_cases h:i<0
   ·dsimp[h,if_true]<;>lia
   ·dsimp[h,if_false]<;>lia
def rL(a:Gr)(lo b:Mo):slicePick a.toArray lo b aB=((a.drop (HT.GR (la a) 0 lo)).take (HT.GR (la a) (la a) b-HT.GR (la a) 0 lo)).toArray:=by
 let⟨d,c,e⟩:=Vb lo b a.toArray.size;delta slicePick;rw[d,c,e];dsimp[sliceRange_one,pick_run]<;>rfl
def D7(K:aG):V->Option Int->Option Int->Hp->Me->Prop:=λx lo N9 H Q=>∃a xs,x = .ref a/\EJ K H a xs/\∀p,H p=aB->Q (.ref p) (upd H p (.lst (G0 xs lo N9)))
def Ze6:Ho X (D7 X.K):=by ext l s m H x v o p lo d t Q I i hs g k h;let⟨a,xs,rfl,j,q⟩:=h;cases i;let⟨n,r,e,f⟩:=I.list j;let c:=r.length;show⟨"list",_,slot_list_getitem.lookup,e.isList.typeIs,?_⟩;show wpAny_getItem_list_slice e.isList hs g k .none ⋯ ?_ (by rw[aT]<;>lia);rw[rL,<-c];show⟨.ref s.heap.objs.size,_,I.laid (λb u q=>aH _ q) (aU _) ?_,rfl,q _ (I.L5.fresh (aU _))⟩;apply⟨cG (Q0 xs lo d) f,_,0,(r.drop (HT.GR xs.length 0 lo)).take (HT.GR xs.length xs.length d-HT.GR xs.length 0 lo),aX _ rfl⟩
def V9:Ie X (.type "list") (λxs H Q=>∃p d,xs=[.ref p]/\(EJ X.K H p d\/CG X.K H p d)/\∀l,H l=aB->Q (.ref l) (upd H l (.lst d))):=by
 ext y s z H xs B Q I r h;let⟨p,d,rfl,m,q⟩:=h;let⟨u,rfl,A⟩:=Vy r;cases A
 let j:∀(a:Gr),Gp d a->d.length<=sizeLine->∀(h':bp)(f:Nat),(∀b JR,s.heap.get? b=aA JR->h'.get? b=aA JR)->
   h'.get? s.heap.objs.size=aA { cls:=.type "list",dict:=aB,data:=.seq a.toArray f,slots:=#[] }->EP X y z Q (.ref s.heap.objs.size) { s with heap:=h' }:=λa c i h' f g e=>
  ⟨.ref s.heap.objs.size,_,I.laid g (aU _) (show J6 X.prog X.w _ h' _ (.lst d) from⟨i,a,f,c,e⟩),rfl,q _ (I.L5.fresh (aU _))⟩
 rcases m with m | m
 ·let⟨a,c,x,i⟩:=I.list m;let k:=c.length;let⟨o,w,v,n,t⟩:=x.isList;apply call_list_seq p (.inl rfl) w v t (λh' f g e=>j a c i h' f g e) (by dsimp[aT]<;>lia)
 ·let⟨a,c,x,i⟩:=I.tuple m;let k:=c.length;let⟨o,w,v,n,t⟩:=x;apply call_list_seq p (.inr rfl) w v t (λh' f g e=>j a c i h' f g e) (by dsimp[aT]<;>lia)
def ZJ:Ie X (.type "tuple") (λxs H Q=>∃p a,xs=[.ref p]/\((EJ X.K H p a/\∀l,H l=aB->Q (.ref l) (upd H l (.tup a)))\/(CG X.K H p a/\Q (.ref p) H))):=by
 ext w s x H xs v Q I r h;let⟨p,a,rfl,h⟩:=h;let⟨u,rfl,n⟩:=Vy r;cases n;rcases h with⟨f,q⟩ | ⟨f,q⟩
 ·let⟨k,c,d,g⟩:=I.list f;let j:=c.length;show call_tuple_list d.isList (λh' m=>?_) (by dsimp[aT]<;>lia);let i:=I.kept (t':=s.toks) m
  let t:=
   i.laid (t':=s.toks) (λb o e=>aH _ e) (aU _) (show J6 X.prog X.w _ _ _ (.tup a) from⟨⟨g,λo e=>Qe e⟩,k,c,pQ _ _⟩)
  apply⟨.ref h'.objs.size,_,t,rfl,q _ (i.L5.fresh (aU _))⟩
 ·let⟨k,c,d,g⟩:=I.tuple f;apply call_tuple_same d ⟨.ref p,H,I,rfl,q⟩
def F2(K:aG)(T:L_)(x:V)(H:Hp):Prop:=match x with
 | .str _=>T = "str"
 | .int _=>T = "int"
 | .ref p=>(T = "list"/\∃xs,EJ K H p xs)\/(T = "tuple"/\∃o,K.lookup p=aA o/\o.cls = .type "tuple"/\o.dict=aB)\/
   (T = "dict"/\((∃JJ,H p=aA (.Mf JJ))\/∃JJ,H p=aA (.L8 JJ)))\/(T = "set"/\∃S n,H p=aA (.set S n))\/(T = "tuple"/\∃xs,H p=aA (.tup xs))
 | _=>False
def Zka{k:JK}{l:St}{H:Hp}{s:aR}{T:L_}{x:V}{v:aI}(I:Inv X k l H s)(r:RelV x v)(ty:F2 X.K T x H) :
  s.TypeIs v T/\∀a,v = .ref a->∃aak,s.heap.get? a=aA aak/\aak.dict=aB:=by
 cases x with
 | str z=>
  let⟨t,rfl⟩:=r;cases (ty);apply⟨typeIs_str s z t,λ_ e=>nomatch e⟩
 | int i=>
  let⟨t,rfl⟩:=r;cases (ty);apply⟨nQ s i t,λ_ e=>nomatch e⟩
 | ref p=>
  cases r;rcases ty with⟨rfl,xs,u⟩ | ⟨rfl,o,b,m,g⟩ | ⟨rfl,b⟩ | ⟨rfl,S,n,b⟩ | ⟨rfl,xs,b⟩;rotate_left 4
  ·let⟨z,w,_,o,h,f,_⟩:=(I.L5 p _ b);show⟨⟨o,h,f⟩,λa e=>?_⟩;cases e;apply⟨o,h,z.2 o h⟩
  ·let⟨w,_,j,_⟩:=I.list u;show⟨j.isList.typeIs,λa e=>?_⟩;cases e;let⟨o,n,e,c,g,_⟩:=j;apply⟨o,e,g⟩
  ·show⟨⟨o,I.GA p o b,m⟩,λa e=>?_⟩;cases e;apply⟨o,I.GA _ o b,g⟩
  ·let z:∃o,s.heap.get? p=aA o/\o.ExactDict:=by
    rcases b with⟨q,b⟩ | ⟨q,b⟩
    ·let⟨_,_,_,_,o,_,_,e,d,_⟩:=I.L5 p _ b;apply⟨o,e,d⟩
    ·let⟨_,_,_,_,o,_,_,e,d,_⟩:=I.L5 p _ b;apply⟨o,e,d⟩
   let⟨o,e,d⟩:=z;show⟨⟨o,e,d.1⟩,λa f=>?_⟩;cases f;apply⟨o,e,d.2.1⟩
  ·let⟨o,_,_,_,e,d,_⟩:=I.L5 p _ b;show⟨⟨o,e,d.1⟩,λa f=>?_⟩;cases f;apply⟨o,e,d.2.1⟩
 | _=>apply bz ty
def BH(K:aG)(T:L_)(r:V->List V->Hp->Me->Prop)(to:TE)(t:Az):TE:=λσ H Q=>to σ H λx H1=>F2 K T x H1/\t σ H1 λxs H2=>r x xs H2 Q
variable {o e:bT} {Gi:Mk} {to:TE} {t:Az} {name:bJ} {apos t8:g6} {T id:L_} {r:V->List V->Hp->Me->Prop}
def VB(z:PlainAttrs T)(f:Slot T name id)(j:typeOf (.builtin id)=pure (.type "method_descriptor"))(w:MK X id r)(u:JY X o to)(A:MY X (e::Gi) t)
  (b:p9 o name X.env (eval o X.env)=eval o X.env|>On)
  (d:((ck t8 (aN (e::Gi) X.env)).all (λx=>!x.1)&&(sJ t8 (o5 [] X.env)).all (λx=>x.1.isSome)
   &&decide ((e::Gi).length+([]:List pN).length+(if([]:List pN).isEmpty then 0 else 1)<30))=aD:=by rfl)
  (c:(apos.endLine==t8.line)=aD|>On) (hs:aN (e::Gi) X.env=(aC,eval e X.env)::aN Gi X.env|>On) (a:(ck t8 (aN Gi X.env)).any (·.1)=aC|>On) :
  JY X (.Call (.Attribute o name apos) (e::Gi) [] t8) (BH X.K T r to t):=by
 ext g s i H Q I h;show wpAny_Call_method_late b d c rfl (Z8 (u g s i H _ I h) λv s1 ⟨x,F,m,l,ty,y⟩=>?_);let⟨p,C⟩:=Zka m l ty;show⟨T,id,z,f,j,p,C,?_⟩;let k:=A t8 g s1 i F _ m y;rw[hs] at k ⊢;show Calls.callWith_builtin (by change(aC || (ck t8 (aN Gi X.env)).any (·.1))=aC;rw[a]<;>rfl) (o7 ?_);apply Z8 k λn s2 ⟨vs,q,E,D,B⟩=>w g s2 i q x vs v n Q E l D B
end
def BV(X:Cx)(id:L_)(r:V->List V->Hp->Me->Prop):Prop:=
 ∀(N5:JK)(s:aR)(σ:St)(H:Hp)(x:V)(xs:List V)(v:aI)(us:Gr)(Q:Me),Inv X N5 σ H s->RelV x v->Gp xs us->r x xs H Q->
  az (model X.prog X.w) X.A (call (.builtin id) (v::us)) (EP X N5 σ Q) X.Ar s
def Gp.one:∀{x:V}{a:Gr},Gp [x] a->∃u,a=[u]/\RelV x u:=by ext x a h;cases h with | cons r t=>cases t;apply⟨_,rfl,r⟩
def Gp.two:∀{x y:V}{a:Gr},Gp [x,y] a->∃u v,a=[u,v]/\RelV x u/\RelV y v:=by ext x y a h;cases h with | cons r t=>let⟨u,rfl,q⟩:=Gp.one t;apply⟨_,_,rfl,r,q⟩
def Gp.dropLast{xs:List V}{a:Gr}(h:Gp xs a):Gp xs.dropLast a.dropLast:=by
 induction h with
 | nil=>apply .nil
 | cons r t N8=>
  cases t with
  | nil=>apply .nil
  | cons q t'=>apply .cons r N8
def Gp.reverse{xs:List V}{a:Gr}(h:Gp xs a):Gp xs.reverse a.reverse:=by
 induction h with
 | nil=>apply .nil
 | cons r t N8=>rw[jB,jB];apply Gp.append N8 (.cons r .nil)
def Gp.rep{xs:List V}{a:Gr}(h:Gp xs a):∀k:Nat,Gp (aW k xs).flatten (aW k a).flatten
 | 0=>.nil
 | k+1=>by rw[eM,eM,gk,gk];apply Gp.append h (Gp.rep h k)
def Qh(a:Gr):∀(k:Nat)(acc:Gr),
  nR (λb c=>b++c) acc.toArray (aW k a.toArray)=(acc++(aW k a).flatten).toArray
 | 0,acc=>⋯
 | k+1,acc=>by
  let e:acc.toArray++a.toArray=(acc++a).toArray:=⋯
  let d:(acc++a)++(aW k a).flatten=acc++(aW (k+1) a).flatten:=by rw[eM,gk,fL]
  rw[<-d,<-Qh a k (acc++a),<-e,eM,g9]
section
variable {X:Cx} {N5:JK} {σ:St} {H:Hp} {s:aR} {l b:aP} {xs L9 zs:List V}
def Inv.vj{b a:Gr}{n:Nat}{f:Array aI->Array aI}{t':Nat}(I:Inv X N5 σ H s)(h:H l=aA (.lst xs))
  (e:s.heap.get? l=aA { cls:=.type "list",data:=.seq b.toArray n }) (c:f b.toArray=a.toArray) (d:Gp L9 a) (i:la L9<=sizeLine) :
  Inv X N5 σ (upd H l (.lst L9)) { s with heap:=s.heap.update l (eK f),toks:=t' }:=by
 let q:=PySem.IsL.update e f;rw[c] at q;show I.write (by rw[h];apply trivial) (.inl rfl) (λk u g j=>(bj s.heap (eK f) (bU g)).trans j) ⟨_,q⟩ ?_;apply⟨i,a,_,d,q⟩
def Inv.wt{a:Gr}{t':Nat}(I:Inv X N5 σ H s)(b:Gp L9 a)(c:la L9<=sizeLine) :
  Inv X N5 σ (upd H s.heap.objs.size (.lst L9)) { s with heap:=s.heap.push { cls:=.type "list",data:=.seq a.toArray },toks:=t' }:=
 I.laid (λ_ _ q=>aH _ q) (aU _) ⟨c,a,0,b,aX _ rfl⟩
def Inv.fresh(I:Inv X N5 σ H s):H s.heap.objs.size=aB:=I.L5.fresh (aU _)
def Inv.rP(I:Inv X N5 σ H s)(b:H l=aA (.lst xs)):la xs<=sizeLine/\∃(a:Gr) (n:Nat),Gp xs a/\la xs=la a/\s.heap.get? l=aA { cls:=.type "list",data:=.seq a.toArray n }:=by let⟨z,a,n,r,e⟩:=I.L5 l _ b;apply⟨z,a,n,r,r.length,e⟩
def O4{n:Nat}(h:n<=sizeLine):je n=aC:=by apply decide_eq_false ()
end
section
variable {X:Cx}
def ER:V->List V->Hp->Me->Prop:=λx vs H Q=>∃l xs y,x = .ref l/\vs=[y]/\H l=aA (.lst xs)/\xs.length<sizeLine/\Q .Ma (upd H l (.lst (xs++[y])))
def X6:BV X "list.append" ER:=by
 ext i s j H x vs v g Q I c b h;let⟨l,xs,y,rfl,rfl,a,k,q⟩:=h;cases c;let⟨u,rfl,f⟩:=b.one;let⟨z,d,n,r,m,e⟩:=I.rP a;show iT F.slot_list_append ⟨_,e,rfl⟩ F.entry_list_append (F.args_list_append_2 _ _) (PySem.list_append l d.toArray n u (by rw[aT];lia)) ⟨e,?_⟩;show⟨.Ma,_,I.vj a e ⋯ (r.append (.cons f .nil)) ?_,rfl,q⟩;rw[ah,ba]
 lia
def ES:V->List V->Hp->Me->Prop:=λx vs H Q=>∃l b xs zs,x = .ref l/\vs=[.ref b]/\H l=aA (.lst xs)/\H b=aA (.lst zs)/\xs.length+zs.length<=sizeLine/\Q .Ma (upd H l (.lst (xs++zs)))
def Xg:BV X "list.extend" ES:=by
 ext A s C H x vs v y Q I o j h;let⟨l,b,xs,B,rfl,rfl,g,i,D,q⟩:=h;cases o;let⟨u,rfl,p⟩:=j.one;cases p;let⟨z,d,n,r,E,e⟩:=I.rP g;let⟨z2,a,t,w,m,k⟩:=I.rP i;let f:d.toArray.size+a.toArray.size<=sizeLine:=by rw[aT,aT];lia
 let c:¬(!d.toArray.isEmpty&&je (d.toArray.size+a.toArray.size))=aD:=by rw[O4 f,Bool.and_false];apply br
 show iT F.slot_list_extend ⟨_,e,rfl⟩ F.entry_list_extend (F.args_list_extend_2 _ _)
  (AutoSeq1.list_extend_list_list_0 l d.toArray n b a.toArray t c () ()) ⟨e,k,?_⟩
 show⟨.Ma,_,I.vj g e ⋯ (r.append w) ?_,rfl,q⟩;rw[ah]
 lia
def D6:JO:=λx y H Q=>∃l b xs zs,x = .ref l/\y = .ref b/\H l=aA (.lst xs)/\H b=aA (.lst zs)/\xs.length+zs.length<=sizeLine/\∀p,H p=aB->Q (.ref p) (upd H p (.lst (xs++zs)))
def Zkb:MU X (gS .Add) D6:=by
 ext o s t H x y v u Q I k i h;let⟨l,b,xs,p,rfl,rfl,f,d,w,q⟩:=h;cases k;cases i;let⟨z,c,n,r,A,e⟩:=I.rP f;let⟨z2,a,B,m,j,g⟩:=I.rP d;show PySem.P.add_list e g ?_ (by rw[aT,aT];lia);let ea:c.toArray++a.toArray=(c++a).toArray:=⋯
 rw[ea];apply⟨.ref _,_,I.wt (r.append m) (by rw[ah];lia),rfl,q _ I.fresh⟩
def Gb:JO:=λx y H Q=>∃l k xs,x = .ref l/\y = .int k/\H l=aA (.lst xs)/\-(2^63)<=k/\k<2^63/\xs.length*k.toNat<=sizeLine/\
 ∀p,H p=aB->Q (.ref p) (upd H p (.lst (aW k.toNat xs).flatten))
def Zm{a:Type}(xs:List a)(k:Nat):(aW k xs).flatten.length=k*la xs:=⋯
def Zkc:MU X (gS .Mult) Gb:=by
 ext L s M H x y v u Q I E C h;let⟨l,k,xs,rfl,rfl,B,o,J,j,q⟩:=h;cases E;let⟨t,rfl⟩:=C;let⟨z,b,n,r,p,e⟩:=I.rP B;let f:b.toArray.size*k.toNat<=sizeLine:=by rw[aT,<-p];apply j
 let d:¬b.toArray.size*k.toNat>(2^63-1)/8:=by
  have:(sizeLine:Nat)<=(2^63-1)/8:=∅
  lia
 let i:¬(!Builtin.List.listFitsIndex k)=aD:=by rw[fitsIndex_both o J];apply br
 let c:¬je (b.toArray.size*k.toNat)=aD:=by rw[O4 f];apply br
 let g:nR (λD A=>D++A) #[] (aW (if b.toArray.isEmpty=aD then 0 else k.toNat) b.toArray)=(aW k.toNat b).flatten.toArray:=by
  let G:=λm=>by let:=Qh b m [];rw[rb] at this;apply this
  rw[G]
  cases b with
  | nil=>simp
  | cons a Kd=>rw[N4 ⋯]
 show mC rfl ⟨_,e,rfl⟩ (λw=>nQ w k t) noFill_list_mul F.fills_int_mul F.slot_int_rmul repeat_list F.slot_int_index.lookup
  (iT F.slot_int_rmul (nQ s k t) F.entry_int_rmul (F.args_int_rmul_2 _ _) (int___rmul___int_list k t l b.toArray n)
   ⟨e,rfl,⟨_,e,rfl⟩,iT F.slot_list_mul ⟨_,e,rfl⟩ F.entry_list_mul (F.args_list_mul_2 _ _) (AutoListH.list___mul___list_int_3 l b.toArray n k t i d c) ⟨e,?_⟩⟩)
 rw[g];apply⟨.ref _,_,I.wt (r.rep k.toNat) (by rw[Zm,qY];apply j),rfl,q _ I.fresh⟩
end
end _l
namespace z8
open PySem PySem.W PySem.Calls PyProof.Rows
def PL{P:Params}{h:bp}:∀(ns:Gj)(vs:Gr),WellAll P h vs (ns.map rF)->jA vs ns:=by
 ext ns
 induction ns with
 | nil=>
  ext vs w;cases w;apply .nil
 | cons n ns N8=>
  ext vs w
  cases w with
  | cons a b=>
   cases a;apply .cons _ _ (N8 _ b)
def tq{l:OpenLaw}{n:Nat}(p:l.most=aA n){P:Params}{h:bp}{b:List WData}{c:Gr}
  (e:l.row.toRowW.claim.pre b=aD) (i:WellAll P h c b) :
  ∃a vs ns,c=[cZ a]/\b=[WData.list (ns.map rF)]/\h.get? a=aA { cls:=.type "list",data:=.seq vs.toArray }/\jA vs ns/\ns.length<=n:=by
 let k:=(pre_splitW e).1;let q:=(pre_splitW e).2;let⟨d,r,rfl,m,s⟩:=hasAllW_cons k;obtain rfl:=hasAllW_nil s;let⟨xs,rfl,o⟩:=hasW_list m;let⟨ns,rfl⟩:=items_int o
 let f:ns.length<=n:=by
  let g:(WTm.not (.lt (.lit (.int (n:Int))) (.len (.arg 0)))).holds [] { args:=[.list (ns.map .int)] }=aD:=by let g:=(holds_andW q).1;rw[p] at g;apply g
  let j:=condW_of g (w_not (w_lt w_lit (w_len_list (w_arg rfl))))
  first
   | (rw[decide_eq_true EE] at j;apply absurd j rfl)
   | (simp at j;lia)
 cases i with
 | cons w1 aax=>
  cases aax
  cases w1 with
  | list ho za=>apply⟨_,_,ns,rfl,rfl,ho,PL ns _ za,f⟩
def tu(l:OpenLaw)(a:List WData):l.row.toRowW.claim.post a (.bool aD) a=aD:=
 postW_of
  (show WShape.has [] (.bool aD) .bool=aD by first | rfl | decide | simp[WShape.arms])
  (w_eq_bool (w_res rfl) w_lit) rfl
end z8
namespace _l
open PySem PySem.Spec PyProof.Rows
section
variable {κ:Type} [DecidableEq κ]
def C6(JJ:List (κ×V))(k:κ):Option V:=(JJ.find? λkv=>decide (kv.1=k)).map (·.2)
def Fg(JJ:List (κ×V))(k:κ)(v:V):List (κ×V):=
 if(JJ.any λkv=>decide (kv.1=k))=aD then JJ.map (λkv=>if kv.1=k then(kv.1,v) else kv) else JJ++[(k,v)]
def Ra{p:κ×V}{r:List (κ×V)}{k:κ}(e:p.1=k):C6 (p::r) k=aA p.2:=by simp[C6,e]
def Rc{p:κ×V}{r:List (κ×V)}{k:κ}(e:¬p.1=k):C6 (p::r) k=C6 r k:=by simp[C6,e]
def UQ(k:κ):∀JJ:List (κ×V),(JJ.any λa=>decide (a.1=k))=(C6 JJ k).isSome
 | []=>rfl
 | p::r=>by
  rw[pf];by_cases e:p.1=k
  ·dsimp[Ra e,decide_eq_true e,Bool.true_or,Option.isSome_some]
  ·rw[Rc e,decide_eq_false e,Bool.false_or];apply UQ k r
def Q1(a:List (κ×V))(k:κ)(v:V):(Fg a k v).length<=la a+1:=by
 delta Fg;split
 ·rw[aJ];lia
 ·rw[ah,bH,oE];lia
def Ng.lF{o:Option V}{u:Option aI}(r:Ng o u):o.isSome=u.isSome:=by
 cases o with
 | none=>cases u with
  | none=>rfl
  | some _=>apply(r).elim
 | some _=>cases u with
  | none=>apply(r).elim
  | some _=>rfl
def KV.val{c:List (κ×V)}{vs:List (κ×aI)}(r:KV c vs)(k:κ):Ng (C6 c k) (qZ vs k):=by
 induction r with
 | nil=>apply cK
 | @cons p q ps qs h t N8=>
  let⟨d,f⟩:=h;by_cases e:p.1=k
  ·let a:=d.symm.trans e;let b:qZ (q::qs) k=aA q.2:=by simp[qZ,a]
   rw[Ra e,b];apply f
  ·let a:¬q.1=k:=λz=>e (d.trans z);let b:qZ (q::qs) k=qZ qs k:=by simp[qZ,a]
   rw[Rc e,b];apply N8
def KV.any{b:List (κ×V)}{vs:List (κ×aI)}(r:KV b vs)(k:κ):(b.any λa=>decide (a.1=k))=vs.any λa=>decide (a.1=k):=by
 delta KV at r
 induction r with
 | nil=>rfl
 | cons h t N8=>rw[pf,pf,N8,h.1]
def KV.u9{c:List (κ×V)}{vs:List (κ×aI)}(r:KV c vs)(k:κ){y:V}{u:aI}(f:RelV y u) :
  KV (c.map λa=>if a.1=k then(a.1,y) else a) (vs.map λa=>if a.1=k then(a.1,u) else a):=by
 induction r with
 | nil=>apply .nil
 | @cons p q ps qs h t N8=>
  rw[ak,ak];show .cons ?_ N8;let⟨b,d⟩:=h;by_cases e:p.1=k
  ·rw[An e,An (b.symm.trans e)];apply⟨b,f⟩
  ·rw[N4 e,N4 (λz=>e (b.trans z))];apply⟨b,d⟩
def KV.put{a:List (κ×V)}{vs:List (κ×aI)}(r:KV a vs)(k:κ){y:V}{u:aI}(b:RelV y u):KV (Fg a k y) (stored vs k u):=by
 delta Fg stored;rw[r.any k];by_cases e:(vs.any λc=>decide (c.1=k))=aD
 ·rw[An e,An e];apply r.u9 k b
 ·rw[N4 e,N4 e];apply Paired.snoc r ⟨rfl,b⟩
def KV.length{a:List (κ×V)}{vs:List (κ×aI)}(r:KV a vs):la a=la vs:=Paired.length r
end
def rU{P:bO}{w:bX}{k:JL}{u:aI}(r:RelV (GS k) u):(Dg P w).is k u=aD:=by
 cases k with
 | inl i=>let⟨t,e⟩:=(r);subst e;apply uF P w i t
 | inr x=>let⟨t,e⟩:=(r);subst e;apply R8 P w x t
def Qr{P:bO}{w:bX}:∀{ks:List JL}{us:Gr},Gp (ks.map GS) us->ItemsAre (Dg P w) ks us
 | [],_,r=>by rw[kK] at r;cases r;apply .nil
 | k::ks,_,r=>by
  rw[ak] at r
  cases r with
  | cons h t=>apply .cons (rU h) (Qr t)
abbrev KT(H:Hp):List (List JL×V)->List (List JL×aP×aI)->Prop:=Paired λp q=>p.1=q.1/\H q.2.1=aA (.tup (p.1.map GS))/\RelV p.2 q.2.2
def KT.val{H:Hp}{c:List (List JL×V)}{xs:List (List JL×aP×aI)}(r:KT H c xs)(k:List JL):Ng (C6 c k) ((sO xs k).map (·.2)):=by
 induction r with
 | nil=>apply cK
 | @cons p q ps qs h t N8=>
  let⟨d,_,f⟩:=h;by_cases e:p.1=k
  ·let a:=d.symm.trans e;let b:sO (q::qs) k=aA q.2:=by simp[sO,a]
   rw[Ra e,b];apply f
  ·let a:¬q.1=k:=λz=>e (d.trans z);let b:sO (q::qs) k=sO qs k:=by simp[sO,a]
   rw[Rc e,b];apply N8
def KT.u9{H:Hp}{c:List (List JL×V)}{xs:List (List JL×aP×aI)}(r:KT H c xs)(k:List JL){y:V}{u:aI}(g:RelV y u) :
  KT H (c.map λb=>if b.1=k then(b.1,y) else b) (xs.map (putAt k u)):=by
 induction r with
 | nil=>apply .nil
 | @cons p q ps qs h t N8=>
  rw[ak];show .cons ?_ N8;let⟨a,d,f⟩:=h;delta putAt;by_cases e:p.1=k
  ·rw[An e,An (a.symm.trans e)];apply⟨a,d,g⟩
  ·rw[N4 e,N4 (λz=>e (a.trans z))];apply⟨a,d,f⟩
def KT.put{H:Hp}{a:List (List JL×V)}{xs:List (List JL×aP×aI)}(r:KT H a xs)(k:List JL){b:aP}{y:V}{u:aI}(d:H b=aA (.tup (k.map GS)))(c:RelV y u) :
  KT H (Fg a k y) (storedH xs k b u):=by
 let e:(a.any λf=>decide (f.1=k))=(sO xs k).isSome:=by rw[UQ,(r.val k).lF,q9]
 delta Fg storedH;rw[e];by_cases q:(sO xs k).isSome=aD
 ·rw[An q,An q];apply r.u9 k c
 ·rw[N4 q,N4 q];apply Paired.snoc r ⟨rfl,d,c⟩
def KT.keeps{H a:Hp}{c:List (List JL×V)}{xs:List (List JL×aP×aI)}(r:KT H c xs)(d:∀b L9,H b=aA (.tup L9)->a b=aA (.tup L9)):KT a c xs:=
 Paired.abx r λ_ _ z=>⟨z.1,d _ _ z.2.1,z.2.2⟩
section
variable {P:bO} {w:bX} {H:Hp} {h:bp} {a:aP}
def Zih{u:HO}(ok:AX P w H h)(e:ET H a u):J6 P w H h a u:=e.ok ok
def uj{b:List (JL×V)}(ok:AX P w H h)(e:ET H a (.Mf b)):la b<=sizeLine/\(a==iR)=aC/\∃vs,KV b vs/\h.DictOf (Dg P w) a vs:=
 Zih ok e
def Zni{b:List (JL×V)}(ok:AX P w H h)(e:H a=aA (.Mf b)):la b<=sizeLine/\(a==iR)=aC/\∃vs,KV b vs/\h.DictOf (Dg P w) a vs:=uj ok (.inl e)
def S5{b:List JL}(ok:AX P w H h)(e:H a=aA (.tup (b.map GS))):(mz (Dg P w)).is h b a:=by let⟨_,d,r,o,f,c,n,g⟩:=(ok a _ e);apply⟨o,d.toArray,n,f,c,g,by simpa using Qr r⟩
def rI{c:List (List JL×V)}(ok:AX P w H h)(e:ET H a (.L8 c)):la c<=sizeLine/\(a==iR)=aC/\
  ∃xs,KT H c xs/\h.DictOfH (mz (Dg P w)) a xs:=by
 let⟨z,y,xs,r,o,k,ep,f,j,g,d,i⟩:=(Zih ok e);show⟨z,y,xs,r,o,k,ep,f,j,g,d,λx b=>?_,i⟩
 let all:∀{l:List (List JL×V)}{m:List (List JL×aP×aI)},KT H l m->∀x∈m,(mz (Dg P w)).is h x.1 x.2.1:=by
  ext l m q
  induction q with
  | nil=>ext x b;apply nomatch b
  | @cons p q ps qs hq t N8=>
   ext x b;rcases aY.mp b with e | b
   ·subst e;apply S5 ok (by rw[<-hq.1];apply hq.2.1)
   ·apply N8 x b
 apply all r x b
def Znj{b:List (List JL×V)}(ok:AX P w H h)(e:H a=aA (.L8 b)):la b<=sizeLine/\(a==iR)=aC/\
  ∃xs,KT H b xs/\h.DictOfH (mz (Dg P w)) a xs:=rI ok (.inl e)
end
def CK(H:Hp)(a:aP)(y:V)(r:Option V):Prop:=
 (∃JJ k,ET H a (.Mf JJ)/\y=GS k/\r=C6 JJ k)\/∃JJ k b,ET H a (.L8 JJ)/\y = .ref b/\H b=aA (.tup (k.map GS))/\r=C6 JJ k
def GN(H:Hp)(a:aP)(y v:V)(H':Hp):Prop:=
 (∃JJ k,H a=aA (.Mf JJ)/\y=GS k/\JJ.length<sizeLine/\H'=upd H a (.Mf (Fg JJ k v)))\/
 ∃JJ k b,H a=aA (.L8 JJ)/\y = .ref b/\H b=aA (.tup (k.map GS))/\JJ.length<sizeLine/\H'=upd H a (.L8 (Fg JJ k v))
section
variable {X:Cx} {N5:JK} {σ:St} {H:Hp} {s:aR} {a:aP} {y v:V} {u r:aI} {o:Option V} {A:bg} {E:Gu}
def Inv.big(I:Inv X N5 σ H s):iR<s.heap.objs.size:=by let h:=(I.mod.glob.keeps I.Gw).lt;apply Nat.lt_trans ∅ h
def tW{Q:Gu}(q:A.units+1<gE)(I:Inv X N5 σ H s)(g:CK H a y (aA v))(j:RelV y u)(h:∀c Aq,Inv X N5 σ H Aq->RelV v c->Q c Aq) :
  az (model X.prog X.w) A (kI (.ref a) u) Q E s:=by
 rcases g with⟨n,k,e,i,l⟩ | ⟨n,k,b,e,i,o,l⟩
 ·subst i;let⟨z,m,vs,rel,dd⟩:=uj I.L5 e;let⟨c,f,CC⟩:=Ng.some_of (by rw[l];apply rel.val k);apply wpAny_getItem_of (rU j) dd.mapOf f (h c _ (I.tok _) CC)
 ·subst i;cases (j);let⟨z,m,xs,rel,dd⟩:=rI I.L5 e;let⟨c,f,CC⟩:=Ng.some_of (by rw[l];apply rel.val k);let⟨p,r,d⟩:=Option.map_eq_some_iff.mp f;show wpAny_getItem_heap (l8 q) (S5 I.L5 o) dd r ?_;rw[d];apply h c _ (I.tok _) CC
def Ze7{Q:Gu}(m:A.units+1<gE)(I:Inv X N5 σ H s)(g:CK H a y o)(f:RelV y u)(h:∀Aq,Inv X N5 σ H Aq->Q (.bool (!o.isSome)) Aq) :
  az (model X.prog X.w) A (dW .NotIn u (.ref a)) Q E s:=by
 rcases g with⟨i,k,e,d,l⟩ | ⟨i,k,b,e,d,j,l⟩
 ·subst d;let⟨z,c,vs,rel,dd⟩:=uj I.L5 e;show wpAny_notIn_of (rU f) c dd.mapOf ?_;rw[<-(rel.val k).lF,<-l];apply h _ (I.tok _)
 ·subst d;cases (f);let⟨z,c,xs,rel,dd⟩:=rI I.L5 e;show wpAny_notIn_heap (l8 m) (S5 I.L5 j) c dd ?_;let q:=(rel.val k).lF;rw[q9] at q;rw[<-q,<-l];apply h _ (I.tok _)
def uM{h':bp}{t':Nat}{c:HO}(I:Inv X N5 σ H s)(e:EN (H a))(hs:dD a s.heap h')(d:∃q,h'.get? a=aA q)(new:J6 X.prog X.w (upd H a c) h' a c) :
  Inv X N5 σ (upd H a c) { s with heap:=h',toks:=t' }:=
 I.write e (.inl rfl) (λb q f z=>(hs.2 b f).trans z) d new
def Zkd{P:bO}{w:bX}{c:Hp}{h':bp}{b:List (JL×V)}{vs:List (JL×aI)}(z:la b<=sizeLine)(d:(a==iR)=aC)(rel:KV b vs)(dd:h'.DictOf (Dg P w) a vs) :
  J6 P w c h' a (.Mf b):=⟨z,d,vs,rel,dd⟩
def uS{B:Hp}{Q:Unit->aR->Prop}(J:A.units+1<gE)(I:Inv X N5 σ H s)(g:GN H a y v B)(x:RelV y u)(w:RelV v r)(h:∀Aq,Inv X N5 σ B Aq->Q .unit Aq) :
  az (model X.prog X.w) A (setItem (.ref a) u r) Q E s:=by
 rcases g with⟨f,k,e,n,l,o⟩ | ⟨f,k,b,e,n,t,l,o⟩
 ·subst n o;let⟨z,j,vs,rel,dd⟩:=Zni I.L5 e;let F:vs.length<=sizeLine:=by rw[<-rel.length];apply z
  let m:(Fg f k v).length<=sizeLine:=by let:=Q1 f k v;lia
  show wpAny_setItem_pairs (rU x) dd λh' d hs=>h _ ?_;let C:∃q,h'.get? a=aA q:=let⟨q,_,_,i,_⟩:=d;⟨q,i⟩;apply uM I (by rw[e];apply cK) hs C (Zkd m j (rel.put k w) d)
 ·subst n o;cases (x);let⟨z,j,xs,rel,dd⟩:=Znj I.L5 e;let F:xs.length<=sizeLine:=by rw[<-Paired.length rel];apply z
  let m:(Fg f k v).length<=sizeLine:=by let:=Q1 f k v;lia
  show wpAny_setItem_heap (l8 J) (S5 I.L5 t) dd λh' d hs=>h _ ?_;let⟨q,N,ep,i,M,G,D,_,L⟩:=d;show uM I (by rw[e];apply cK) hs ⟨q,i⟩ ⟨m,j,_,(rel.put k t w).keeps λc O p=>?_,q,N,ep,i,M,G,D,L⟩;rw[a_ (Zms p e (λz=>nomatch z))];apply p
end
def BY(i:bT):Prop:=∀abb aaw,subscripted i aC abb aaw=operate [abb,aaw] (kI abb aaw)
def Ze8{prog:bO}{w:bX}{A:bg}{E:Gu}{s:aR}{env:oW}{b a:bT}{pos:g6}{T id:L_}{Q:Gu}
  (k:typeLookup (.type T) "__getitem__" = pure (aA (.builtin id))) (hs:BY a)
  (h:az (model prog w) A (eval b env) (λo e=>az (model prog w) A (eval a env) (λi c=>c.TypeIs o T/\az (model prog w) A (kI o i) Q E c) E e) E s) :
  az (model prog w) A (eval (.Subscript b a pos) env) Q E s:=by
 show qC (bq h (λo e h₁=>bq h₁ (λi c d=>?_) λ_ _ x=>x) λ_ _ x=>x);let⟨l,d⟩:=d;show aE ?_;show aE (wpAny_specialOf l k ?_);let g:az (model prog w) A (subscripted a aC o i) (λr f=>az (model prog w) A (letTemporaryGo b o r >>= λ_=>pure r) Q E f) E c:=by rw[hs o i];apply wpAny_operating (bq d (λr f j=>aE (wpAny_letTemporaryGo (aM j))) λ_ _ x=>x)
 first
  | apply aM (aE g)
  | apply aE (aM (aE g))
  | apply aE g
def bI{X:Cx}{c:JK}{f:St}{H:Hp}{s:aR}{a:aP}{y:V}{o:Option V}(I:Inv X c f H s)(g:CK H a y o):s.TypeIs (.ref a) "dict":=by
 rcases g with⟨d,k,e,_,_⟩ | ⟨d,k,b,e,_,_,_⟩
 ·let⟨_,_,vs,_,dd⟩:=uj I.L5 e;apply dd.typeIs
 ·let⟨_,_,xs,_,dd⟩:=rI I.L5 e;apply dd.typeIs
def JD(td ty:TE):TE:=λσ H Q=>td σ H λx H1=>ty σ H1 λy H2=>∃a v,x = .ref a/\CK H2 a y (aA v)/\Q v H2
def EX(ty td:TE):TE:=λσ H Q=>ty σ H λy H1=>td σ H1 λx H2=>∃a o,x = .ref a/\CK H2 a y o/\Q (.Ap (!o.isSome)) H2
def Nh(td ty tv:TE):Cq:=λD σ H=>tv σ H λv H1=>td σ H1 λx H2=>ty σ H2 λy H3=>∃a H4,x = .ref a/\GN H3 a y v H4/\D.L4 σ H4
section
variable {X:Cx} {o i e value:bT} {pos pos' yt:g6} {td ty tv:TE}
def Ze9(l:X.A.units+1<gE)(f:JY X o td)(p:JY X i ty)(hs:BY i):JY X (.Subscript o i pos) (JD td ty):=by ext b s c H Q I h;show Ze8 PySem.F.slot_dict_getitem.lookup hs (Z8 (f b s c H _ I h) λu s1 ⟨x,t,j,q,n⟩=>Z8 (p b s1 c t _ j n) λB s2 ⟨y,e,d,m,a,v,w,g,r⟩=>?_);subst w;obtain rfl:=q;apply⟨bI d g,tW l d g m λA z k CC=>⟨v,e,k,CC,r⟩⟩
def xe(l:X.A.units+1<gE)(p:JY X i ty)(f:JY X o td):Fu X .NotIn i o (EX ty td):=by ext b s c H Q I h;show Z8 (p b s c H _ I h) λA s1 ⟨y,v,j,m,n⟩=>Z8 (f b s1 c v _ j n) ?_;ext u s2 ⟨x,e,t,q,a,d,w,g,r⟩;subst w;obtain rfl:=q;apply Ze7 l t g m λz k=>⟨.Ap (!d.isSome),e,k,rfl,r⟩
def P9(n:X.A.units+1<gE)(j:JY X o td)(w:JY X i ty)(k:JY X value tv)(hs:gO value (aA (.Subscript o i pos')) pos.line X.env=pure aC) :
  AV X (.Assign [.Subscript o i pos'] value pos) (Nh td ty tv):=by
 ext c s b H D I h;show wpAny_Assign_Subscript (Z8 (k c s b H _ I h) λr s1 ⟨v,E,l,p,t⟩=>Z8 (j c s1 b E _ l t) λu s2 ⟨x,e,C,z,A⟩=>Z8 (w c s2 b e _ C A) λL G ⟨y,J,m,q,a,d,F,g,f⟩=>?_) hs;subst F;obtain rfl:=z;apply uS n m g q p λM B=>⟨b,d,B,f⟩
end
def x1{P:bO}{w:bX}{H:Hp}(h:bp)(a:iR<h.objs.size):J6 P w H (h.push { cls:=.type "dict",data:=.dict #[] }) h.objs.size (.L8 []):=
 ⟨dM _,beq_eq_false_iff_ne.mpr (bU (bC a)),[],.nil,_,#[],0,aX _ rfl,⟨rfl,rfl,rfl⟩,rfl,rfl,cI⟩
def Ak:TE:=λ_ H Q=>∀p,H p=aB->Q (.ref p) (upd H p (.L8 []))
section
variable {X:Cx} {pos:g6}
def tr:JY X (.Dict [] [] pos) Ak:=λb s c H Q I h=>
 wpAny_Dict_empty ⟨.ref s.heap.objs.size,_,I.laid (a:=s.heap.objs.size) (o:=.L8 []) (t':=s.toks) (λ_ _ q=>aH _ q) (aU _) (x1 s.heap I.big),rfl,h _ (I.L5.fresh (aU _))⟩
end
def Qp:∀{vs:Gr}{ns:Gj},jA vs ns->Gp (ns.map V.int) vs
 | _,_,.nil=>.nil
 | _,_,.cons n t h=>.cons ⟨t,rfl⟩ (Qp h)
def M9(s:cD):pO:=match s with
 | .FunctionDef _ a _ _ _ _ _ _ _ _=>a
 | _=>{ posonlyargs:=[],args:=[],vararg:=aB,kwonlyargs:=[],kw_defaults:=[],kwarg:=aB,defaults:=[] }
def Kv(s:cD):List cD:=match s with
 | .FunctionDef _ _ b _ _ _ _ _ _ _=>b
 | _=>[]
def GV(s:cD):jX:=match s with
 | .FunctionDef _ _ _ _ _ _ sc _ _ _=>sc
 | _=>{ kind:=.function,names:=[],isGenerator:=aC,isCoroutine:=aC }
abbrev Mq:uH:=λ_ _ _ _ _ _=>False
abbrev E0:Ml:=λ_ _ _=>False
def Zij{X:Cx}:Km Mq X E0:=λ_ _ _ _ _ _ _ h=>h.elim
structure uG(K:aG)(x qual:bJ)(st:cD)(f:aP)(fd:gj):Prop where
 ex:∃(Cp:aI) (AB:Co) (GS doc pm:aI) (an:Co) (tX Gq:aI) (yG:aau),
  fd=cf x qual (M9 st) (Kv st) (GV st) .none GS doc pm an tX Gq/\K.lookup f=aA ⟨Cp,AB,.func fd,yG⟩/\dS K tX qual=aD
 kp:fK K (.ref f)=aD
section
variable {P:bO} {w:bX} {K:aG} {mg:JM} {base:bp}
def uG.ok{x b:bJ}{st:cD}{f:aP}{j:gj}{N ps:Gm}{k:Nat}{i:Sp}(F:uG K x b st f j)(S:Z2 N ps (GV st))(len:∀vs H Q E,i vs H Q E->la vs=la ps)
  (d:∀(c:aI)(A:bg)(a:GB)(s:aR)(H:Hp)(vs:List V)(Q:Me)(E:Ml),Cm k (A.deeper (j6 b (GV st) s.heap.objs.size f c))->i vs H Q E->
   ∃t,Kw (Ip Mq P w K mg base N b (GV st) f c A a s H E).EA (Kv st) t/\t { L4:=λ_ n=>Q .Ma n,Cj:=Q } (start N vs) H):S7 P w K mg base Mq (k+1) f j ps i:=by
 let⟨y,v,GS,o,u,r,c,Gq,l,rfl,p,e⟩:=F.ex;show XQ p e S len λA a s H vs Q E m g=>?_;let⟨t,h,q⟩:=d c A a s H vs Q E m g;apply⟨t,h.EA,q⟩
def uG.binds{x a:bJ}{st:cD}{f:aP}{g:gj}{ps:Gm}(F:uG K x a st f g)
  (h:∀(GS c e:aI)(d:Co)(b Gq:aI)(us:Gr),us.length=la ps->jc (cf x a (M9 st) (Kv st) (GV st) .none GS c e d b Gq) ⟨us,[]⟩=pure (ps.zip us)):Binds K g ps []:=by
 let⟨l,k,GS,c,e,d,b,Gq,j,rfl,m,i⟩:=F.ex;apply .all (h GS c e d b Gq)
def Zkg{x a:bJ}{st:cD}{f:aP}{j:aI}{i h:Co}{e:aau}{GS d g b Gq:aI}(l:K.lookup f=aA ⟨j,i,.func (cf x a (M9 st) (Kv st) (GV st) .none GS d g h b Gq),e⟩)
  (c:dS K b a=aD) (k:fK K (.ref f)=aD):uG K x a st f (cf x a (M9 st) (Kv st) (GV st) .none GS d g h b Gq):=⟨⟨j,i,GS,d,g,h,b,Gq,e,rfl,l,c⟩,k⟩
end
def Q2{A:bg}{k:Nat}(a:Cm k A):A.units+1<gE:=eu (pT ⋯ _) a.units
section
variable {X:Cx}
def pv(i:Nat){x:bJ}{pos:g6}(d:X.N[i]?=aA x|>On)(c:BC X.env.scope x:=by first | apply mY rfl | apply o8 (mY rfl) | apply o8 (o8 rfl))(b:(x==("__debug__" : bJ))=aC|>Op)
  (a:(x==("__classdict__" : bJ))=aC|>Op):JY X (.Name x pos) (KO i):=Tx d c b a
end
def Znl{A B:Prop}(h:B):if aC=aD then A else B:=by rw[N4 br];apply h
def Znm{A B:Prop}(h:A):if aD=aD then A else B:=by rw[An rfl];apply h
def AJ(H H':Hp):Prop:=∀b o,H b=aA o->H' b=aA o
def AJ.refl(H:Hp):AJ H H:=λ_ _ h=>h
def AJ.trans{H e d:Hp}(a:AJ H e)(b:AJ e d):AJ H d:=λc o h=>b c o (a c o h)
def AJ.free{H a:Hp}(e:AJ H a){l:aP}(h:a l=tJ):H l=tJ:=by
 cases q:H l with
 | none=>rfl
 | some o=>
  rw[e l o q] at h;cases h
section
variable {κ:Type} [DecidableEq κ]
def Xs:∀{l:List κ}{k:κ},l.Nodup->¬k∈l->(l++[k]).Nodup
 | [],k,_,_=>⋯
 | a::r,k,h,hk=>by
  let⟨b,c⟩:=av.mp h;change(a::(r++[k])).Nodup;show av.mpr ⟨λm=>?_,Xs c λm=>hk (aY.mpr (o8 m))⟩;rcases aj.mp m with q | q
  ·apply b q
  ·apply hk (aY.mpr (mY (aO.mp q).symm))
end
end _l
namespace _l
open PySem PySem.Spec PyProof.Rows
def KU(cells:aac):List (bJ×iI)->List (bJ×aP)->List (bJ×aP)
 | [],acc=>acc
 | (n,k)::r,acc=>KU cells r (if(k==cj)=aD then(n,(cells.lookup n).getD 0)::acc else acc)
def Sq:∀(names:K0)(acc:aac),(∀y∈names,y.2 = .free->(env.cells.lookup y.1).isSome=aD)->
  (forIn (m:=Sem) names acc λ(x:bJ×iI) (e:aac)=>
   match x with
   | (name,kind)=>if(kind==cj)=aD then do
     let c <-cellOf env name
     pure (i7 ((name,c)::e))
    else pure (i7 e))=pure (KU env.cells names acc)
 | [],acc,_=>rfl
 | (n,k)::r,acc,h=>by
  rw[List.forIn_cons];let d:=λa=>Sq r a λy g=>h y (aS _ g)
  cases hk:(k==cj) with
  | true=>
   let hs:=h (n,k) ar (~~~hk);let⟨c,b⟩:=dY.mp hs;let b:env.cells.lookup n=aA c:=b;let f:cellOf env n=pure c:=by delta cellOf;rw[b]
   dsimp only
   rw[hk,An rfl,f];show Eq.trans (d ((n,c)::acc)) ?_;change _=pure (KU env.cells r (if(k==cj)=aD then(n,(env.cells.lookup n).getD 0)::acc else acc));rw[An hk,b];rfl
  | false=>
   dsimp only
   rw[hk,N4 br];show Eq.trans (d acc) ?_;change _=pure (KU env.cells r (if(k==cj)=aD then(n,(env.cells.lookup n).getD 0)::acc else acc));rw[N4 (by rw[hk];apply br)]
def Sr(h:∀y∈scope.names,y.2 = .free->(env.cells.lookup y.1).isSome=aD):nU scope env=pure (KU env.cells scope.names []):=by
 let e:=Sq scope.names [] h;delta nU
 dsimp only
 rw[e];rfl
def Qi:∀(names:K0)(acc:aac),(∀y∈names,y.2 = .free->(cells.lookup y.1).isSome=aD)->(acc.lookup x=aA c->cells.lookup x=aA c)->
  (KU cells names acc).lookup x=aA c->cells.lookup x=aA c
 | [],_,_,h,e=>h e
 | (n,k)::r,acc,hf,h,e=>by
  show Qi r _ (λy g=>hf y (aS _ g)) ?_ e;ext q;by_cases b:(k==cj)=aD
  ·rw[An b,cL] at q
   cases hx:x==n with
   | true=>
    rw[hx] at q;let f:x=n:=by simpa using hx
    let⟨d,a⟩:=dY.mp (hf (n,k) ar (~~~b));let a:cells.lookup n=aA d:=a;rw[a] at q;rw[f,a];apply q
   | false=>rw[hx] at q;apply h q
  ·rw[N4 b] at q;apply h q
def OE:∀(names:K0)(acc:aac),(acc.lookup x).isSome=aD->((KU cells names acc).lookup x).isSome=aD
 | [],_,h=>h
 | (n,k)::r,acc,h=>by
  show OE r _ ?_;split
  ·rw[cL];split<;>simp_all
  ·apply h
def Qj:∀(names:K0)(acc:aac),(x,cj)∈names->((KU cells names acc).lookup x).isSome=aD
 | (n,k)::r,acc,h=>by
  rcases aY.mp h with e | h
  ·cases e;show OE r _ ?_;rw[An ∅,cL];simp
  ·apply Qj r _ h
structure f_(N:Gm)(around scope:jX)(own fr:Gm)(ix:N6):Prop where
 kind:scope.kind = .function
 nq:∀y∈scope.names,y.2≠.cell
 names:∀y∈scope.names,y.2 = .local->scope.names.lookup y.1=aA .local
 frees:∀y∈scope.names,y.2 = .free->(around.names.lookup y.1=aA .cell\/around.names.lookup y.1=aA .free)
 slots:fr.map aA=ix.map (λi=>N[i]?)
 outs:∀x∈fr,(x,cj)∈scope.names
 apart:∀x∈fr,scope.names.lookup x≠aA .local
def MT(X:Cx)(N':Gm)(scope:jX)(cl:aac)(C:aP)(s:aR)(H:Hp)(ex:Gs):Cx:=
 { X with N:=N',s₀:=s,H₀:=H,env:=o9 scope cl C X.env,outer:=X.stack,ex:=ex,fn:=λ_=>aC,GG:=[],Ar:=λ_ _=>False }
def M3(n:Nat)(ix:N6)(σ:St):St:=aW n aB++ix.map (λi=>(σ[i]?).join)
def Wz{env:oW}{x:bJ}:∀{names:K0}{k:iI},names.lookup x=aA k->
  (names.map λ(n,k)=>if(k==cj&&env.scope.kind==.function&&env.kindOf n==aA .cell) then(n,ig) else(n,k)).lookup x =
   aA (if(k==cj&&env.scope.kind==.function&&env.kindOf x==aA .cell)=aD then ig else k)
 | [],_,h=>by simp at h
 | (n,k')::r,k,h=>by
  change List.lookup x ((if(k'==cj&&env.scope.kind==.function&&env.kindOf n==aA .cell)=aD then(n,ig) else(n,k'))::_)=_
  cases hx:x==n with
  | true=>
   dsimp[cL,hx] at h;cases h;let e:x=n:=by simpa using hx
   subst e;split
   ·simp[cL]
   ·simp[cL]
  | false=>
   dsimp[cL,hx] at h;split
   ·dsimp[cL,hx];apply Wz h
   ·dsimp[cL,hx];apply Wz h
def Ua{env:oW}{x:bJ}:∀{names:K0}{k':iI},
  (names.map λ(n,k)=>if(k==cj&&env.scope.kind==.function&&env.kindOf n==aA .cell) then(n,ig) else(n,k)).lookup x=aA k'->∃k,names.lookup x=aA k
 | [],_,h=>by simp at h
 | (n,k0)::r,k',h=>by
  let h:List.lookup x ((if(k0==cj&&env.scope.kind==.function&&env.kindOf n==aA .cell)=aD then(n,ig) else(n,k0))::_)=aA k':=h
  cases hx:x==n with
  | true=>apply⟨k0,by simp[cL,hx]⟩
  | false=>
   have:∃k,r.lookup x=aA k:=by
    apply((Ua (env:=env) (k':=k')));split at h<;>simpa [cL,hx] using h
   let⟨k,e⟩:=this;apply⟨k,by simp[cL,hx,e]⟩
section
variable {X:Cx} {N5:JK} {σ:St} {H:Hp} {s:aR} {own fr:Gm} {ix:N6} {scope:jX}
def f_.uD(S:f_ X.N X.env.scope scope own fr ix)(I:Inv X N5 σ H s):∀y∈scope.names,y.2 = .free->(X.env.cells.lookup y.1).isSome=aD:=λy b a=>by let⟨c,e⟩:=I.ok.has y.1 (S.frees y b a);rw[e];rfl
end
def XZ(I:Nat->aR->Prop)
  (o:∀n s,I n s->az (model prog w) A (kY it) (λr b=>match r with
   | none=>R (.ok .next) b
   | some v=>az (model prog w) A (oB target it v) (λ_ f=>az (model prog w) A (assign target env v) (λ_ k=>
     az (model prog w) A (forIn ifs aD λc r=>if r=aD then do let ok <-qA c env (eval c env);pure (i7 ok) else pure (i7 r)) (λok d=>
      if ok=aD then az (model prog w) A (eval elt env) (λx i=>
       az (model prog w) A (call (.builtin "list.append") [acc,x]) (λ_ g=>∃m,m<n/\I m g) (pR (model prog w) A env λe a=>R (.error e) a) i) (pR (model prog w) A env λe a=>R (.error e) a) d
      else ∃m,m<n/\I m d) (pR (model prog w) A env λe a=>R (.error e) a) k) (pR (model prog w) A env λe a=>R (.error e) a) f) (pR (model prog w) A env λe a=>R (.error e) a) b) (pR (model prog w) A env λe a=>R (.error e) a) s)
  (n:Nat) (h:I n s) :
  jT (model prog w) A (.compLoop (.ListComp elt [⟨target,iter,ifs,0⟩] scope pos) 0 it acc env) R s:=by
 show codeAny_loop rfl I (λn s u=>?_) n h;show wpAny_noted ?_;show aE (p6 (aE (bq (o n s u) (λr b h₁=>?_) λ_ _ h'=>h')))
 cases r with
 | none=>apply aM h₁
 | some v=>
  show aE (bq h₁ (λ_ f l=>?_) λ_ _ h'=>h');show aE (bq l (λ_ k t=>aE (bq t (λok d j=>?_) λ_ _ h'=>h')) λ_ _ h'=>h')
  cases ok with
  | false=>apply aM ⟨rfl,j⟩
  | true=>
   apply aE (aE (bq j (λx i q=>aE (bq q (λ_ g p=>aM (aM ⟨rfl,p⟩)) λ_ _ h'=>h')) λ_ _ h'=>h'))
def AF(X:Cx)(ifs:Mk)(t:TT):Prop:=
 ∀(N5:JK)(s:aR)(σ:St)(H:Hp)(Q:Bool->Hp->Prop),Inv X N5 σ H s->t σ H Q->
  az (model X.prog X.w) X.A (forIn ifs aD λc r=>if r=aD then do let ok <-qA c X.env (eval c X.env);pure (i7 ok) else pure (i7 r)) (HB X N5 σ Q) X.Ar s
def LV:TT:=λ_ H Q=>Q aD H
def Zfa:AF X [] LV:=λ_ _ _ H _ I h=>wpAny_tests_nil ⟨H,I,h⟩
def Zfb(h:CQ X c t):AF X [c] t:=λa s b H Q I d=>wpAny_tests_one (h a s b H Q I d)
def N2(n:Nat)(ix:N6)(g:GJ)(tt:TT)(JN:TE)(σ:St)(Q:Me)(J:It)(H1:Hp):Prop:=
 ∃W:Nat->Nat->List V->Hp->Prop,(∃m,W 0 m [] H1)/\∀i m L9 H,W i m L9 H->L9.length<=sizeLine/\
  ((J.stop i H/\∀p,H p=aB->Q (.ref p) (upd H p (.lst L9)))\/
   (J.go i H/\∃N:List V->Hp->Prop,(∀uJ H',N uJ H'->∃JQ,JQ<m/\W (i+1) JQ uJ H')/\
    ∀x H',J.aas i H x H'->g x (M3 n ix σ) H' λσ2 H2=>σ2.drop n=(M3 n ix σ).drop n/\tt σ2 H2 λb H3=>if b=aD then JN σ2 H3 λy H4=>N (L9++[y]) H4 else N L9 H3))
def MZ(n:Nat)(ix:N6)(Ke:TI)(g:GJ)(tt:TT)(JN:TE):TE:=λσ H Q=>Ke σ H λJ H1=>N2 n ix g tt JN σ Q J H1
def pn{b:N6}{d a:St}(f:a.drop n=(M3 n b d).drop n):∀(i:Nat) v,(M3 n b d)[i]?=aA (aA v)->a[i]?=aA (aA v):=λi v e=>by
 by_cases c:i<n
 ·delta M3 at e;rw[bB (~~~c),cP] at e;rw[An c] at e;cases e
 ·let q:=congrArg (λl=>l[i-n]?) f;dsimp[jy] at q;rw[show n+(i-n)=i by lia] at q;rw[q];apply e
section
variable {X:Cx} {Eu elt iter:bT} {ifs:Mk} {scope:jX} {pos:g6} {own fr:Gm} {ix:N6} {Ke:TI} {g:GJ} {tt:TT} {JN:TE}
def dp{Y:JK}{B:St}{E:Hp}{s2:aR}{F:Gs}{h₁:bp}{tk:Nat}{C:aP}(S:f_ X.N X.env.scope scope own fr ix)(d:Inv X Y B E s2)(H:∀b∈F,Il X Y E b)(O:∀b∈F,b<s2.heap.objs.size)
  (T:s2.heap.objs.size<=C) (W:h₁.Ns C λ_=>aB) (s:∀b o,s2.heap.get? b=aA o->h₁.get? b=aA o) :
  Inv (MT X (own++fr) scope (KU X.env.cells scope.names []) C s2 E F) [] (M3 (la own) ix B) E { s2 with heap:=h₁,toks:=tk }:=by
 let cs:=S.uD d;let sub:∀x c,(KU X.env.cells scope.names []).lookup x=aA c->X.env.cells.lookup x=aA c:=λx c e=>Qi scope.names [] cs (λh=>by simp at h) e;let L:=d.abn
 let Q:(MT X (own++fr) scope (KU X.env.cells scope.names []) C s2 E F).Ok:=by
  show⟨d.ok.mod,S.kind,d.ok.glob,d.ok.blt,T,λx y c t f=>d.ok.inj x y c (sub x c t) (sub y c f),λx hx=>?_,λx c h _=>?_,d.ok.hd,d.ok.frames,.inl rfl,λb w=>⟨?_,λx c e=>?_⟩,d.bs,?_,λb o e w=>?_,λb w z=>?_,d.stack,d.abo,d.ok.tab.un d.base,λ_ z=>absurd rfl z⟩
  ·-- AA cells of AA xX free names
   let R:(x,cj)∈scope.names:=by
    have:∃k',(relabel scope X.env).names.lookup x=aA k'/\(k' = .cell\/k' = .free):=by
     rcases hx with h | h
     ·apply⟨_,h,.inl rfl⟩
     ·apply⟨_,h,.inr rfl⟩
    let⟨k',e,P⟩:=this;let⟨k,D⟩:=Ua e;let U:=Wz (env:=X.env) D;let e:(scope.names.map λ(n,k)=>if(k==cj&&X.env.scope.kind==.function&&X.env.kindOf n==aA .cell) then(n,ig) else(n,k)).lookup x=aA k':=e;rw[U] at e;let m:=eJ D
    cases k with
    | free=>apply m
    | cell=>apply absurd rfl (S.nq _ m)
    | _=>simp at e;subst e;rcases P with z | z<;>cases z
   apply dY.mp (Qj _ _ R)
  ·cases h
  ·-- F uB from AA frame
   apply bC (ay (O b w) T)
  ·apply(H b w).2.2.2.2.1 x c (sub x c e)
  ·apply cG d.ok.aae d.GC
  ·rcases(H b w).2.2.2.1 with z | z
   ·apply d.ok.aa6 b o e z
   ·apply absurd (ay (aV (d.ok.bs b o e).1) z) (cR _)
  ·rcases aY.mp (L b z) with e | e
   ·apply(H b w).2.1 e
   ·apply(H b w).2.2.1 e
 let MO:la fr=la ix:=by simpa using congrArg fQ S.slots
 show⟨Q,rfl,d.bare,Au.kept s,⟨_,W,λi x v t f g=>?_⟩,λx c e=>?_,d.L5.fresh T,λx c e=>d.GH x c (sub x c e),λp Gn=>absurd (show p∈([]:JK) from Gn) ⋯,d.L5.kept s,?_⟩
 ·-- a name of AA def around
  let t:(own++fr)[i]?=aA x:=t;let I:¬i<la own:=λI=>by delta M3 at f;rw[bB (~~~I),cP,An I] at f;cases f
  rw[bQ ()] at t;delta M3 at f;rw[bQ (~~~I),cH,ag] at f
  cases ej:ix[i-la own]? with
  | none=>rw[ej] at f;cases f
  | some j=>
   rw[ej] at f;let f:(B[j]?).join=aA v:=by simpa using f
   let f:B[j]?=aA (aA v):=by
    cases q:B[j]? with
    | none=>rw[q] at f;cases f
    | some z=>rw[q] at f;apply congrArg aA f
   let GF:X.N[j]?=aA x:=by let q:=congrArg (λl=>l[i-la own]?) S.slots;dsimp[ag,t,ej] at q;apply(bM q).symm
   let hm:=S.outs x (aw t);let hk:=S.frees _ hm rfl;let⟨m,Ay,Kb⟩:=d.loc;let⟨u,r,l⟩:=Kb j x v GF f (by rcases hk with k | k;apply .inr (.inl k);apply .inr (.inr k));show⟨u,r,?_⟩;rcases l with⟨k,_⟩ | ⟨_,c,Ex,A⟩
   ·let k:X.env.scope.names.lookup x=aA .local:=k;rcases hk with q | q<;>rw[k] at q<;>cases q
   ·let⟨c',G⟩:=dY.mp (Qj _ [] hm);let Z:=sub x c' G;rw[Ex] at Z;cases Z;show .inr ⟨?_,c,G,?_⟩
    ·let g:=g;rcases g with g | g
     ·let⟨k0,D⟩:=Ua g;let U:=Wz (env:=X.env) D;let g:(scope.names.map λ(n,k)=>if(k==cj&&X.env.scope.kind==.function&&X.env.kindOf n==aA .cell) then(n,ig) else(n,k)).lookup x=aA .local:=g;rw[U] at g
      let N:k0 = .local:=by
       cases k0<;>simp at g ⊢
       split at g<;>cases g
      subst N;apply absurd D (S.apart x (aw t))
     ·apply g
    ·let⟨o,M,J⟩:=A;apply⟨o,s _ _ M,J⟩
 ·let⟨v,o,M,J⟩:=d.cell x c (sub x c e);apply⟨v,o,s _ _ M,J⟩
 ·change(M3 (la own) ix B).length=(own++fr).length;delta M3;rw[ah,cH,aJ,ah,MO]
def BA(fv:bJ->Bool)(X:Cx)(N':Gm)(scope:jX)(cl:aac)(C:aP)(s:aR)(H:Hp)(ex:Gs):Cx:=
 { X with N:=N',s₀:=s,H₀:=H,env:=o9 scope cl C X.env,outer:=X.stack,ex:=ex,fn:=fv,GG:=[],Ar:=λ_ _=>False }
def mb{N:Gm}{cl:aac}{kk:Nat}{C D:aP}{h₁:bp}{tk:Nat}{N5:JK}{σ:St}{w:Hp}{s2:aR}{k:Gs}{it:aP}{EB:N_}{J:It}{Fin:List V->Hp->Prop}{RR:aI->aP->tG->aR->Prop}
  (G:X.calm=aD) (Gz:CY (BA fv X N scope cl C s2 w k) Eu g) (ht:AF (BA fv X N scope cl C s2 w k) ifs tt) (he:JY (BA fv X N scope cl C s2 w k) elt JN)
  (I2:Inv X N5 σ w s2) (T:Ki X.prog X.w X.K Eu J k it EB) (xt:EB 0 s2.heap) (f2:∀b∈k,Il X N5 w b)
  {W:Nat->Nat->List V->Hp->Prop} {m0:Nat} (abi:W 0 m0 [] w)
  (turn:∀i m f H,W i m f H->la f<=sizeLine/\
   ((J.stop i H/\Fin f H)\/
    (J.go i H/\∃N:List V->Hp->Prop,(∀uJ h,N uJ h->∃JQ,JQ<m/\W (i+1) JQ uJ h)/\
     ∀x h,J.aas i H x h->g x (M3 kk ix σ) h λσ2 w=>σ2.drop kk=(M3 kk ix σ).drop kk/\tt σ2 w λb t=>if b=aD then JN σ2 t λy H4=>N (f++[y]) H4 else N f t)))
  (hRR:∀(D C:aP)(oC:fE)(m:JM)(L:aR)(h:Hp)(f:List V),Inv X (N5++[(C,oC)]) σ (upd h D (.lst f)) L->L.heap.get? C=aA oC->L.heap.Ns C m->Il X N5 (upd h D (.lst f)) C->h D=aB->Fin f h->RR (.ref D) C (.ok .next) L)
  (I':∀b∈k,b<s2.heap.objs.size) (hC:@Eq Nat C (D+1)) (M':@Eq Nat s2.heap.objs.size D) (old:∀b o,s2.heap.get? b=aA o->h₁.get? b=aA o) (zb:h₁.get? D=aA { cls:=.type "list",data:=.seq ([]:Gr).toArray 0 })
  (I0:∀tk,Inv (BA fv X N scope cl C s2 w k) [] (M3 kk ix σ) w { s2 with heap:=h₁,toks:=tk }) (hcl:∀x c,cl.lookup x=aA c->c≠D) :
  jT (model X.prog X.w) X.A (.compStart (.ListComp elt [⟨Eu,iter,ifs,0⟩] scope pos) 0 (.ref it) (.ref D) (o9 scope cl C X.env)) (RR (.ref D) C) { s2 with heap:=h₁,toks:=tk }:=by
 let ze:@Ne Nat D C:=()
 let j:∀b,b<s2.heap.objs.size->b≠C/\b≠D:=λb a=>by rw[M'] at a;apply⟨bC (),bC a⟩
 let Z:jT (model X.prog X.w) X.A (.compLoop (.ListComp elt [⟨Eu,iter,ifs,0⟩] scope pos) 0 (.ref it) (.ref D) (o9 scope cl C X.env)) (RR (.ref D) C) { s2 with heap:=h₁,toks:=tk }:=by
  generalize l:BA fv X N scope cl C s2 w k=Y at I0 Gz ht he
  let E:∀{h:Hp}{GG:JK},(∀b∈k,h b=aB)->(∀p∈GG,∀b∈k,p.1≠b)->∀b∈k,Il Y GG h b:=λ{h GG} Ay B b a=>by
   subst l;show⟨Ay b a,(j b (I' b a)).1,λz=>?_,.inl a,λx c e=>?_,λp hp'=>B p hp' b a⟩
   ·apply(I0 0).ok.aa7 b a z
   ·apply((I0 0).ok.Cu b a).2 x c e
  let χ:=λb a=>bU (j b (I' b a)).2;let R:∀x c,Y.env.cells.lookup x=aA c->c≠D:=by subst l;apply hcl
  let y3:D∉Y.fs:=λz=>by subst l;let⟨_,o,ho,_⟩:=(I0 0).ok.ED.mem z;let:=aV ho;have:D<s2.heap.objs.size:=this;apply cR _ (Nat.lt_of_lt_of_eq this M')
  let eL:Y.env.locals=C:=by subst l;rfl
  let eS:Y.s₀=s2:=by subst l;rfl
  let AN:Y.GG=[]:=by subst l;rfl
  show XZ (λn L=>∃i f A F h,Inv Y [] (M3 kk ix σ) h L/\EB i L.heap/\(∀b∈k,h b=aB)/\L.heap.get? D=aA { cls:=.type "list",data:=.seq A F }/\Gp f A.toList/\h D=aB/\W i n f h) ?_ m0
   ⟨0,[],#[],0,w,I0 _,T.keep _ _ _ xt λb _ o e=>old b o e,λb a=>(f2 b a).1,zb,.nil,I2.L5.fresh (),abi⟩
  ext n s3 ⟨i,f,A,F,t,I3,B_,V',oD,vD,nD,abc⟩;let⟨hlen,P⟩:=turn i n f t abc
  let wy:A.size<=sizeLine:=by
   let:=vD.length;dsimp[bW] at this
   lia
  let pD:Inv Y [(D,{ cls:=.type "list",data:=.seq A F })] (M3 kk ix σ) t s3:=I3.abf λp B=>by rw[aO.mp B];apply⟨oD,nD,by rw[eL];apply ze,y3,λv z=>by cases z⟩
  let YP:Y.prog=X.prog:=by subst l;rfl
  let Yw:Y.w=X.w:=by subst l;rfl
  let YK:Y.K=X.K:=by subst l;rfl
  let YA:Y.A=X.A:=by subst l;rfl
  let Yx:Y.Ar=λ_ _=>False:=by subst l;rfl
  let Ye:Y.env=o9 scope cl C X.env:=by subst l;rfl
  let ne1:∀p∈[((D,{ cls:=.type "list",data:=.seq A F }):aP×fE)],∀b∈k,p.1≠b:=λp B b a=>by rw[aO.mp B];apply χ b a
  rcases P with⟨stop,abd⟩ | ⟨go,N,GF,step⟩
  ·let d:=T.done Y YP Yw YK (by subst l;apply G) i _ s3 _ t (pR (model X.prog X.w) X.A (o9 scope cl C X.env) λe L=>RR (.ref D) C (.error e) L) pD (E V' ne1) B_ stop;rw[YA] at d;show Z8 d ?_;ext r s4 ⟨hr,I4⟩;subst hr;let⟨oD4,s,_⟩:=I4.pin (D,_) (by rw[AN];apply ar);let⟨m,Ay,_⟩:=I4.loc;rw[eL] at Ay;let⟨oC,Gi,ep,H_,hdC,H8⟩:=id Ay;let U:t C=aB:=by let:=I4.free;rw[eL] at this;apply this
   let un:Au (Mu X.stack) k w t s2.heap s4.heap:=by let:=I4.base;subst l;apply this
   let lt2:∀b o,s2.heap.get? b=aA o->b≠D:=λb o e=>(j b (aV e)).2
   let un':Au (Mu X.stack) k w (upd t D (.lst f)) s2.heap s4.heap:=by
    show⟨un.keep,un.slot,λb o e n hx=>?_,un.there,λb xs e=>?_,λb o u e=>?_,λb ps e=>?_⟩
    ·rw[a_ (lt2 b o e)];apply un.free b o e n hx
    ·let q:=un.aad b xs e;rw[a_ (Zk q s)];apply q
    ·let q:=un.AE b o u e;rw[a_ (Zk q s)];apply q
    ·let⟨more,q⟩:=un.Cv b ps e;apply⟨more,by rw[a_ (Zk q s)];apply q⟩
   let yT:AX X.prog X.w t s4.heap:=by let:=I4.L5;rw[YP,Yw] at this;apply this
   let yU:AX X.prog X.w (upd t D (.lst f)) s4.heap:=λb u q=>by
    by_cases a:b=D
    ·subst a;rw[bh] at q;cases q;apply⟨hlen,A.toList,F,vD,by simpa using oD4⟩
    ·rw[a_ a] at q;apply(yT b u q).EC (λc v _ z=>z) (λc z=>by rw[a_ (Zk z s)];apply z) (λc xs z=>by rw[a_ (Zk z s)];apply z) λc u z=>by rw[a_ (Zk z s)];apply z
   let os4:s4.os=s2.os:=by rw[I4.os,eS]
   let I5:=I2.abp os4 un' yU I4.bare λb a=>⟨(f2 b a).2.2.2.1,(f2 b a).2.1,(f2 b a).2.2.2.2.1,(f2 b a).2.2.2.2.2⟩;let CL:C≠X.env.locals:=λz=>by apply(j _ I2.lt).1 z.symm
   let S:Il X N5 (upd t D (.lst f)) C:=I2.aa4 () (by rw[a_ (bU ze)];apply U);show hRR D C oC m s4 t f (I5.abf λp B=>?_) H_ Ay S s abd;rcases aj.mp B with z | z
   ·apply I5.pin p (bA _ z)
   ·rw[aO.mp z];apply⟨H_,S.1,S.2.1,S.2.2.1,λv z=>by rw[hdC] at z;cases z⟩
  ·let d:=T.item Y YP Yw YK (by subst l;apply G) i _ s3 _ t (λ_ _=>False) pD (E V' ne1) B_ go;rw[YA] at d;show bq d (λr s4 ⟨u,hr,Mp⟩=>?_) λ_ _ z=>z.elim;subst hr;show bq Mp (λ_ s5 ⟨x,H5,I5,ab2,ab3,yx,fr5⟩=>?_) λ_ _ z=>z.elim;let I5':=I5.pinned (E fr5 ne1) (T.obj _ _ yx);let a6:=Gz _ s5 _ H5 x u _ I5' ab2 (step x H5 ab3);rw[YP,Yw,YA,Ye,Yx] at a6;show bq a6 (λ_ abr ⟨O,H6,I6,dr,ab4⟩=>?_) λ_ _ z=>z.elim;let a7:=ht _ abr O H6 _ I6 ab4;rw[YP,Yw,YA,Ye,Yx] at a7;show bq a7 (λok s7 ⟨H7,I7,q7⟩=>?_) λ_ _ z=>z.elim
   let back:∀{I:Hp}{M:aR},Inv Y ([((D,{ cls:=.type "list",data:=.seq A F }):aP×fE)]++MF k s5.heap) O I M->
     M.heap.get? D=aA { cls:=.type "list",data:=.seq A F }/\I D=aB/\EB (i+1) M.heap/\(∀b∈k,I b=aB):=λ{I M} Q=>by
    let⟨Mc,e2,_⟩:=Q.pin (D,{ cls:=.type "list",data:=.seq A F }) ⋯;show⟨Mc,e2,T.keep _ _ _ yx λb a o e=>(Q.pin (b,o) (by rw[AN];apply aS _ (V7 a e))).1,λb a=>?_⟩;let⟨o,e,_⟩:=T.obj _ _ yx b a;apply(Q.pin (b,o) (by rw[AN];apply aS _ (V7 a e))).2.1
   let Bs:∀{I:Hp}{M:aR},Inv Y ([((D,{ cls:=.type "list",data:=.seq A F }):aP×fE)]++MF k s5.heap) O I M->Inv Y [] (M3 kk ix σ) I M:=λ{I M} Q=>
    (Q.abf λp B=>absurd B ⋯).weak (by
     let Mc:=(I0 0).len;let e2:=Q.len;rw[Mc,e2]) (pn dr)
   cases ok with
   | false=>
    let⟨Mc,e2,Gy,e4⟩:=back I7;let⟨JQ,hm,ab5⟩:=GF _ _ q7;apply⟨JQ,hm,i+1,f,A,F,H7,Bs I7,Gy,e4,Mc,vD,e2,ab5⟩
   | true=>
    let a8:=he _ s7 O H7 _ I7 q7;rw[YP,Yw,YA,Ye,Yx] at a8;show bq a8 (λyv M ⟨y,I,Q,ry,q8⟩=>?_) λ_ _ z=>z.elim;let⟨Mc,e2,Gy,e4⟩:=back Q;let⟨JQ,hm,w8⟩:=GF _ _ q8;show append_at Mc (λh9 Hx hD9=>?_) wy;let I9:=(Bs Q).turned (t':=M.toks) (λb o a e=>Hx.extBut b o a e) e2 (by rw[eL];apply ze) (.inr (by rw[eS];lia)) R (λp B=>absurd (show p∈([]:JK) by rw[AN] at B;apply B) ⋯);show⟨JQ,hm,i+1,f++[y],A.push yv,F+1,I,I9,T.keep _ _ _ Gy λb a o e=>Hx.extBut b o (bU (χ b a)) e,e4,hD9,?_,e2,w8⟩;rw[mK];apply vD.append (.cons ry .nil)
 apply codeAny_compStart_list Z (T.self X.A 0 _ _ _ (T.keep _ _ _ xt λb _ o e=>old b o e) Z)
def OF{M:St}{t:Hp}{s2:aR}{Q:Gs}{it:aP}{EB:N_}{J:It}{Fin:List V->Hp->Prop}{RR:aI->aP->tG->aR->Prop}{E:Gu}
  (l:X.calm=aD) (S:f_ X.N X.env.scope scope own fr ix)
  (Gz:∀cl C s H ex,CY (MT X (own++fr) scope cl C s H ex) Eu g) (ht:∀cl C s H ex,AF (MT X (own++fr) scope cl C s H ex) ifs tt) (he:∀cl C s H ex,JY (MT X (own++fr) scope cl C s H ex) elt JN)
  (O:Inv X N5 M t s2) (T:Ki X.prog X.w X.K Eu J Q it EB) (A:EB 0 s2.heap) (Z:∀b∈Q,Il X N5 t b)
  {W:Nat->Nat->List V->Hp->Prop} {m0:Nat} (abi:W 0 m0 [] t)
  (u:∀i m L9 H,W i m L9 H->la L9<=sizeLine/\
   ((J.stop i H/\Fin L9 H)\/
    (J.go i H/\∃N:List V->Hp->Prop,(∀uJ H',N uJ H'->∃JQ,JQ<m/\W (i+1) JQ uJ H')/\
     ∀x H',J.aas i H x H'->g x (M3 (la own) ix M) H' λn t=>n.drop (la own)=(M3 (la own) ix M).drop (la own)/\tt n t λb Y=>if b=aD then JN n Y λy H4=>N (L9++[y]) H4 else N L9 Y)))
  (P:∀(D C:aP)(oC:fE)(m:JM)(Aq:aR)(H':Hp)(L9:List V),Inv X (N5++[(C,oC)]) M (upd H' D (.lst L9)) Aq->Aq.heap.get? C=aA oC->Aq.heap.Ns C m->Il X N5 (upd H' D (.lst L9)) C->H' D=aB->Fin L9 H'->RR (.ref D) C (.ok .next) Aq) :
  az (model X.prog X.w) X.A (newList []) (λacc I=>az (model X.prog X.w) X.A (newFunctionEnv scope X.env.globals (KU X.env.cells scope.names []) [] X.env.qual aB .none (aA X.env)) (λk w=>
   jT (model X.prog X.w) X.A (.compStart (.ListComp elt [⟨Eu,iter,ifs,0⟩] scope pos) 0 (.ref it) acc { k with scope:=relabel scope X.env }) (RR acc k.locals) w) E I) E s2:=by
 let B:∀b∈Q,b<s2.heap.objs.size:=λb L=>by let⟨o,e,_⟩:=T.obj 0 s2.heap A b L;apply aV e
 show cA (og S.nq ⋯ (λh₁ d a=>?_) S.kind);generalize p:s2.heap.push { cls:=.type "list",dict:=aB,data:=.seq ([]:Gr).toArray }=G2 at d a ⊢;let R:G2.objs.size=s2.heap.objs.size+1:=by rw[<-p,dH]
 generalize hCC:G2.objs.size=C at d a R ⊢;generalize r:s2.heap.objs.size=D at R ⊢;let U:D≠C:=()
 let f:∀b,b<s2.heap.objs.size->b≠C/\b≠D:=λb L=>by rw[r] at L;apply⟨bC (),bC L⟩
 let G:=λb o e=>a.extBut b o (f b (aV e)).1 (aH _ (p▸aH _ e))
 let F:h₁.get? D=aA { cls:=.type "list",data:=.seq ([]:Gr).toArray 0 }:=by
  let e0:G2.get? D=aA { cls:=.type "list",data:=.seq ([]:Gr).toArray 0 }:=by rw[<-p,<-r];apply aX _ rfl
  apply a.extBut _ _ U (aH _ e0)
 let j:h₁.Ns C λ_=>aB:=by simpa using d
 let I0:=λtk=>dp (tk:=tk) S O Z B () j G;show mb (s2:=s2) (h₁:=h₁) (fv:=λ_=>aC) (N:=own++fr) (C:=C) (D:=D) (cl:=KU X.env.cells scope.names []) l (Gz _ _ _ _ _) (ht _ _ _ _ _) (he _ _ _ _ _) O T A Z abi u P B R r G F I0 λx c e z=>?_;let⟨v,q⟩:=O.cell x c (Qi scope.names [] (S.uD O) (λh=>by simp at h) e);apply(f c q.lt).2 z
def Zfc(c:X.calm=aD)(A:A8 X Eu iter Ke)(S:f_ X.N X.env.scope scope own fr ix)
  (B:∀cl C s H ex,CY (MT X (own++fr) scope cl C s H ex) Eu g) (G:∀cl C s H ex,AF (MT X (own++fr) scope cl C s H ex) ifs tt) (k:∀cl C s H ex,JY (MT X (own++fr) scope cl C s H ex) elt JN)
  (hs:∀x,cw iter X.env x=pure x:=by ext _;rfl):JY X (.ListComp elt [⟨Eu,iter,ifs,0⟩] scope pos) (MZ (la own) ix Ke g tt JN):=by
 ext l s p H Q I h;show mZ rfl hs (Sr (S.uD I)) S.kind S.names (Z8 (A l s p H _ I h) λv s1 r=>Z8 r λE s2 L=>?_);let⟨it,P,Z,J,O,e,M,T,j,y,W,⟨Y,q⟩,d⟩:=L;subst e;show OF c S B G k M T j y q d ?_;ext D C U m R F z w u t a N i;show⟨m,t,λh' f=>⟨.ref D,upd F D (.lst z),?_,rfl,i D N⟩⟩;apply(w.abh).turned (λb o n e=>f.extBut b o n e) a.1 a.2.1 a.2.2.2.1 a.2.2.2.2.1 a.2.2.2.2.2
def Zfd{y:bJ}{w c:g6}(GF:X.N.Nodup)(M:X.N[i]?=aA y)(d:X.env.scope.names.lookup y=aA .local)(f:X.calm=aD)(Z:A8 X Eu iter Ke)(S:f_ X.N X.env.scope scope own fr ix)
  (Gz:∀cl C s H ex,CY (MT X (own++fr) scope cl C s H ex) Eu g) (ht:∀cl C s H ex,AF (MT X (own++fr) scope cl C s H ex) ifs tt) (z:∀cl C s H ex,JY (MT X (own++fr) scope cl C s H ex) elt JN)
  (p:gO (.ListComp elt [⟨Eu,iter,ifs,0⟩] scope pos) (aA (.Name y w)) c.line X.env=pure aD|>On)
  (hs:∀x,cw iter X.env x=pure x:=by ext _;rfl):AV X (.Assign [.Name y w] (.ListComp elt [⟨Eu,iter,ifs,0⟩] scope pos) c) (J0 (MZ (la own) ix Ke g tt JN) (IM i)):=by
 ext A s E H D0 I h;rw[exec_Assign_Name_used _ _ _ _ p];show aE (p6 (aE ?_))
 show aE (bq (mZ rfl hs (Sr (S.uD I)) S.kind S.names
  (Z8 (Z A s E H _ I h) λv s1 G=>Z8 G λab1 s2 Md=>?_)) (λ_ R U=>aM (aM U)) λ_ _ e=>e)
 let⟨it,Gh,EB,J,H2,e,I2,T,r,Q,W,⟨m0,F⟩,j⟩:=Md;subst e;show OF f S Gz ht z I2 T r Q F j ?_;ext D C u m R H' Y N n L a nD q;show wpAny_assign_Name (UX N GF M (.inl d) (v:=.ref D) rfl (λabr t=>?_) (.inr d));let⟨P,_⟩:=t.pin (C,u) (bA _ (bA _ ar));let⟨JR,Gi,ep,k,O⟩:=L;rw[n] at k;cases k;show⟨m,⟨u,Gi,ep,P,O⟩,λh' l=>⟨_,upd H' D (.lst Y),?_,q D nD⟩⟩;apply(t.abh).turned (λb o B e=>l.extBut b o B e) a.1 a.2.1 a.2.2.2.1 a.2.2.2.2.1 a.2.2.2.2.2
end
open AutoSeq1 (wpAny_loadPart')
section
variable {prog:bO} {w:bX} {A:bg} {E:Gu} {s:aR}
def Rf(a:s.heap.IsTupleIter it l i)
  (h:s.heap.IsTuple l items) (f:items[i]?=aA x)
  (j:∀h',h'.IsTupleIter it l (i+1)->dD it s.heap h'->Q x { s with heap:=h' }) :
  az (model prog w) A (mD (.ref it)) Q E s:=by
 let⟨o,c,g,b⟩:=id a;let⟨k,e,_,m,d⟩:=h
 show aE (cE a.typeIs F.slot_tuple_iterator_next
  (bu F.slot_tuple_iterator_next a.typeIs F.entry_tuple_iterator_next ?_ (F.args_tuple_iterator_next_1 _)))
 change az _ _ (field (.ref it) 0 >>= _) _ _ s;show aE (cY c b rfl ?_);show aE (cY c b rfl ?_);show aE (eZ e d ?_);dsimp[dk,f];show aE (fM c b ⋯ (aM ⟨x,rfl,aM (j _ ?_ (dE ..))⟩));apply⟨_,cS _ c (eV (cM b _)),(gm ..).trans g,by rw[cM b];simp[fJ]⟩
def Qk(g:A.handled=aB)
  (a:s.heap.IsTupleIter it l i) (k:s.heap.IsTuple l items) (h:items[i]?=aB)
  (j:∀h' e,mL it s.heap h'->(∃o,h'.get? e=aA o/\o.cls = .type "StopIteration")->E (.ref e) { s with heap:=h' }) :
  az (model prog w) A (mD (.ref it)) Q E s:=by
 let⟨o,f,q,b⟩:=id a;let⟨n,d,_,p,c⟩:=k
 show aE (cE a.typeIs F.slot_tuple_iterator_next
  (bu F.slot_tuple_iterator_next a.typeIs F.entry_tuple_iterator_next ?_ (F.args_tuple_iterator_next_1 _)))
 change az _ _ (field (.ref it) 0 >>= _) _ _ s;show aE (cY f b rfl ?_);show aE (cY f b rfl ?_);show aE (eZ d c ?_);dsimp[dk,h];show aE (l9 (aE (fM f b ⋯ ?_)));show aE ?_;show aE (m:=oh _ _) (mM rfl ?_);show cA ?_ (by size_fits);show aE (ph ?_)
 first | rw[g] | rw[g]
 show aE (aM (rY ?_));apply j _ _ (((dE ..).extBut.push _).push _) ⟨_,aX _ rfl,rfl⟩
end
def MA(b:Bool)(h:bp)(a:aP)(Av:GD):Prop:=if b=aD then h.IsList a Av else h.IsTuple a Av
def J8(b:Bool)(h:bp)(it a:aP)(i:Nat):Prop:=if b=aD then h.IsListIter it a i else h.IsTupleIter it a i
def Mr(b:Bool)(K:aG)(H:Hp)(a:aP)(xs:List V):Prop:=if b=aD then EJ K H a xs else CG K H a xs
def Dp(b:Bool)(a:aP):fE:={ cls:=.type (if b=aD then "list_iterator" else "tuple_iterator"),data:=.fields #[.ref a,.int 0 0] }
def MA.at(x:MA b h a Av)(k:∀o,h.get? a=aA o->h'.get? a=aA o):MA b h' a Av:=by
 cases b with
 | true=>let⟨o,e,r⟩:=(x);apply⟨o,k o e,r⟩
 | false=>let⟨o,e,r⟩:=(x);apply⟨o,k o e,r⟩
def MA.has(x:MA b h a Av):∃o,h.get? a=aA o:=by
 cases b with
 | true=>let⟨o,e,r⟩:=(x);apply⟨o,e⟩
 | false=>let⟨o,e,r⟩:=(x);apply⟨o,e⟩
def J8.at(x:J8 b h it a i)(k:∀o,h.get? it=aA o->h'.get? it=aA o):J8 b h' it a i:=by
 cases b with
 | true=>let⟨o,e,r⟩:=(x);apply⟨o,k o e,r⟩
 | false=>let⟨o,e,r⟩:=(x);apply⟨o,k o e,r⟩
def J8.has(x:J8 b h it a i):∃o,h.get? it=aA o/\∀v,o.data≠.cell v:=by
 cases b with
 | true=>let⟨o,e,_,d⟩:=(x);apply⟨o,e,λv z=>by rw[d] at z;cases z⟩
 | false=>let⟨o,e,_,d⟩:=(x);apply⟨o,e,λv z=>by rw[d] at z;cases z⟩
def J8.new(e:h.get? it=aA (Dp b a)):J8 b h it a 0:=by
 cases b with
 | true=>apply⟨_,e,rfl,rfl⟩
 | false=>apply⟨_,e,rfl,rfl⟩
section
variable {X:Cx} {N5:JK} {σ:St} {H:Hp} {s:aR} {a:aP} {xs L9:List V} {b:Bool}
theorem Inv.CM(I:Inv X N5 σ H s)(h:Mr b X.K H a xs):∃c:List aI,Gp xs c/\MA b s.heap a c.toArray/\la xs<=sizeLine:=by
 cases b with
 | true=>
  let⟨c,r,p,z⟩:=I.list (h);apply⟨c,r,p.isList,z⟩
 | false=>
  let⟨c,r,p,z⟩:=I.tuple (h);apply⟨c,r,p,z⟩
def Inv.mG(I:Inv X N5 σ H s)(h:Mr b X.K H a xs)(h':Mr b X.K H a L9):xs=L9:=by
 cases b with
 | true=>apply I.acd (h) (h')
 | false=>apply I.ace (h) (h')
end
def Draws.seq(b:Bool)(j:A.handled=aB)(it l:aP)(f:l≠it)(a:GD) :
  Draws prog w A it [it,l] a.size (λi v=>a[i]?=aA v) (λi h=>J8 b h it l i/\MA b h l a) where
 live:=λ_ _ st=>let⟨o,p,_⟩:=st.1.has;⟨o,p⟩
 frame:=λ_ _ _ st n=>⟨st.1.at λo e=>n it ⋯ o e,st.2.at λo e=>n l ⋯ o e⟩
 item:=λi s Q E g st m=>by
  cases b with
  | true=>
   show wpAny_nextOf_list_item (st.1) (st.2) (x:=a[i]) (by simp[g]) λh' d c=>?_;apply m _ h' s.toks (by simp[g]) ⟨d,st.2.at λo e=>c.extBut l o f e⟩ c
  | false=>
   show Rf (st.1) (st.2) (x:=a[i]) (by simp[g]) λh' d c=>?_;apply m _ h' s.toks (by simp[g]) ⟨d,st.2.at λo e=>c.extBut l o f e⟩ c
 done:=λs Q E st k=>by
  cases b with
  | true=>apply wpAny_nextOf_list_end j (st.1) (st.2) ⋯ k
  | false=>apply Qk j (st.1) (st.2) ⋯ k
def Ym(h:MA b s.heap a Av)
  (c:Q (.ref s.heap.objs.size) { s with heap:=s.heap.push (Dp b a) }):az (model prog w) A (nM (.ref a)) Q E s:=by
 cases b with
 | true=>apply wpAny_pyIter_list (h) c
 | false=>apply lW (h) c
def OG(b:Bool)(l:aP)(a:GD) :
  Meets (kM.«enumerate.__new__» ⟨[.type "enumerate",.ref l],[]⟩) (λ_ R s=>MA b s.heap l a/\
   R (.ok (.ret (.ref (s.heap.push (Dp b l)).objs.size)))
    { s with heap:=(s.heap.push (Dp b l)).push { cls:=.type "enumerate",data:=.fields #[.none,.bool aC,.ref s.heap.objs.size,fJ 0,.none,.none] } }):=
 .of_wp λprog w A R s h=>by
  let⟨k,g,d,tk,os⟩:=s;let⟨i,h⟩:=h;let j:=sub_enumerate;let⟨o,e⟩:=i.has;let f:MA b (tK ⟨k,g,d,tk,os⟩) l a:=i
  wp_walk using lA e
  show wpAny_stack_any λst=>aM ?_;split
  ·rename_i c _ _ _ _ _;cases (c==jH "enumerate")
   ·wp_walk using lA e,Ym f
    apply⟨_,rfl,h⟩
   ·wp_walk using lA e,Ym f
    apply⟨_,rfl,h⟩
  ·wp_walk using lA e,Ym f
   apply⟨_,rfl,h⟩
section
variable {prog:bO} {w:bX} {A:bg} {E:Gu} {s:aR}
def US(e:MA b s.heap l items)
  (h:∀h',IsEnum h' (s.heap.objs.size+1) s.heap.objs.size 0 .none->J8 b h' s.heap.objs.size l 0->h'.objs.size=s.heap.objs.size+2->
   (∀b o,s.heap.get? b=aA o->h'.get? b=aA o)->Q (.ref (s.heap.objs.size+1)) { s with heap:=h' }) :
  az (model prog w) A (call (.type "enumerate") [.ref l]) Q E s:=by
 show callType_new F.called_enumerate rfl (F.typeCall_enumerate_1 _) (F.newCall_enumerate_1 _) (λa=>F.args_object_init_2 a _) F.entry_enumerate_new
  (OG b l items) ⟨e,?_⟩
 let d:(s.heap.push (Dp b l)).objs.size=s.heap.objs.size+1:=dH ..;rw[d]
 let c:IsEnum ((s.heap.push (Dp b l)).push
   { cls:=.type "enumerate",data:=.fields #[.none,.bool aC,.ref s.heap.objs.size,fJ 0,.none,.none] }) (s.heap.objs.size+1) s.heap.objs.size 0 .none:=by
  let:=aX (s.heap.push (Dp b l))
   (o:={ cls:=.type "enumerate",data:=.fields #[.none,.bool aC,.ref s.heap.objs.size,fJ 0,.none,.none] }) rfl
  rw[d] at this;apply this
 show⟨⟨_,c,rfl⟩,h _ c (J8.new (aH _ (aX _ rfl))) ⋯ λb o x=>aH _ (aH _ x)⟩
end
def Ite(b:Bool)(K:aG)(a:aP):It:=
  ⟨λi H=>∃xs x,Mr b K H a xs/\xs[i]?=aA x,
   λi H v H'=>∃p x,H p=aB/\v = .ref p/\H'=upd H p (.tup [.int i,x])/\∀xs,Mr b K H a xs->xs[i]?=aA x,
   λi H=>∃xs,Mr b K H a xs/\xs.length=i⟩
def um{w:bX}{K:aG}{W:Mk}{k:Nat}{pos:g6}(b:Bool)(a e it:aP)(L:e≠it) :
  Ki P w K (.Tuple W k pos) (Ite b K a) [e,it] e (λi h=>(∃r,IsEnum h e it i r)/\J8 b h it a i) where
 mem:=⋯
 obj:=λi h st c R=>by
  rcases aY.mp R with rfl | R
  ·let⟨⟨r,q⟩,_⟩:=st;apply⟨_,q,λv z=>by cases z⟩
  ·rw[aO.mp R];apply st.2.has
 keep:=λi h h' st O=>⟨let⟨r,q⟩:=st.1;⟨r,O e ⋯ _ q⟩,st.2.at λo q=>O it ⋯ o q⟩
 item:=by
  ext X hP hw hK R i N5 s σ H E I N st Gz;subst hP hw hK;let⟨xs,x,hq,hx⟩:=Gz;let⟨S,rv,p,hz⟩:=I.CM hq;let⟨u,Ax,ru⟩:=rv.get hx;let⟨⟨r,F⟩,l⟩:=st;let fe:=N e ⋯;let fi:=N it ⋯;let⟨oa,G⟩:=p.has
  -- AA sequence is xD record
  let j:∀c,Il X N5 H c->(∃Cp,s.heap.get? c=aA Cp/\∃n vs,Cp.cls = .type n/\Cp.data = .fields vs)->a≠c:=by
   ext c _ ⟨Cp,vX,n,vs,Ay,Ey⟩ z;subst z;rw[G] at vX;cases vX
   cases b with
   | true=>let⟨o,C,_,m,d⟩:=(p);rw[G] at C;cases C;rw[Ey] at d;cases d
   | false=>let⟨o,C,_,m,d⟩:=(p);rw[G] at C;cases C;rw[Ey] at d;cases d
  let ae:=j e fe ⟨_,F,_,_,rfl,rfl⟩
  let ai:=j it fi (by
   cases b with
   | true=>let⟨o,C,c1,d1⟩:=(l);apply⟨o,C,_,_,c1,d1⟩
   | false=>let⟨o,C,c1,d1⟩:=(l);apply⟨o,C,_,_,c1,d1⟩)
  let D:=Draws.seq (prog:=X.prog) (w:=X.w) (A:=X.A.in1) b (I.ok.hd R) it a ai S.toArray;let vY:i<S.toArray.size:=by let:=(aQ.mp Ax).1;simpa using this
  show wpAny_pyNext_enum_itemD D F ⟨l,p⟩ vY L (by simp[L,bU ae]) λy h' tk wz ho hs' hT yN hk=>?_
  let ey:y=u:=by
   let q1:=wz;let aah:S.toArray[i]?=aA u:=by simpa using Ax
   rw[q1] at aah;apply bM aah
  subst ey;show⟨_,rfl,wpAny_letOwnedTupleGo_enum ho λZ he2 J=>?_⟩;let Tne:=gL (aV F);let t:=I.L5.fresh (aU _);let O:∀c o,c∉[e,it]->s.heap.get? c=aA o->Z.get? c=aA o:=λc o g q=>J.extBut c o (λz=>g (by simp[z])) (hk c o (λz=>g (by simp[z])) (λz=>g (by simp[z])) q);let L':=J.extBut _ _ Tne hT;let hcs:∀c∈[e,it],(c∈X.ex\/X.s₀.heap.objs.size<=c)/\c≠X.env.locals/\(∀x d,X.env.cells.lookup x=aA d->d≠c)/\∀p∈X.GG++N5,p.1≠c:=λc g=>by let f:=N c g;apply⟨f.2.2.2.1,f.2.1,f.2.2.2.2.1,f.2.2.2.2.2⟩
  let Fk:∀c M,H c=aA M->c∉[e,it]:=λc M q g=>by rw[(N c g).1] at q;cases q
  let Y:=λc M q=>(I.L5 c M q).EC (λd v hd EE=>O d v (by
    rcases hd with z | z
    ·rw[z];apply Fk c M q
    ·apply Fk d _ z) EE) (λ_ z=>z) (λ_ _ z=>z) λ_ _ z=>z
  let new:J6 X.prog X.w (upd H s.heap.objs.size (.tup [.int i,x])) Z s.heap.objs.size (.tup [.int i,x]):=
   ⟨⟨by change 2<=sizeLine;decide,λo e=>by rw[L'] at e;cases e;rfl⟩,[.int i tk,y],.cons ⟨tk,rfl⟩ (.cons ru .nil),⟨_,L',rfl,_,rfl⟩⟩
  let T:AX X.prog X.w (upd H s.heap.objs.size (.tup [.int i,x])) Z:=λc M q=>by
   by_cases Ck:c=s.heap.objs.size
   ·subst Ck;rw[bh] at q;cases q;apply new
   ·rw[a_ Ck] at q;apply(Y c M q).EC (λd v _ EE=>EE) (λd z=>by rw[a_ (Zk z t)];apply z) (λd zs z=>by rw[a_ (Zk z t)];apply z) λd u z=>by rw[a_ (Zk z t)];apply z
  let un:Au (Mu X.stack) [e,it] H (upd H s.heap.objs.size (.tup [.int i,x])) s.heap Z:=by
   show⟨λc o q _ _ B=>O c o B q,λc o q _ _ B=>⟨o.slots,O c o B q⟩,λc o q n _=>?_,λc o q B=>⟨o,O c o B q⟩,λc zs q=>?_,λc o zs q=>?_,λc ps q=>⟨#[],?_⟩⟩
   ·rw[a_ (bC (aV q))];apply n
   ·rw[a_ (Zk q t)];apply q
   ·rw[a_ (Zk q t)];apply q
   ·rw[a_ (Zk q t),q];simp
  let I2:Inv X N5 σ (upd H s.heap.objs.size (.tup [.int i,x])) { s with heap:=Z,toks:=tk+1 }:=I.call un T I.bare hcs;show⟨.ref s.heap.objs.size,upd H s.heap.objs.size (.tup [.int i,x]),I2,rfl,⟨_,x,t,rfl,rfl,λzs wx=>by rw[I.mG wx hq];apply hx⟩,⟨⟨y,by simpa using he2⟩,?_⟩,λc g=>?_⟩
  ·apply hs'.1.at λo q=>J.extBut it o (bU L) q
  ·rw[a_ (bC (by
    rcases aY.mp g with rfl | g
    ·apply aV F
    ·rw[aO.mp g];let⟨o,q,_⟩:=l.has;apply aV q))]
   apply(N c g).1
 done:=by
  ext X hP hw hK R i N5 s σ H E I N st Gz;subst hP hw hK;let⟨xs,hq,hx⟩:=Gz;let⟨S,rv,p,hz⟩:=I.CM hq;let⟨⟨r,F⟩,l⟩:=st;let fi:=N it ⋯
  let ai:a≠it:=λz=>by
   subst z
   cases b with
   | true=>
    let⟨o,C,_,m,d⟩:=(p);let⟨JR,U,_,d2⟩:=(l);rw[C] at U;cases U;rw[d] at d2;cases d2
   | false=>
    let⟨o,C,_,m,d⟩:=(p);let⟨JR,U,_,d2⟩:=(l);rw[C] at U;cases U;rw[d] at d2;cases d2
  let D:=Draws.seq (prog:=X.prog) (w:=X.w) (A:=X.A.in1) b (I.ok.hd R) it a ai S.toArray;let Kb:=rv.length;let N9:i=S.toArray.size:=by simp;lia
  show wpAny_pyNext_enum_endD D F (by rw[<-N9];apply⟨l,p⟩) λh' B=>⟨rfl,?_⟩;let⟨f0,f1,f2,f3,f4,f5⟩:=fi;apply I.turned (λc o Ck q=>B c o Ck q) f0 f1 f3 f4 f5
 self:=λA i s Q E st hQ=>by let⟨⟨r,F⟩,_⟩:=st;apply wpAny_pyIter_enum F hQ
end _l
namespace _l
open PySem PySem.Spec PyProof.Rows
section
variable {X:Cx}
def Ek(b:Bool)(K:aG)(Et:Az):TI:=λσ H R=>Et σ H λvs H1=>∃a,vs=[.ref a]/\(∃xs,Mr b K H1 a xs)/\R (Ite b K a) H1
def Zfe(b:Bool)(v:Gl X "enumerate")(t:X.mg "enumerate" = aB)(w:MY X [a] Et)(hs:aN [a] X.env=[(aC,eval a X.env)]|>On) :
  A8 X (.Tuple elts k yt) (.Call (.Name "enumerate" p) [a] [] pos) (Ek b X.K Et):=by
 ext l s m H R I h;show sy (Xv I v t rfl (cJ (Z8 (w pos l s m H _ I h) λB s1 ⟨vs,A,d,n,u⟩=>?_) hs rfl));let⟨a,e,⟨xs,o⟩,q⟩:=u;subst e
 cases n with
 | cons r Mn=>
  cases Mn;cases r;let⟨E,D,f,C⟩:=d.CM o;show US f λh' j i x y=>?_;show wpAny_pyIter_enum j ?_;let z:=d.kept (t':=s1.toks) y;let ne:s1.heap.objs.size+1≠s1.heap.objs.size:=gL (iK _);show⟨s1.heap.objs.size+1,[s1.heap.objs.size+1,s1.heap.objs.size],_,_,A,rfl,z,um b a (s1.heap.objs.size+1) s1.heap.objs.size ne,⟨⟨.none,j⟩,i⟩,λc g=>?_,q⟩;rcases aY.mp g with rfl | g
  ·apply d.aa4 (kg _) (d.L5.fresh (kg _))
  ·rw[aO.mp g];apply d.aa4 (aU _) (d.L5.fresh (aU _))
end
section
variable {prog:bO} {w:bX} {A:bg} {E:Gu} {s:aR}
structure M0(z TI TO i1 i2:aP)(vp vn:Gs):Prop where
 TIz:TI≠z
 TOz:TO≠z
 i1z:i1≠z
 i2z:i2≠z
 TITO:TI≠TO
 TIi1:TI≠i1
 TIi2:TI≠i2
 TOi1:TO≠i1
 TOi2:TO≠i2
 i12:i1≠i2
 z1:z∉vp
 TO1:TO∉vp
 i21:i2∉vp
 z2:z∉vn
 zU:TO∉vn
 wu:i1∉vn
def c7{z TI TO i1 Z:aP}{vp vn:Gs}{n1 n2 k:Nat}{P1 P2:Lm}{S O:N_}{a b:aI}{Q:Gu}(D:M0 z TI TO i1 Z vp vn)
  (D1:Draws prog w A i1 vp n1 P1 S) (D2:Draws prog w A Z vn n2 P2 O)
  (hz:oF s.heap z TI TO .none) (hTI:jL s.heap TI (.ref i1) (.ref Z)) (hTO:jL s.heap TO a b)
  (Es:S k s.heap) (Md:O k s.heap) (hx:k<n1) (hy:k<n2)
  (hQ:∀x y h' tk,P1 k x->P2 k y->oF h' z TI TO (fJ s.heap.objs.size)->jL h' TO x y->S (k+1) h'->O (k+1) h'->jL h' s.heap.objs.size x y->h'.objs.size=s.heap.objs.size+1->
   (∀c o,c≠z->c≠TO->c≠i1->c≠Z->s.heap.get? c=aA o->h'.get? c=aA o)->Q (.ref s.heap.objs.size) { s with heap:=h',toks:=tk }) :
  az (model prog w) A (kM.«zip.__next__» ⟨[.ref z],[]⟩) (λfin Aq=>∃v,fin = .done (.ret v)/\Q v Aq) E s:=by
 change az _ _ (field (.ref z) 2 >>= _) _ _ _;show aE (cY hz rfl rfl ?_);show aE (cY hz rfl rfl ?_);show aE (eZ hTI rfl ?_);show aE ?_;show aE (cY hz rfl rfl (aM ?_));show aE (l9 ?_);show aE (cY hz rfl rfl ?_);show aE (gV hz ⋯ λh₁ p l=>?_)
 replace p:oF h₁ z TI TO .ellipsis:=p
 show aE ?_;show aE (aE (k8 ?_));let st1:=D1.frame _ _ _ Es λc u o e=>l.extBut c o (λq=>D.z1 (q▸u)) e;show aE (D1.item k _ _ _ hx st1 λx M tk₂ xJ U h=>aM ?_)
 replace h:dD i1 h₁ M:=h
 let G:=h.extBut _ _ D.TOi1 (l.extBut _ _ D.TOz hTO);show aE (eZ G rfl ?_);show aE (kh G λI n d=>?_)
 replace n:jL I TO x b:=n
 replace d:dD TO M I:=d
 show aE (kC (aM ?_));show aE (aE (k8 ?_));let xt:=D2.frame _ _ _ Md λc u o e=>d.extBut c o (λq=>D.zU (q▸u)) (h.extBut c o (λq=>D.wu (q▸u)) (l.extBut c o (λq=>D.z2 (q▸u)) e));show aE (D2.item k _ _ _ hy xt λy N T wz P g=>aM ?_)
 replace g:dD Z I N:=g
 let F:=g.extBut _ _ D.TOi2 n;show aE (eZ F rfl ?_);show aE (kh F λi j f=>?_)
 replace j:jL i TO x y:=j
 replace f:dD TO N i:=f
 show aE (kC (aM (aM ?_)));show aE (eZ j rfl ?_);show aE (wpAny_newTuple ?_);let yN:i.objs.size=s.heap.objs.size:=by rw[f.1,g.1,d.1,h.1,l.1]
 let H:=f.extBut _ _ D.TOz.symm (g.extBut _ _ D.i2z.symm (d.extBut _ _ D.TOz.symm (h.extBut _ _ D.i1z.symm p)))
 let R:∀c o,c≠z->c≠TO->c≠i1->c≠Z->s.heap.get? c=aA o->i.get? c=aA o:=λc o c1 c2 c3 c4 e=>
  f.extBut _ _ c2 (g.extBut _ _ c4 (d.extBut _ _ c2 (h.extBut _ _ c3 (l.extBut _ _ c1 e))))
 let Y:=D1.frame _ _ _ U λc u o e=>f.extBut c o (λq=>D.TO1 (q▸u)) (g.extBut c o (λq=>D.i21 (q▸u)) (d.extBut c o (λq=>D.TO1 (q▸u)) e));let X:=D2.frame _ _ _ P λc u o e=>f.extBut c o (λq=>D.zU (q▸u)) e;let L:=aV H;show aE ?_;let W:oF (i.push { cls:=.type "tuple",data:=.seq #[x,y] }) z TI TO .ellipsis:=aH _ H;show aE (gV W ⋯ λh₇ t r=>?_)
 replace t:oF h₇ z TI TO (fJ i.objs.size):=t
 show gV t ⋯ λC m B=>?_
 replace m:oF C z TI TO (fJ i.objs.size):=m
 let up:∀c o,c≠z->i.get? c=aA o->C.get? c=aA o:=λc o c1 e=>B.extBut _ _ c1 (r.extBut _ _ c1 (aH _ e));let J:=B.extBut _ _ (gL L) (r.extBut _ _ (gL L) (aX _ rfl));let Gc:C.objs.size=i.objs.size+1:=by rw[B.1,r.1,dH]
 rw[yN] at m J Gc;show aM ⟨_,rfl,?_⟩;rw[yN];apply hQ x y C T xJ wz m (up _ _ D.TOz j) (D1.frame _ _ _ Y λc u o e=>up c o (λq=>D.z1 (q▸u)) e) (D2.frame _ _ _ X λc u o e=>up c o (λq=>D.z2 (q▸u)) e) J Gc λc o c1 c2 c3 c4 e=>up c o c1 (R c o c1 c2 c3 c4 e)
def Zff{z TI TO F G:aP}{H O:Gs}{W n2 k:Nat}{P1 P2:Lm}{M P:N_}{a b:aI}{Q:PySem.Fin->aR->Prop}(D:M0 z TI TO F G H O)
  (Y:Draws prog w A F H W P1 M) (D2:Draws prog w A G O n2 P2 P)
  (I:oF s.heap z TI TO .none) (Z:jL s.heap TI (.ref F) (.ref G)) (U:jL s.heap TO a b)
  (Es:M k s.heap) (Md:P k s.heap) (L:k=W\/(k<W/\k=n2))
  (hE:∀h' tk e,(∀c o,c≠z->c≠TO->c≠F->c≠G->s.heap.get? c=aA o->h'.get? c=aA o)->(∃o,h'.get? e=aA o/\o.cls = .type "StopIteration")->E (.ref e) { s with heap:=h',toks:=tk }) :
  az (model prog w) A (kM.«zip.__next__» ⟨[.ref z],[]⟩) Q E s:=by
 change az _ _ (field (.ref z) 2 >>= _) _ _ _;show aE (cY I rfl rfl ?_);show aE (cY I rfl rfl ?_);show aE (eZ Z rfl ?_);show aE ?_;show aE (cY I rfl rfl (aM ?_));show aE (l9 ?_);show aE (cY I rfl rfl ?_);show aE (gV I ⋯ λh₁ j g=>?_)
 replace j:oF h₁ z TI TO .ellipsis:=j
 replace g:dD z s.heap h₁:=g
 show aE ?_;show aE (aE (k8 ?_));let B:=Y.frame _ _ _ Es λc J o e=>g.extBut c o (λq=>D.z1 (q▸J)) e;rcases L with X | ⟨hx,X⟩
 ·rw[X] at B;show aE (Y.done _ _ _ B λm e d S=>?_)
  replace d:mL F h₁ m:=d
  let⟨oe,n,u⟩:=S;let r:=d _ _ D.i1z.symm j;let C:e≠z:=λx=>by subst x;rw[r] at n;cases n;simp at u
  show gV r ⋯ λl _ f=>?_
  replace f:dD z m l:=f
  apply hE l _ e (λc o c1 _ c3 _ x=>f.extBut _ _ c1 (d _ _ c3 (g.extBut _ _ c1 x))) ⟨oe,f.extBut _ _ C n,u⟩
 ·show aE (Y.item k _ _ _ hx B λx m tk₂ xJ T d=>aM ?_)
  replace d:dD F h₁ m:=d
  let p:=d.extBut _ _ D.TOi1 (g.extBut _ _ D.TOz U);show aE (eZ p rfl ?_);show aE (kh p λl R f=>?_)
  replace f:dD TO m l:=f
  show aE (kC (aM ?_));show aE (aE (k8 ?_));let N:=D2.frame _ _ _ Md λc J o e=>f.extBut c o (λq=>D.zU (q▸J)) (d.extBut c o (λq=>D.wu (q▸J)) (g.extBut c o (λq=>D.z2 (q▸J)) e));rw[X] at N;show aE (D2.done _ _ _ N λv e i S=>?_)
  replace i:mL G l v:=i
  let⟨oe,n,u⟩:=S;let t:=i _ _ D.i2z.symm (f.extBut _ _ D.TOz.symm (d.extBut _ _ D.i1z.symm j));let C:e≠z:=λx=>by subst x;rw[t] at n;cases n;simp at u
  show gV t ⋯ λy _ h=>?_
  replace h:dD z v y:=h
  apply hE y _ e (λc o c1 c2 c3 c4 x=>h.extBut _ _ c1 (i _ _ c4 (f.extBut _ _ c2 (d.extBut _ _ c3 (g.extBut _ _ c1 x))))) ⟨oe,h.extBut _ _ C n,u⟩
def PM{z TI TO i h:aP}{f g:Gs}{r t k:Nat}{m q:Lm}{d e:N_}{a b:aI}{Q:Option aI->aR->Prop}(D:M0 z TI TO i h f g)
  (O:Draws prog w A.in1 i f r m d) (R:Draws prog w A.in1 h g t q e)
  (n:oF s.heap z TI TO .none) (l:jL s.heap TI (.ref i) (.ref h)) (j:jL s.heap TO a b)
  (B:d k s.heap) (P:e k s.heap) (J:k<r) (G:k<t)
  (L:∀x y h' tk,m k x->q k y->oF h' z TI TO (fJ s.heap.objs.size)->jL h' TO x y->d (k+1) h'->e (k+1) h'->jL h' s.heap.objs.size x y->h'.objs.size=s.heap.objs.size+1->
   (∀c o,c≠z->c≠TO->c≠i->c≠h->s.heap.get? c=aA o->h'.get? c=aA o)->Q (aA (.ref s.heap.objs.size)) { s with heap:=h',toks:=tk }) :
  az (model prog w) A (kY (.ref z)) Q E s:=by
 let p:s.TypeIs (.ref z) "zip":=⟨_,n,rfl⟩
 apply aE (ik (cE p F.slot_zip_next
  (bu F.slot_zip_next p F.entry_zip_next
   (c7 D O R n l j B P J G λx y h' tk S p2 H C u N I M v=>aM (L x y h' tk S p2 H C u N I M v)) (F.args_zip_next_1 _))))
def OH{z TI TO l j:aP}{d h:Gs}{n t k:Nat}{v C:Lm}{g i:N_}{a b:aI}{Q:Option aI->aR->Prop}(D:M0 z TI TO l j d h)
  (I:Draws prog w A.in1 l d n v g) (L:Draws prog w A.in1 j h t C i)
  (q:oF s.heap z TI TO .none) (p:jL s.heap TI (.ref l) (.ref j)) (m:jL s.heap TO a b)
  (x:g k s.heap) (J:i k s.heap) (f:k=n\/(k<n/\k=t))
  (G:∀h' tk,(∀c o,c≠z->c≠TO->c≠l->c≠j->s.heap.get? c=aA o->h'.get? c=aA o)->Q aB { s with heap:=h',toks:=tk }):az (model prog w) A (kY (.ref z)) Q E s:=by
 let r:s.TypeIs (.ref z) "zip":=⟨_,q,rfl⟩
 show aE (ik (cE r F.slot_zip_next
  (bu F.slot_zip_next r F.entry_zip_next (Zff D I L q p m x J f λh' tk e H u=>?_) (F.args_zip_next_1 _))))
 let⟨o,B,y⟩:=u;show aE (kZ ⟨o,B,y⟩ oj ?_);apply aM (G _ tk H)
end
abbrev xi(h:bp)(b1:Bool)(l1:aP):bp:=h.push (Dp b1 l1)
abbrev xh(h:bp)(b1 b2:Bool)(l1 l2:aP):bp:=(xi h b1 l1).push (Dp b2 l2)
abbrev xg(h:bp)(b1 b2:Bool)(l1 l2:aP):bp:=(xh h b1 b2 l1 l2).push { cls:=.type "tuple",data:=.seq #[.ref h.objs.size,.ref (xi h b1 l1).objs.size] }
abbrev xf(h:bp)(b1 b2:Bool)(l1 l2:aP):bp:=(xg h b1 b2 l1 l2).push { cls:=.type "tuple",data:=.seq #[.none,.none] }
abbrev uW(h:bp)(b1 b2:Bool)(l1 l2:aP):bp:=(xf h b1 b2 l1 l2).push { cls:=.type "zip",data:=.fields #[.none,.bool aC,.bool aC,.ref (xh h b1 b2 l1 l2).objs.size,.ref (xg h b1 b2 l1 l2).objs.size] }
def oS(b1 c:Bool)(a b:aP)(xs l:GD) :
  Meets (kM.«zip.__new__» ⟨[.type "zip",.ref a,.ref b],[]⟩) (λ_ R s=>MA b1 s.heap a xs/\MA c s.heap b l/\
   R (.ok (.ret (.ref (xf s.heap b1 c a b).objs.size))) { s with heap:=uW s.heap b1 c a b }):=
 .of_wp λprog w A R s h=>by
  let⟨n,g,d,tk,os⟩:=s;let⟨i,k,h⟩:=h;let m:=sub_zip;let f:=i;let j:MA c (tK ⟨n.push (Dp b1 a),g,d,tk,os⟩) b l:=k.at λo e=>aH _ e
  wp_walk using Ym f,Ym j
  apply⟨_,rfl,h⟩
section
variable {prog:bO} {w:bX} {A:bg} {E:Gu} {s:aR}
def gN(e:MA b1 s.heap l1 xs)(b:MA b2 s.heap l2 L9)
  (h:∀h',oF h' (s.heap.objs.size+4) (s.heap.objs.size+2) (s.heap.objs.size+3) .none->jL h' (s.heap.objs.size+2) (.ref s.heap.objs.size) (.ref (s.heap.objs.size+1))->
   jL h' (s.heap.objs.size+3) .none .none->J8 b1 h' s.heap.objs.size l1 0->J8 b2 h' (s.heap.objs.size+1) l2 0->h'.objs.size=s.heap.objs.size+5->
   (∀c o,s.heap.get? c=aA o->h'.get? c=aA o)->Q (.ref (s.heap.objs.size+4)) { s with heap:=h' }) :
  az (model prog w) A (call (.type "zip") [.ref l1,.ref l2]) Q E s:=by
 show callType_new F.called_zip rfl (F.typeCall_zip_2 _ _) (F.newCall_zip_2 _ _) (λa=>F.args_object_init_3 a _ _) F.entry_zip_new
  (oS b1 b2 l1 l2 xs L9) ⟨e,b,?_⟩
 let z1:(xi s.heap b1 l1).objs.size=s.heap.objs.size+1:=dH ..;let z2:(xh s.heap b1 b2 l1 l2).objs.size=s.heap.objs.size+2:=by rw[dH,z1]
 let z3:(xg s.heap b1 b2 l1 l2).objs.size=s.heap.objs.size+3:=by rw[dH,z2]
 let z4:(xf s.heap b1 b2 l1 l2).objs.size=s.heap.objs.size+4:=by rw[dH,z3]
 let z5:(uW s.heap b1 b2 l1 l2).objs.size=s.heap.objs.size+5:=by rw[dH,z4]
 let d:(uW s.heap b1 b2 l1 l2).get? (xf s.heap b1 b2 l1 l2).objs.size=aA _:=aX _ rfl;let f:(uW s.heap b1 b2 l1 l2).get? (xg s.heap b1 b2 l1 l2).objs.size=aA _:=aH _ (aX _ rfl);let i:(uW s.heap b1 b2 l1 l2).get? (xh s.heap b1 b2 l1 l2).objs.size=aA _:=aH _ (aH _ (aX _ rfl));let g:(uW s.heap b1 b2 l1 l2).get? (xi s.heap b1 l1).objs.size=aA (Dp b2 l2):=aH _ (aH _ (aH _ (aX _ rfl)));let j:(uW s.heap b1 b2 l1 l2).get? s.heap.objs.size=aA (Dp b1 l1):=aH _ (aH _ (aH _ (aH _ (aX _ rfl))));rw[z2,z3,z4] at d;rw[z1,z2] at i;rw[z3] at f;rw[z1] at g;rw[z4]
 apply⟨⟨_,d,rfl⟩,h _ d i f (J8.new j) (J8.new g) z5 λc o x=>
  aH _ (aH _ (aH _ (aH _ (aH _ x))))⟩
end
def Inv.vd{t:JK}{E:St}{H:Hp}{s:aR}{l:Gs}{j:bp}{tk n:Nat}{y:Gr}{xs:List V}(I:Inv X t E H s)(C:∀b∈l,Il X t H b)
  (w:∀c o,c∉l->s.heap.get? c=aA o->j.get? c=aA o) (G:j.get? s.heap.objs.size=aA { cls:=.type "tuple",data:=.seq y.toArray n }) (M:Gp xs y) (L:la xs<=sizeLine) :
  Inv X t E (upd H s.heap.objs.size (.tup xs)) { s with heap:=j,toks:=tk }:=by
 let a:=I.L5.fresh (aU _);let A:∀c∈l,(c∈X.ex\/X.s₀.heap.objs.size<=c)/\c≠X.env.locals/\(∀x d,X.env.cells.lookup x=aA d->d≠c)/\∀p∈X.GG++t,p.1≠c:=λc h=>by let f:=C c h;apply⟨f.2.2.2.1,f.2.1,f.2.2.2.2.1,f.2.2.2.2.2⟩
 let m:∀c i,H c=aA i->c∉l:=λc i q h=>by rw[(C c h).1] at q;cases q
 let r:=λc i q=>(I.L5 c i q).EC (λd v J B=>w d v (by
   rcases J with z | z
   ·rw[z];apply m c i q
   ·apply m d _ z) B) (λ_ z=>z) (λ_ _ z=>z) λ_ _ z=>z
 let new:J6 X.prog X.w (upd H s.heap.objs.size (.tup xs)) j s.heap.objs.size (.tup xs):=
  ⟨⟨L,λo e=>by rw[G] at e;cases e;rfl⟩,y,M,⟨_,G,rfl,_,rfl⟩⟩
 let k:AX X.prog X.w (upd H s.heap.objs.size (.tup xs)) j:=λc i q=>by
  by_cases F:c=s.heap.objs.size
  ·subst F;rw[bh] at q;cases q;apply new
  ·rw[a_ F] at q;apply(r c i q).EC (λd v _ B=>B) (λd z=>by rw[a_ (Zk z a)];apply z) (λd D z=>by rw[a_ (Zk z a)];apply z) λd u z=>by rw[a_ (Zk z a)];apply z
 let un:Au (Mu X.stack) l H (upd H s.heap.objs.size (.tup xs)) s.heap j:=by
  show⟨λc o q _ _ g=>w c o g q,λc o q _ _ g=>⟨o.slots,w c o g q⟩,λc o q n _=>?_,λc o q g=>⟨o,w c o g q⟩,λc D q=>?_,λc o D q=>?_,λc ps q=>⟨#[],?_⟩⟩
  ·rw[a_ (bC (aV q))];apply n
  ·rw[a_ (Zk q a)];apply q
  ·rw[a_ (Zk q a)];apply q
  ·rw[a_ (Zk q a),q];simp
 apply I.call un k I.bare A
def Inv.uu{k:JK}{u:St}{H:Hp}{s:aR}{g:Gs}{r:bp}{tk:Nat}(I:Inv X k u H s)(t:∀b∈g,Il X k H b)
  (l:∀c o,c∉g->s.heap.get? c=aA o->r.get? c=aA o):Inv X k u H { s with heap:=r,toks:=tk }:=by
 let m:∀c∈g,(c∈X.ex\/X.s₀.heap.objs.size<=c)/\c≠X.env.locals/\(∀x d,X.env.cells.lookup x=aA d->d≠c)/\∀p∈X.GG++k,p.1≠c:=λc e=>by let f:=t c e;apply⟨f.2.2.2.1,f.2.1,f.2.2.2.2.1,f.2.2.2.2.2⟩
 let h:∀c j,H c=aA j->c∉g:=λc j q e=>by rw[(t c e).1] at q;cases q
 let i:=λc j q=>(I.L5 c j q).EC (λd v w A=>l d v (by
   rcases w with z | z
   ·rw[z];apply h c j q
   ·apply h d _ z) A) (λ_ z=>z) (λ_ _ z=>z) λ_ _ z=>z
 let un:Au (Mu X.stack) g H H s.heap r:=
  ⟨λc o q _ _ a=>l c o a q,λc o q _ _ a=>⟨o.slots,l c o a q⟩,λc o q n _=>n,λc o q a=>⟨o,l c o a q⟩,λc y q=>q,λc o y q=>q,λc ps q=>⟨#[],by rw[q];simp⟩⟩
 apply I.call un i I.bare m
def MA.gi(p:MA b h a Av)(e:h.get? c=aA o)(d:o.data = .fields vs):a≠c:=λz=>by
 subst z
 cases b with
 | true=>let⟨i,f,_,m,g⟩:=(p);rw[e] at f;cases f;rw[d] at g;cases g
 | false=>let⟨i,f,_,m,g⟩:=(p);rw[e] at f;cases f;rw[d] at g;cases g
def J8.rec(x:J8 b h it a i):∃o,h.get? it=aA o/\∃vs,o.data = .fields vs:=by
 cases b with
 | true=>let⟨o,e,_,d⟩:=(x);apply⟨o,e,_,d⟩
 | false=>let⟨o,e,_,d⟩:=(x);apply⟨o,e,_,d⟩
structure Zki(a1 a2 TO TI:aP):Prop where
 a:a1≠TO
 b:a2≠TO
 c:a1≠TI
 d:a2≠TI
def Itz(b1 b2:Bool)(K:aG)(a1 a2:aP):It:=
  ⟨λi H=>∃xs L9 x y,Mr b1 K H a1 xs/\Mr b2 K H a2 L9/\xs[i]?=aA x/\L9[i]?=aA y,
   λi H v H'=>∃p x y,H p=aB/\v = .ref p/\H'=upd H p (.tup [x,y])/\(∀xs,Mr b1 K H a1 xs->xs[i]?=aA x)/\∀L9,Mr b2 K H a2 L9->L9[i]?=aA y,
   λi H=>∃xs L9,Mr b1 K H a1 xs/\Mr b2 K H a2 L9/\(i=xs.length\/(i<xs.length/\i=L9.length))⟩
def hZ{w:bX}{K:aG}{elts:Mk}{k:Nat}{pos:g6}(b1 b2:Bool)(Z a2 z TI TO G F:aP)(d:[z,TI,TO,G,F].Nodup) :
  Ki P w K (.Tuple elts k pos) (Itz b1 b2 K Z a2) [z,TI,TO,G,F] z
   (λi h=>oF h z TI TO .none/\jL h TI (.ref G) (.ref F)/\(∃u v,jL h TO u v/\Zki Z a2 TO TI)/\J8 b1 h G Z i/\J8 b2 h F a2 i) where
 mem:=⋯
 obj:=λi h st c Y=>by
  let⟨t,b,⟨u,v,l,_⟩,U,N⟩:=st;dsimp[aY,dZ,or_false] at Y;rcases Y with rfl | rfl | rfl | rfl | rfl
  ·apply⟨_,t,λv q=>by cases q⟩
  ·apply⟨_,b,λv q=>by cases q⟩
  ·apply⟨_,l,λv q=>by cases q⟩
  ·apply U.has
  ·apply N.has
 keep:=λi h h' st kk=>by let⟨t,b,⟨u,v,l,f⟩,U,N⟩:=st;apply⟨kk z ⋯ _ t,kk TI ⋯ _ b,⟨u,v,kk TO ⋯ _ l,f⟩,U.at λo q=>kk G ⋯ o q,N.at λo q=>kk F ⋯ o q⟩
 item:=by
  ext X hP hw hK Y i N5 s σ H E I hf st Gz;subst hP hw hK;let⟨xs,L9,x,y,M,S,hx,hy⟩:=Gz;let⟨m,yF,O,hz1⟩:=I.CM M;let⟨g,yE,p2,hz2⟩:=I.CM S;let⟨u,Ax,ru⟩:=yF.get hx;let⟨v,Ey,rv⟩:=yE.get hy;let⟨t,b,⟨q1,aah,l,f⟩,U,N⟩:=st;let⟨o1,Mc,vs1,d1⟩:=U.rec;let⟨o2,e2,vs2,d2⟩:=N.rec;let A':=O.gi t rfl;let z9:=p2.gi t rfl;let Bl:=O.gi Mc d1;let Bb:=O.gi e2 d2;let A_:=p2.gi Mc d1;let z_:=p2.gi e2 d2;dsimp[av,aY,dZ,not_or,cI,and_true,not_false_eq_true] at d;let⟨⟨j,r,C,B⟩,⟨R,W,T⟩,⟨L,J⟩,p⟩:=d;let⟨f1,f2,f3,f4⟩:=f;let D:M0 z TI TO G F [G,Z] [F,a2]:=⟨bU j,bU r,bU C,bU B,R,W,T,L,J,p,by simp[C,bU A'],by simp[L,bU f1],by simp[bU p,bU Bb],by simp[B,bU z9],by simp[J,bU f2],by simp[p,bU A_]⟩;let D1:=Draws.seq (prog:=X.prog) (w:=X.w) (A:=X.A.in1) b1 (I.ok.hd Y) G Z Bl m.toArray;let D2:=Draws.seq (prog:=X.prog) (w:=X.w) (A:=X.A.in1) b2 (I.ok.hd Y) F a2 z_ g.toArray;let l1:i<m.toArray.size:=by simpa using(aQ.mp Ax).1
  let l2:i<g.toArray.size:=by simpa using(aQ.mp Ey).1
  show PM D D1 D2 t b l ⟨U,O⟩ ⟨N,p2⟩ l1 l2 λx' y' h' tk xJ wz c1 c2 c3 c4 c5 c6 hk=>?_
  let ab9:x'=u:=by
   let w1:=xJ;let aax:m.toArray[i]?=aA u:=by simpa using Ax
   rw[w1] at aax;apply bM aax
  let ey':y'=v:=by
   let w1:=wz;let aax:g.toArray[i]?=aA v:=by simpa using Ey
   rw[w1] at aax;apply bM aax
  subst ab9 ey';show⟨_,rfl,wpAny_letOwnedTupleGo_zip c1 λh3 hz3 n=>?_⟩
  replace n:dD z h' h3:=n
  let kk:∀c o,c∉[z,TI,TO,G,F]->s.heap.get? c=aA o->h3.get? c=aA o:=λc o a q=>
   n.extBut c o (λe=>a (by simp[e])) (hk c o (λe=>a (by simp[e])) (λe=>a (by simp[e])) (λe=>a (by simp[e])) (λe=>a (by simp[e])) q)
  let hTn:=I.L5.fresh (aU _);let hT3:=n.extBut _ _ (gL (aV t)) c5;let I2:=I.vd (tk:=tk) hf kk hT3 (.cons ru (.cons rv .nil)) (by change 2<=sizeLine;decide);show⟨.ref s.heap.objs.size,_,I2,rfl,⟨_,x,y,hTn,rfl,rfl,λzs wx=>by rw[I.mG wx M];apply hx,λzs wx=>by rw[I.mG wx S];apply hy⟩,⟨hz3,n.extBut _ _ (bU j) (hk _ _ (bU j) R W T b),⟨_,_,n.extBut _ _ (bU r) c2,f1,f2,f3,f4⟩,c3.1.at λo q=>n.extBut _ o (bU C) q,c4.1.at λo q=>n.extBut _ o (bU B) q⟩,λc a=>?_⟩;rw[a_ (bC ?_)]
  ·apply(hf c a).1
  ·dsimp[aY,dZ,or_false] at a;rcases a with rfl | rfl | rfl | rfl | rfl
   ·apply aV t
   ·apply aV b
   ·apply aV l
   ·apply aV Mc
   ·apply aV e2
 done:=by ext X hP hw hK Y i N5 s σ H E I hf st Gz;subst hP hw hK;let⟨xs,L9,M,S,hx⟩:=Gz;let⟨m,yF,O,hz1⟩:=I.CM M;let⟨g,yE,p2,hz2⟩:=I.CM S;let⟨t,b,⟨q1,aah,l,f⟩,U,N⟩:=st;let⟨o1,Mc,vs1,d1⟩:=U.rec;let⟨o2,e2,vs2,d2⟩:=N.rec;let A':=O.gi t rfl;let z9:=p2.gi t rfl;let Bl:=O.gi Mc d1;let Bb:=O.gi e2 d2;let A_:=p2.gi Mc d1;let z_:=p2.gi e2 d2;dsimp[av,aY,dZ,not_or,cI,and_true,not_false_eq_true] at d;let⟨⟨j,r,C,B⟩,⟨R,W,T⟩,⟨L,J⟩,p⟩:=d;let⟨f1,f2,f3,f4⟩:=f;let D:M0 z TI TO G F [G,Z] [F,a2]:=⟨bU j,bU r,bU C,bU B,R,W,T,L,J,p,by simp[C,bU A'],by simp[L,bU f1],by simp[bU p,bU Bb],by simp[B,bU z9],by simp[J,bU f2],by simp[p,bU A_]⟩;let D1:=Draws.seq (prog:=X.prog) (w:=X.w) (A:=X.A.in1) b1 (I.ok.hd Y) G Z Bl m.toArray;let D2:=Draws.seq (prog:=X.prog) (w:=X.w) (A:=X.A.in1) b2 (I.ok.hd Y) F a2 z_ g.toArray;let n1:=yF.length;let n2:=yE.length;show OH D D1 D2 t b l ⟨U,O⟩ ⟨N,p2⟩ (by dsimp[aT];lia) λh' tk hk=>⟨rfl,?_⟩;apply I.uu hf λc o a q=>hk c o (λe=>a (by simp[e])) (λe=>a (by simp[e])) (λe=>a (by simp[e])) (λe=>a (by simp[e])) q
 self:=λA i s Q E st hQ=>wpAny_pyIter_zip st.1 hQ
section
variable {X:Cx}
def Ca(b1 b2:Bool)(K:aG)(Et:Az):TI:=λσ H R=>Et σ H λvs H1=>∃a1 a2,vs=[.ref a1,.ref a2]/\(∃xs,Mr b1 K H1 a1 xs)/\(∃L9,Mr b2 K H1 a2 L9)/\R (Itz b1 b2 K a1 a2) H1
def Zkj{k:Nat}{g:g6}(b1 C:Bool){a b:bT}{x:Az}{p pos:g6}(P:Gl X "zip")(N:X.mg "zip" = aB)(Q:MY X [a,b] x)
  (hs:aN [a,b] X.env=[(aC,eval a X.env),(aC,eval b X.env)]|>On) (m:aN [b] X.env=[(aC,eval b X.env)]|>On) :
  A8 X (.Tuple elts k g) (.Call (.Name "zip" p) [a,b] [] pos) (Ca b1 C X.K x):=by
 ext F s G H R I h;show sy (Xv I P N boot_zip (cJ (Z8 (Q pos F s G H _ I h) λZ s1 ⟨vs,Y,f,L,O⟩=>?_) (by rw[hs,m]) (by rw[m];rfl)));let⟨u,t,e,⟨xs,w⟩,⟨L9,v⟩,q⟩:=O;subst e
 cases L with
 | cons r Mn=>
  cases Mn with
  | cons Kd Mn=>
   cases Mn;cases r;cases Kd;let⟨B,U,E,_⟩:=f.CM w;let⟨D,T,p2,_⟩:=f.CM v;show gN E p2 λh' c1 c2 c3 c4 c5 c6 S=>?_;show wpAny_pyIter_zip c1 ?_;let W:=f.kept (t':=s1.toks) S;let A:=let⟨_,e⟩:=E.has;aV e;let z:=let⟨_,e⟩:=p2.has;aV e;generalize M:s1.heap.objs.size=n at *;let ne:∀(a:aP)(j:Nat),a<n->a≠n+j:=λa j h=>bC (ay h (jU _ _));let J:([n+4,n+2,n+3,n,n+1]:Gs).Nodup:=by let d:∀(i j:Nat),i≠j->(n+i:Nat)≠n+j:=λi j h e=>h (pU e);let o:∀(i:Nat),i≠0->(n+i:Nat)≠n:=λi h e=>h (pU (e.trans (nV n).symm));dsimp[av,aY,dZ,not_or,cI,and_true,not_false_eq_true];apply⟨⟨d 4 2 ∅,d 4 3 ∅,o 4 ∅,d 4 1 ∅⟩,⟨d 2 3 ∅,o 2 ∅,d 2 1 ∅⟩,⟨o 3 ∅,d 3 1 ∅⟩,(o 1 ∅).symm⟩
   show⟨n+4,[n+4,n+2,n+3,n,n+1],_,_,Y,rfl,W,hZ b1 C u t (n+4) (n+2) (n+3) n (n+1) J,⟨c1,c2,⟨_,_,c3,ne u 3 A,ne t 3 z,ne u 2 A,ne t 2 z⟩,c4,c5⟩,λc y=>?_,q⟩
   let l:s1.heap.objs.size<=c:=by
    rw[M];dsimp[aY,dZ,or_false] at y;rcases y with rfl | rfl | rfl | rfl | rfl
    ·apply jU _ _
    ·apply jU _ _
    ·apply jU _ _
    ·apply aU _
    ·apply jU _ _
   apply f.aa4 l (f.L5.fresh l)
end
section
variable {prog:bO} {w:bX} {A:bg} {E:Gu} {s:aR}
def X4(e:(d==iR)=aC)(b:s.heap.get? d=aA o)(f:o.ExactDict)(a:o.data = .dict Gi ep)
  (g:Q (.ref s.heap.objs.size) { s with heap:=s.heap.push { cls:=.type "dict_keyiterator",data:=.fields #[.ref d,.int 0 0,.int Gi.size 0,.int ep 0] } }) :
  az (model prog w) A (nM (.ref d)) Q E s:=by
 let c:s.TypeIs (.ref d) "dict":=⟨o,b,f.1⟩;show kN c F.slot_dict_iter (bu F.slot_dict_iter c F.entry_dict_iter ?_ (F.args_dict_iter_1 _));show aE ?_;show aE (wpAny_notOrdered_dict c ?_);show aM ?_;change az _ _ (oQ d >>= _) _ _ s;delta oQ;rw[N4 (by rw[e];apply br)];show aE (aM ?_);show aE (mO b a ?_);show aE (oG b a ?_);show aE (cA (aM ⟨_,rfl,"dict_keyiterator",_,⟨_,aX _ rfl,rfl⟩,F.slot_dict_keyiterator_next.lookup,?_⟩));simpa [fJ] using g
def Rh(a:s.heap.IsKeyIter it d i Gi.size ep)
  (g:s.heap.get? d=aA AB) (c:AB.data = .dict Gi ep) (l:Gi[i]?=aA e)
  (n:∀h',h'.IsKeyIter it d (i+1) Gi.size ep->dD it s.heap h'->Q (aA e.key) { s with heap:=h' }) :
  az (model prog w) A (kY (.ref it)) Q E s:=by
 let⟨o,j,m,h⟩:=id a
 show aE (ik (cE a.typeIs F.slot_dict_keyiterator_next
  (bu F.slot_dict_keyiterator_next a.typeIs F.entry_dict_keyiterator_next ?_ (F.args_dict_keyiterator_next_1 _))))
 show aE (aM ?_);show aE ?_;show aE ?_
 first | show aE (fg a.typeIs (aM ?_)) | show aE (iA a.typeIs (aM ?_))
 show aE (lh j h ?_);show aE (aM ?_);show aE (mO g c ?_);rw[N4 ⋯];show aE (aM ?_);show aE (oG g c ?_);rw[N4 ⋯];show aM ?_;let⟨f,k⟩:=dI.mp l;subst k;dsimp[dk,cV f];show aE ?_
 first | show aE (fg a.typeIs (aM ?_)) | show aE (iA a.typeIs (aM ?_))
 show aE (oR a.typeIs ?_);change az _ _ (setField (.ref it) 1 (fJ ((i:Int)+1)) >>= _) _ _ s;show aE (fM j h ⋯ ?_)
 let b:(s.heap.update it (fY (·.setIfInBounds 1 (fJ ((i:Int)+1))))).IsKeyIter it d (i+1) Gi.size ep:=
  ⟨_,cS _ j (eV (cM h _)),(gm ..).trans m,by rw[cM h];simp[fJ]⟩
 show aE (cg ?_);show aE (oR b.typeIs ?_);apply aM (aM ⟨_,rfl,aM (n _ b (dE ..))⟩)
def Ql(g:A.handled=aB)(a:s.heap.IsKeyIter it d Gi.size Gi.size ep)
  (c:s.heap.get? d=aA AB) (b:AB.data = .dict Gi ep)
  (h:∀h',mL it s.heap h'->Q aB { s with heap:=h' }):az (model prog w) A (kY (.ref it)) Q E s:=by
 let⟨o,f,i,e⟩:=id a
 show aE (ik (cE a.typeIs F.slot_dict_keyiterator_next
  (bu F.slot_dict_keyiterator_next a.typeIs F.entry_dict_keyiterator_next ?_ (F.args_dict_keyiterator_next_1 _))))
 show aE (aM ?_);show aE ?_;show aE ?_
 first | show aE (fg a.typeIs (aM ?_)) | show aE (iA a.typeIs (aM ?_))
 show aE (lh f e ?_);show aE (aM ?_);show aE (mO c b ?_);rw[N4 ⋯];show aE (aM ?_);show aE (oG c b ?_);rw[N4 ⋯];show aM ?_;dsimp[dk,iS (aU Gi.size)];show aE ?_
 first | show aE (fg a.typeIs (aM ?_)) | show aE (iA a.typeIs (aM ?_))
 change az _ _ (setField (.ref it) 0 .none >>= _) _ _ s;show aE (fM f e ⋯ ?_);show aE ?_;show aE (m:=oh _ _) (mM rfl ?_);show cA ?_ (by size_fits);show aE (ph ?_);rw[g];show aE (aM (rY ?_));show aE (kZ ⟨_,aX _ rfl,rfl⟩ oj ?_);apply aM (h _ (((dE ..).extBut.push _).push _))
end
def Ls(d:aP)(o:fE)(JJ:List (List JL×V)):It:=
  ⟨λi H=>H d=aA (.Er o (.L8 JJ))/\i<la JJ,
   λi H v H'=>H'=H/\∃b k y,JJ[i]?=aA (k,y)/\v = .ref b/\H b=aA (.tup (k.map GS)),
   λi H=>H d=aA (.Er o (.L8 JJ))/\i=la JJ⟩
def KT.get:∀{JJ:List (List JL×V)}{xs:List (List JL×aP×aI)}{i:Nat}{p:List JL×V},KT H JJ xs->JJ[i]?=aA p->∃q,xs[i]?=aA q/\p.1=q.1/\H q.2.1=aA (.tup (p.1.map GS))/\RelV p.2 q.2.2
 | _,_,_,_,.nil,e=>by simp at e
 | _,_,0,_,.cons r _,e=>by simp at e;subst e;apply⟨_,rfl,r⟩
 | _,_,i+1,p,.cons _ t,e=>by let⟨q,a,b⟩:=KT.get (i:=i) (p:=p) t (~~~e);apply⟨q,by simpa using a,b⟩
def Wp{w:bX}{K:aG}{W:bT}(d it:aP)(o:fE)(m:Array DictEntry)(ep:Nat)(N:List (List JL×V))(t:o.data = .dict m ep)(g:m.size=la N) :
  Ki P w K W (Ls d o N) [it] it (λi h=>h.IsKeyIter it d i m.size ep) where
 mem:=⋯
 obj:=λi h st b a=>by rw[aO.mp a];let⟨o,e,c,q⟩:=st;apply⟨o,e,λv z=>by rw[q] at z;cases z⟩
 keep:=λi h h' st k=>by let⟨o,e,r⟩:=st;apply⟨o,k it ⋯ o e,r⟩
 item:=by
  ext X hP hw Z M i R s T H E I j st D;let⟨p,C⟩:=D;let⟨n,z,y,xs,r,JR,es',ep',J,Md,L,U,h5⟩:=(I.L5 d _ p);rw[n] at J;cases J;rw[t] at L;cases L;let O:=aF C;let⟨q,hq,eq,a,rv⟩:=KT.get r O;let S:m[i]?=aA (entryOfKey (mz (Dg X.prog X.w)) q):=by let:=congrArg (λl=>l[i]?) U;dsimp[ag,hq] at this;simpa using this
  let⟨G,f1,Y,B,u,x⟩:=j it ⋯;show Rh st n t S λh' f sb=>?_;let I1:=I.turned (t':=s.toks) (λb o a e=>(sb.2 b a).trans e) G f1 B u x;let⟨o2,e2,c2,d2⟩:=id f;apply⟨_,rfl,S6 e2 c2 d2 rfl ⟨.ref q.2.1,H,I1,rfl,⟨rfl,q.2.1,_,_,O,rfl,a⟩,f,λb a=>(j b a).1⟩⟩
 done:=by ext X hP hw Z M i R s T H E I j st D;let⟨p,C⟩:=D;let⟨n,_⟩:=(I.L5 d _ p);let⟨G,f1,Y,B,u,x⟩:=j it ⋯;rw[C,<-g] at st;apply Ql (I.ok.hd M) st n t λh' eb=>⟨rfl,I.turned (λb o a e=>eb b o a e) G f1 B u x⟩
 self:=λA i s Q E st hQ=>by show kN st.typeIs F.slot_dict_keyiterator_iter (bu F.slot_dict_keyiterator_iter st.typeIs F.entry_dict_keyiterator_iter ?_ (F.args_dict_keyiterator_iter_1 _));apply aM ⟨_,rfl,"dict_keyiterator",_,st.typeIs,F.slot_dict_keyiterator_next.lookup,hQ⟩
section
variable {X:Cx} {Eu:bT}
def Inv.freeze(I:Inv X N5 σ H s)(f:H d=aA (.L8 JJ))(i:s.heap.get? d=aA o) :
  Inv X N5 σ (upd H d (.Er o (.L8 JJ))) s:=by
 let ne:∀b u,H b=aA u->(∀k,u≠.L8 k)->b≠d:=λb u q n z=>by rw[z,f] at q;apply n _ (bM q).symm
 let j:∀b,H b=aB->b≠d:=λb q z=>by rw[z,f] at q;cases q
 let un:Au X.fs [] H (upd H d (.Er o (.L8 JJ))) s.heap s.heap:=
  ⟨λb o q _ _ _=>q,λb o q _ _ _=>⟨o.slots,q⟩,λb o q n _=>by rw[a_ (j b n)];apply n,λb o q _=>⟨o,q⟩,
   λb xs q=>by rw[a_ (ne b _ q λ_ z=>nomatch z)];apply q,λb o u q=>by rw[a_ (ne b _ q λ_ z=>nomatch z)];apply q,λb ps q=>⟨#[],by rw[a_ (ne b _ q λ_ z=>nomatch z),q];simp⟩⟩
 let g:AX X.prog X.w (upd H d (.Er o (.L8 JJ))) s.heap:=λb u q=>by
  let a:∀c y,H c=aA (.own y)->upd H d (.Er o (.L8 JJ)) c=aA (.own y):=λc y z=>by rw[a_ (ne c _ z λ_ z=>nomatch z)];apply z
  let e:∀c xs,H c=aA (.tup xs)->upd H d (.Er o (.L8 JJ)) c=aA (.tup xs):=λc y z=>by rw[a_ (ne c _ z λ_ z=>nomatch z)];apply z
  by_cases h:b=d
  ·subst h;rw[bh] at q;cases q;apply⟨i,(I.L5 b _ f).EC (λ_ _ _ z=>z) (λc z=>a c _ z) e λc u z=>by rw[a_ (ne c _ z λ_ z=>nomatch z)];apply z⟩
  ·rw[a_ h] at q;apply(I.L5 b u q).EC (λ_ _ _ z=>z) (λc z=>a c _ z) e λc u z=>by rw[a_ (ne c _ z λ_ z=>nomatch z)];apply z
 let:=I.un (t':=s.toks) un g;apply this
def EY(aat:TE):TI:=λσ H R=>aat σ H λx H1=>∃d JJ,x = .ref d/\((H1 d=aA (.L8 JJ)/\∀o,R (Ls d o JJ) (upd H1 d (.Er o (.L8 JJ))))\/∃o,H1 d=aA (.Er o (.L8 JJ))/\R (Ls d o JJ) H1)
def ZR{w:TE}(F:JY X l w):A8 X Eu l (EY w):=by
 ext k s m H R I h;show Z8 (F k s m H _ I h) ?_;ext v s1 ⟨x,O,p,E,L⟩;let⟨d,i,e,q⟩:=L;subst e;cases E
 let a:∀(o:fE)(c:Hp),Inv X k m c s1->c d=aA (.Er o (.L8 i))->R (Ls d o i) c->az (model X.prog X.w) X.A (nM (.ref d)) (Js X k m Eu R) X.Ar s1:=λo c j J M=>by
  let⟨B,z,y,xs,r,Q,u,ep,g,C,n,A,N⟩:=(j.L5 d _ J);rw[B] at g;cases g
  let t:u.size=i.length:=by
   let G:=congrArg fQ A;let P:=Paired.length r;dsimp[bW,aJ] at G
   lia
  show X4 y B C n ?_;show⟨s1.heap.objs.size,[s1.heap.objs.size],_,_,c,rfl,j.kept λb o e=>aH _ e,Wp d _ o u ep i n t,⟨_,aX _ rfl,rfl,rfl⟩,λb D=>?_,M⟩;rw[aO.mp D];apply j.aa4 (aU _) (j.L5.fresh (aU _))
 rcases q with⟨f,q⟩ | ⟨o,f,q⟩
 ·let⟨z,y,xs,r,o,u,ep,g,C,n,A,N⟩:=(p.L5 d _ f);apply a o _ (p.freeze f g) bh (q o)
 ·apply a o O p f q
end
theorem Walks.CM(b:Bool)(e:A.handled=aB)(I c:aP)(d:c≠I)(a:GD) :
  Walks prog w A I [I,c] [I] a.size (λi v=>a[i]?=aA v) (λi h=>J8 b h I c i/\MA b h c a):=by
 cases b with
 | true=>apply Walks.list e I c d a
 | false=>apply Walks.tuple e I c d a
section
variable {X:Cx}
def VD(B:X.calm=aD):Ie X (.builtin "sum") (λxs H Q=>∃(b:Bool) (p:aP) (ns:Gj),xs=[.ref p]/\Mr b X.K H p (ns.map V.int)/\Q (.int ns.sum) H):=by
 ext L s M H xs J Q I r h;let⟨b,p,ns,rfl,C,q⟩:=h;let⟨u,rfl,F⟩:=Vy r;cases F;let⟨n,m,a,N⟩:=I.CM C;let z:=let⟨_,e⟩:=a.has;aV e;show call_sum_walkG (Ym a ?_);show⟨_,_,_,_,_,_,λi=>ns.getD i 0,rfl,Walks.CM (A:=X.A.in1) b (I.ok.hd B) s.heap.objs.size p (bC z) n.toArray,⟨J8.new (aX _ rfl),a.at λo e=>aH _ e⟩,λc f=>?_,λi v g=>?_,λh' tk t' y=>?_⟩
 ·change c<(s.heap.push _).objs.size;rw[dH];rcases aY.mp f with rfl | f
  ·apply iK _
  ·rw[aO.mp f];apply fN z
 ·let g:=g;let g:n[i]?=aA v:=by simpa using g
  let j:=m.length;rw[aJ] at j;let E:i<la ns:=by rw[j];apply(aQ.mp g).1
  let⟨u,w,G⟩:=m.get (i:=i) (x:=.int ns[i]) ⋯;rw[g] at w;cases w;let⟨t,rfl⟩:=G;show⟨t,?_⟩;change fT ns[i] t=fT (ns.getD i 0) t;rw[aK,aF E];rfl
 ·let e:preSum (λi=>ns.getD i 0) n.toArray.size=ns.sum:=by
   let j:=m.length;rw[aJ] at j;rw[aT,<-j]
   let l:∀k,k<=la ns->preSum (λi=>ns.getD i 0) k=(ns.take k).sum:=by
    ext k
    induction k with
    | zero=>ext _;simp[preSum]
    | succ k N8=>
     ext y;rw[preSum,N8 (),jC,aK,aF (),oH];simp
   rw[l _ (aU _),eD]
  rw[e];show⟨.int ns.sum,H,I.kept (λc o d=>y c o ?_ (aH _ d)),⟨_,rfl⟩,q⟩;ext D;rw[aO.mp D] at d;apply absurd (aV d) (cR _)
def ZE(n:X.calm=aD):Ie X (.builtin "all") (λxs H Q=>∃(b:Bool) (p:aP) (bs:L0),xs=[.ref p]/\Mr b X.K H p (bs.map V.Ap)/\Q (.Ap (bs.all id)) H):=by
 ext G s J H xs F Q I r h;let⟨b,p,bs,rfl,t,q⟩:=h;let⟨u,rfl,y⟩:=Vy r;cases y;let⟨k,l,a,L⟩:=I.CM t;let E:=let⟨_,e⟩:=a.has;aV e;let j:=l.length;rw[aJ] at j;show call_all_walk (Ym a ?_);show⟨_,_,_,_,_,_,λi=>bs.getD i aD,rfl,Walks.CM (A:=X.A.in1) b (I.ok.hd n) s.heap.objs.size p (bC E) k.toArray,⟨J8.new (aX _ rfl),a.at λo e=>aH _ e⟩,λi v N O M g B=>?_,λh' tk D=>?_⟩
 ·let g:=g;let g:k[i]?=aA v:=by simpa using g
  let d:i<la bs:=by rw[j];apply(aQ.mp g).1
  let⟨u,m,C⟩:=l.get (i:=i) (x:=.Ap bs[i]) ⋯;rw[g] at m;cases m;cases C;show dJ ?_;let e:bs.getD i aD=bs[i]:=by rw[aK,aF d];rfl
  rw[<-e];apply B
 ·let e:(aL k.toArray.size).all (λi=>bs.getD i aD)=bs.all id:=by
   rw[aT,<-j,ji,bN,bN];constructor
   ·ext h x z;let⟨i,d,rfl⟩:=kj.mp z;let:=h i (ao.mpr d);rw[aK,aF d] at this;apply this
   ·ext h i d;let d:=ao.mp d;rw[aK,aF d];apply h _ (bw d)
  rw[e];show⟨.Ap (bs.all id),H,I.kept (λc o f=>D c o ?_ (aH _ f)),rfl,q⟩;ext w;rw[aO.mp w] at f;apply absurd (aV f) (cR _)
def U0:Ie X (.builtin "isinstance") (λxs H Q=>∃x T t b,xs=[x,.ty T]/\AD X.K H x t/\c9 X.K t (.type T)=aA b/\Q (.Ap b) H):=by ext g s i H xs f Q I r h;let⟨x,T,t,b,rfl,c,e,q⟩:=h;let⟨u,v,rfl,d,a⟩:=qi r;cases a;apply qv I d c e λtk=>⟨.Ap b,H,I.tok tk,rfl,q⟩
def xR{K:aG}:c9 K (.type "int") (.type "int")=aA aD:=rfl
def tL{K:aG}:c9 K (.type "int") (.type "bool")=aA aC:=rfl
def QW{K:aG}:c9 K (.type "tuple") (.type "tuple")=aA aD:=rfl
def XJ{K:aG}:c9 K (.type "list") (.type "list")=aA aD:=rfl
def eA{K:aG}:c9 K (.type "str") (.type "str")=aA aD:=rfl
def EZ:V->List V->Hp->Me->Prop:=λx vs H Q=>∃l xs k y,x = .ref l/\vs=[.int k,y]/\H l=aA (.lst xs)/\0<=k/\k<2^63/\xs.length<sizeLine/\Q .Ma (upd H l (.lst (xs.take k.toNat++y::xs.drop k.toNat)))
def Vh:BV X "list.insert" EZ:=by
 ext A s B H x vs v w Q I o m h;let⟨l,xs,k,y,rfl,rfl,d,E,g,C,q⟩:=h;cases o;let⟨u,f,rfl,i,p⟩:=m.two;let⟨t,rfl⟩:=i;let⟨z,a,n,r,D,e⟩:=I.rP d;let b:¬(!Builtin.List.listFitsIndex k)=aD:=by rw[fitsIndex_both () g];apply br
 show iT F.slot_list_insert ⟨_,e,rfl⟩ F.entry_list_insert (F.args_list_insert_3 _ _ _) (AutoListH.list_insert_list_int_val_1 l a.toArray n k t f b (by rw[aT];lia)) ⟨e,?_⟩;show⟨.Ma,_,I.vj d e ?_ ((r.take k.toNat).append (.cons p (r.drop k.toNat))) ?_,rfl,q⟩
 ·change(have j:=if k<0 then(k+((a.toArray.size:Nat):Int)).toNat else min k.toNat a.toArray.size;(a.toArray.extract 0 j).push f++a.toArray.extract j)=_;rw[N4 ()];by_cases c:k.toNat<=a.length
  ·rw[i8 (by rw[aT];apply c)];simp;rw[cN ⋯]
  ·rw[k6 (by rw[aT];lia)];rw[cN (),gM ()];simp
 ·rw[ah,bH,bK,cQ]
  lia
end
def Lo(H H':Hp):Prop:=∀b xs,H b=aA (.tup xs)->H' b=aA (.tup xs)
def AJ.tk(s:AJ H H'):Lo H H':=λb xs h=>s b _ h
def AJ.new(h:H p=aB)(o:HO):AJ H (upd H p o):=λb u q=>by rw[a_ (Zk q h)];apply q
structure Def(K:aG)(mg:JM)(x:bJ)(st:cD):Prop where
 ex:∃f fd,mg x=aA (.ref f)/\uG K x x st f fd
def def_mk{K:aG}{h:bp}{mg:JM}{x:bJ}{st:cD}{f:aP}{m:aI}{j g:Co}{d:aau}{GS e i b Gq:aI}(X:K.In h)(G:h.Ns bY mg)
  (a:dm K bY x=aA (aA (.ref f))) (l:K.lookup f=aA ⟨m,j,.func (cf x x (M9 st) (Kv st) (GV st) .none GS e i g b Gq),d⟩)
  (c:dS K b x=aD) (k:fK K (.ref f)=aD):Def K mg x st:=⟨f,_,k9 X G a,Zkg l c k⟩
structure AG(P:bO)(w:bX)(K:aG)(mg:JM)(base:bp)(x:bJ)(ps:Gm)(sp:Sp)(k:Nat):Prop where
 ex:∃f fd,mg x=aA (.ref f)/\fK K (.ref f)=aD/\Binds K fd ps []/\S7 P w K mg base Mq k f fd ps sp
section
variable {P:bO} {w:bX} {K:aG} {mg:JM} {base:bp}
def Def.cal{st:cD}{N ps:Gm}{k:Nat}{d:Sp}(D:Def K mg x st)(S:Z2 N ps (GV st))
  (e:∀(GS doc pm:aI)(an:Co)(b Gq:aI)(us:Gr),us.length=la ps->jc (cf x x (M9 st) (Kv st) (GV st) .none GS doc pm an b Gq) ⟨us,[]⟩=pure (ps.zip us))
  (len:∀vs H Q E,d vs H Q E->la vs=la ps)
  (c:∀(f:aP)(b:aI)(A:bg)(a:GB)(s:aR)(H:Hp)(vs:List V)(Q:Me)(E:Ml),Cm k (A.deeper (j6 x (GV st) s.heap.objs.size f b))->d vs H Q E->
   ∃t,Kw (Ip Mq P w K mg base N x (GV st) f b A a s H E).EA (Kv st) t/\t { L4:=λ_ l=>Q .Ma l,Cj:=Q } (start N vs) H):AG P w K mg base x ps d (k+1):=by
 let⟨f,i,g,F⟩:=D.ex;apply⟨f,i,g,F.kp,F.binds e,F.ok S len λb A a s H vs Q E j h=>c f b A a s H vs Q E j h⟩
end
section
variable {X:Cx} {x:bJ} {ps:Gm} {sp:Sp} {k:Nat} {e:bT} {Gi:Mk} {t:Az} {p pos:g6}
def Zkl(C:AG X.prog X.w X.K X.mg X.base x ps sp k)(j:Cm k X.A)(l:Gl X x)(m:MY X (e::Gi) t)
  (g:(x==("__debug__" : bJ))=aC|>Op) (i:aN (e::Gi) X.env=(aC,eval e X.env)::aN Gi X.env|>On) (h:(ck pos (aN Gi X.env)).any (·.1)=aC|>On) :
  JY X (.Call (.Name x p) (e::Gi) [] pos) (NW sp [] E0 t):=by
 let⟨f,n,a,b,c,d⟩:=C.ex;apply VY d j l a b c .nil Zij m g i h
end
def Fs(N:Gm)(around scope:jX)(own fr:Gm)(ix:N6):Bool:=
 (match scope.kind with | .function=>aD | _=>aC)&&scope.names.all (λy=>y.2 != .cell)&&scope.names.all (λy=>y.2 != .local || scope.names.lookup y.1==aA .local)&&
 scope.names.all (λy=>y.2 != .free || (around.names.lookup y.1==aA .cell || around.names.lookup y.1==aA .free))&&(fr.map aA==ix.map (λi=>N[i]?))&&
 fr.all (λx=>scope.names.contains (x,cj))&&fr.all (λx=>scope.names.lookup x != aA .local)
def ZS(h:Fs N around scope own fr ix=aD):f_ N around scope own fr ix:=by
 delta Fs at h;dsimp[af] at h;let⟨⟨⟨⟨⟨⟨c,g⟩,j⟩,i⟩,f⟩,d⟩,k⟩:=h;show⟨?_,λy a=>?_,λy a e=>?_,λy a e=>?_,by simpa using f,λx b=>?_,λx b=>?_⟩
 ·split at c
  ·assumption
  ·cases c
 ·simpa using bN.mp g y a
 ·let:=bN.mp j y a;rw[e] at this;simpa using this
 ·let:=bN.mp i y a;rw[e] at this;simpa using this
 ·simpa using bN.mp d x b
 ·simpa using bN.mp k x b
section
variable {X:Cx} {Eu elt iter:bT} {ifs:Mk} {scope:jX} {pos:g6} {Ke:TI} {g:GJ} {tt:TT} {JN:TE}
def T2(own fr:Gm)(b:N6)(a:X.calm=aD)(c:A8 X Eu iter Ke)(S:Fs X.N X.env.scope scope own fr b=aD)
  (f:∀cl C s H ex,CY (MT X (own++fr) scope cl C s H ex) Eu g) (d:∀cl C s H ex,AF (MT X (own++fr) scope cl C s H ex) ifs tt) (e:∀cl C s H ex,JY (MT X (own++fr) scope cl C s H ex) elt JN)
  (hs:∀x,cw iter X.env x=pure x:=by ext _;rfl):JY X (.ListComp elt [⟨Eu,iter,ifs,0⟩] scope pos) (MZ (la own) b Ke g tt JN):=
 Zfc a c (ZS S) f d e hs
def sa(own fr:Gm)(d:N6)(k:X.N.Nodup)(l:X.N[i]?=aA y)(b:X.env.scope.names.lookup y=aA .local)(a:X.calm=aD)(e:A8 X Eu iter Ke)(S:Fs X.N X.env.scope scope own fr d=aD)
  (j:∀cl C s H ex,CY (MT X (own++fr) scope cl C s H ex) Eu g) (f:∀cl C s H ex,AF (MT X (own++fr) scope cl C s H ex) ifs tt) (h:∀cl C s H ex,JY (MT X (own++fr) scope cl C s H ex) elt JN)
  (c:gO (.ListComp elt [⟨Eu,iter,ifs,0⟩] scope pos) (aA (.Name y py)) u5.line X.env=pure aD|>On)
  (hs:∀x,cw iter X.env x=pure x:=by ext _;rfl):AV X (.Assign [.Name y py] (.ListComp elt [⟨Eu,iter,ifs,0⟩] scope pos) u5) (J0 (MZ (la own) d Ke g tt JN) (IM i)):=
 Zfd k l b a e (ZS S) j f h c hs
end
structure Blt(mg:JM):Prop where
 «len» : mg "len" = aB
 «sum» : mg "sum" = aB
 «range» : mg "range" = aB
 «enumerate» : mg "enumerate" = aB
 «zip» : mg "zip" = aB
 «tuple» : mg "tuple" = aB
 «list» : mg "list" = aB
 «all» : mg "all" = aB
 «any» : mg "any" = aB
 «isinstance» : mg "isinstance" = aB
 «int» : mg "int" = aB
 «bool» : mg "bool" = aB
 «str» : mg "str" = aB
 «min» : mg "min" = aB
 «max» : mg "max" = aB
 «sorted» : mg "sorted" = aB
 «abs» : mg "abs" = aB
 «ValueError» : mg "ValueError" = aB
 «reversed» : mg "reversed" = aB
 «set» : mg "set" = aB
abbrev zz(g:GJ)(Gx:Cq)(D:J4)(σ:St)(J:It)(H:Hp):Prop:=
 ∃W:Nat->Nat->St->Hp->Prop,(∃m,W 0 m σ H)/\∀i m σ H,W i m σ H->
   (J.stop i H/\D.L4 σ H)\/(J.go i H/\∃N:St->Hp->Prop,(∀σ' H',N σ' H'->∃JQ,JQ<m/\W (i+1) JQ σ' H')/\∀x H',J.aas i H x H'->g x σ H' λσ2 H2=>Gx { D with L4:=N,Gq:=N,Gw:=D.L4 } σ2 H2)
def Cz(l:Gj)(i:Nat):Int:=l.getD i 0
def Qm(l:Gj):(aL (la l)).map (Cz l)=l:=by
 apply((gA));ext i;rw[ag];by_cases h:i<la l
 ·rw[aF (~~~h)];simp[Cz,aF h]
 ·rw[cT (~~~h),cT ()];rfl
def Yp(h:i<n):Cz ((aL n).map f) i=f i:=by delta Cz;rw[aK,ag,eO h];rfl
def Kl(w:N7)(i:Nat):List Int:=w.getD i []
def OI(h:i<w.length):w[i]?=aA (Kl w i):=by delta Kl;rw[aK,aF h];rfl
def GQ(w:N7)(i j:Nat):Int:=Cz (Kl w i) j
structure Zu(w:N7):Prop where
 pos:1<=la w
 j_:la w<=7
 sq:∀i,i<la w->(Kl w i).length=la w
 lo:∀i j,i<la w->j<la w->0<=GQ w i j
 N9:∀i j,i<la w->j<la w->GQ w i j<=9
 sym:∀i j,i<la w->j<la w->GQ w i j=GQ w j i
 uR:∀i,i<la w->GQ w i i=0
def Eo(K:aG):List V->Hp->Me->Prop:=λxs H Q=>∃p L9,xs=[.ref p]/\((EJ K H p L9/\∀l,H l=aB->Q (.ref l) (upd H l (.tup L9)))\/(CG K H p L9/\Q (.ref p) H))
def LZ(K:aG):List V->Hp->Me->Prop:=λxs H Q=>∃p L9,xs=[.ref p]/\(EJ K H p L9\/CG K H p L9)/\∀l,H l=aB->Q (.ref l) (upd H l (.lst L9))
def AJ.off(s:AJ H Hc)(n:Hc p=aB):H p=aB:=s.free n
abbrev X7:=Nat×Nat×Int
structure cm(n:Nat)(ts:List X7):Prop where
 ok:∀e∈ts,e.1<e.2.1/\e.2.1<n/\1<=e.2.2/\e.2.2<=9
 nd:(ts.map λe=>(e.1,e.2.1)).Nodup
def Zfh{a b c d:Nat}(h:([gW (a:Int),gW (b:Int)]:List JL)=[gW (c:Int),gW (d:Int)]):a=c/\b=d:=by
 let f:=(pq h).1;let e:=(pq (pq h).2).1;let g:=tN f;let i:=tN e
 lia
def cm.nil(n:Nat):cm n []:=⟨λ_ h=>by simp at h,⋯⟩
def A7(M:N7)(a b:Nat)(t:Int):List (List Int):=M.set a ((Kl M a).set b t)
def Iw(M:N7)(e:X7):List (List Int):=A7 (A7 M e.1 e.2.1 e.2.2) e.2.1 e.1 e.2.2
def G3(n:Nat)(ts:List X7):List (List Int):=ts.foldl Iw (aW n (aW n 0))
structure fD(n:Nat)(M:N7):Prop where
 len:la M=n
 row:∀i,i<n->(Kl M i).length=n
 lo:∀i j,i<n->j<n->0<=GQ M i j
 N9:∀i j,i<n->j<n->GQ M i j<=9
 sym:∀i j,i<n->j<n->GQ M i j=GQ M j i
 uR:∀i,i<n->GQ M i i=0
def gT{M:N7}{a i:Nat}{r:Gj}(b:a<la M):Kl (M.set a r) i=if a=i then r else Kl M i:=by
 delta Kl;by_cases h:a=i
 ·subst h;simp[b]
 ·simp[h]
def Zfi{l:Gj}{b j:Nat}{t:Int}(a:b<la l):Cz (l.set b t) j=if b=j then t else Cz l j:=by
 delta Cz;by_cases h:b=j
 ·subst h;simp[a]
 ·simp[h]
def Rj{n:Nat}{M:N7}{a b i j:Nat}{t:Int}(f:la M=n)(e:∀i,i<n->(Kl M i).length=n)(d:a<n)(c:b<n):GQ (A7 M a b t) i j=if a=i/\b=j then t else GQ M i j:=by
 change Cz (Kl (M.set a ((Kl M a).set b t)) i) j=_;rw[gT ()];by_cases h:a=i
 ·subst h;rw[An rfl,Zfi (by rw[e a d];apply c)];by_cases q:b=j
  ·rw[An q,An ⟨rfl,q⟩]
  ·rw[N4 q,N4 (λz=>q z.2)];rfl
 ·rw[N4 h,N4 (λz=>h z.1)];rfl
def Uc{n:Nat}{M:N7}{a b:Nat}{t:Int}(f:la M=n)(c:∀i,i<n->(Kl M i).length=n)(e:a<n):(A7 M a b t).length=n/\∀i,i<n->(Kl (A7 M a b t) i).length=n:=by
 show⟨by delta A7;rw[cq];apply f,λi d=>?_⟩;change(Kl (M.set a ((Kl M a).set b t)) i).length=n;rw[gT ()];split
 ·rw[cq];apply c a e
 ·apply c i d
def fD.step{n:Nat}{M:N7}{e:X7}(ok:fD n M)(h:e.1<e.2.1/\e.2.1<n/\1<=e.2.2/\e.2.2<=9):fD n (Iw M e):=by
 let⟨a,b,t⟩:=e;let⟨m,f,q,r⟩:=h;simp only at m f q r;let l:a<n:=()
 let⟨p,o⟩:=Uc ok.len ok.row l;let⟨u,v⟩:=Uc p o f;let E:∀i j,GQ (A7 (A7 M a b t) b a t) i j=if b=i/\a=j then t else if a=i/\b=j then t else GQ M i j:=λi j=>by rw[Rj p o f l,Rj ok.len ok.row l f]
 show⟨u,v,λi j c d=>?_,λi j c d=>?_,λi j c d=>?_,λi c=>?_⟩
 ·change 0<=GQ (A7 (A7 M a b t) b a t) i j;rw[E];split
  ·lia
  ·split
   ·lia
   ·apply ok.lo i j c d
 ·change GQ (A7 (A7 M a b t) b a t) i j<=9;rw[E];split
  ·lia
  ·split
   ·lia
   ·apply ok.N9 i j c d
 ·change GQ (A7 (A7 M a b t) b a t) i j=GQ (A7 (A7 M a b t) b a t) j i;rw[E,E];let s:=ok.sym i j c d;by_cases g:b=i/\a=j
  ·rw[An g];let⟨rfl,rfl⟩:=g;rw[N4 (),An ⟨rfl,rfl⟩]
  ·rw[N4 g];by_cases k:a=i/\b=j
   ·rw[An k];let⟨rfl,rfl⟩:=k;rw[An ⟨rfl,rfl⟩]
   ·rw[N4 k,N4 (λz=>k ⟨z.2,z.1⟩),N4 (λz=>g ⟨z.2,z.1⟩),s]
 ·change GQ (A7 (A7 M a b t) b a t) i i=0;rw[E,N4 (),N4 ()];apply ok.uR i c
def fD.zero(n:Nat):fD n (aW n (aW n 0)):=by
 let r:∀i,i<n->Kl (aW n (aW n (0:Int))) i=aW n 0:=λi a=>by delta Kl;rw[aK,cP,An a];rfl
 let z:∀i j,i<n->j<n->GQ (aW n (aW n (0:Int))) i j=0:=λi j a b=>by change Cz (Kl _ i) j=0;rw[r i a];delta Cz;rw[aK,cP,An b];rfl
 apply⟨⋯,λi a=>by rw[r i a];simp,λi j a b=>by rw[z i j a b];lia,λi j a b=>by rw[z i j a b];lia,λi j a b=>by rw[z i j a b,z j i b a],λi a=>z i i a a⟩
def OJ{n:Nat}{ts:List X7}(ok:cm n ts):fD n (G3 n ts):=by
 let b:∀(l:List X7)(M:N7),(∀e∈l,e.1<e.2.1/\e.2.1<n/\1<=e.2.2/\e.2.2<=9)->fD n M->fD n (l.foldl Iw M):=by
  ext l
  induction l with
  | nil=>ext M _ h;apply h
  | cons e r N8=>
   ext M h c;rw[g9];apply N8 _ (λd a=>h d (aS _ a)) (c.step (h e ar))
 apply b ts _ ok.ok (fD.zero n)
def fD.web{n:Nat}{M:N7}(h:fD n M)(a:1<=n)(b:n<=7):Zu M:=by let e:=h.len;subst e;apply⟨a,b,h.row,h.lo,h.N9,h.sym,h.uR⟩
def YI(f:Ka)(n:Nat):((aL (n+1)).map f).sum=((aL n).map f).sum+f n:=by rw[jm];simp
def X9{f g:Ka}{n:Nat}(h:∀i,i<n->f i=g i):((aL n).map f).sum=((aL n).map g).sum:=by congr 1;apply((aq));ext i a;apply h i (ao.mp a)
def WZ(f g:Ka)(n:Nat):((aL n).map λi=>f i+g i).sum=((aL n).map f).sum+((aL n).map g).sum:=by
 induction n with
 | zero=>simp
 | succ n N8=>rw[YI,YI,YI,N8];lia
def Zfj(l:Gj):((aL (la l)).map (Cz l)).sum=l.sum:=by rw[Qm]
def pg(e:J_)(n:Nat)(hs:∀i j,i<n->j<n->e i j=e j i)(c:∀i,i<n->e i i=0) :
  ((aL n).map λi=>((aL n).map λj=>e i j).sum).sum=2*((aL n).map λa=>((aL (n-(a+1))).map λj=>e a (a+1+j)).sum).sum:=by
 induction n with
 | zero=>simp
 | succ n d=>
  let d:=d (λi j b k=>hs i j () ()) λi b=>c i ();rw[YI,YI,YI];let f:((aL n).map λi=>((aL (n+1)).map λj=>e i j).sum).sum=((aL n).map λi=>((aL n).map λj=>e i j).sum).sum+((aL n).map λi=>e i n).sum:=by rw[<-WZ];apply((X9));ext i _;rw[YI]
  let h:((aL n).map λa=>((aL (n+1-(a+1))).map λj=>e a (a+1+j)).sum).sum=((aL n).map λa=>((aL (n-(a+1))).map λj=>e a (a+1+j)).sum).sum+((aL n).map λi=>e i n).sum:=by rw[<-WZ];apply((X9));ext i b;rw[show n+1-(i+1)=(n-(i+1))+1 by lia,YI,show i+1+(n-(i+1))=n by lia]
  let g:((aL n).map λj=>e n j).sum=((aL n).map λi=>e i n).sum:=by apply((X9));ext i b;apply hs n i () ()
  rw[f,h,g,c n ()];simp
  lia
def R_(f:β->α->β)(s:β){l:List α}{i:Nat}{x:α}(h:l[i]?=aA x):(l.take (i+1)).foldl f s=f ((l.take i).foldl f s) x:=by rw[jC,h];change nR f s (l.take i++[x])=_;rw[mP];rfl
def at2(c:Int):AZ [x,y] (c%2)=aA (if c%2=0 then x else y):=by
 let h:c%2=0\/c%2=1:=()
 rcases h with h | h<;>rw[h]<;>rfl
structure ff(i:Nat)(l:Gj):Prop where
 len:la l=i
 nd:l.Nodup
 lo:∀x∈l,0<=x
 N9:∀x∈l,x<i
def ff.nil:ff 0 []:=⟨rfl,cI,λ_ h=>by simp at h,λ_ h=>by simp at h⟩
def ff.ins(h:ff i l)(k:Nat):ff (i+1) (l.take k++(i:Int)::l.drop k):=by
 let b:(l.take k++(i:Int)::l.drop k).Perm ((i:Int)::l):=by let:=rH (a:=(i:Int)) (l₁:=l.take k) (l₂:=l.drop k);rw[gX] at this;apply this
 show⟨by rw[b.length_eq,bH,h.len],?_,λx c=>?_,λx c=>?_⟩
 ·rw[b.nodup_iff,av];apply⟨λd=>by let:=h.N9 _ d;lia,h.nd⟩
 ·rcases aY.mp (b.mem_iff.mp c) with e | e
  ·lia
  ·apply h.lo x e
 ·rcases aY.mp (b.mem_iff.mp c) with e | e
  ·lia
  ·let:=h.N9 x e;lia
def ff.at(h:ff i l)(a:x<i):0<=Cz l x/\Cz l x<i:=by
 let e:Cz l x=l[x]'(by rw[h.len];apply a):=by delta Cz;rw[aK,aF (by rw[h.len];apply a)];rfl
 rw[e];apply⟨h.lo _ (bw _),h.N9 _ (bw _)⟩
def ff.ne(h:ff i l)(a:x<i)(b:y<i)(n:x≠y):Cz l x≠Cz l y:=by
 let d:Cz l x=l[x]'(by rw[h.len];apply a):=by delta Cz;rw[aK,aF (by rw[h.len];apply a)];rfl
 let c:Cz l y=l[y]'(by rw[h.len];apply b):=by delta Cz;rw[aK,aF (by rw[h.len];apply b)];rfl
 rw[d,c];ext e;apply n ((kX h.nd).mp e)
def lt_size(h:n<=10000):n<sizeLine:=eu h ∅
end _l
namespace _v
open PySem PySem.Spec PyProof.Rows _l
variable {K:aG}
def NsO(AB:fE)(f:bJ)(u:aI):Prop:=∀(Gn:bp)(Mm:aP),Gn.get? Mm=aA AB->Gn.Ns1 Mm (λn=>if n=f then aA u else aB)
def Al(n:bJ):bJ:=if n = "NoWeb" then "place" else if n = "Apart" then "houses" else if n = "TooMany" then "most" else "total"
structure G5 where
 qual:bJ
 params:pO
 body:bT
 scope:jX
 free:bJ
inductive PV where
 | Ma | Ap (b:Bool) | int (i:Int) | str (x:bJ) | ty (n:L_) | exc (n:bJ) | Cu (n:bJ) (l:PV) | ox (L:G5) (l:PV)
 | tup (l:List PV) | lst (l:List PV) | cst (l:List PV)
 | Mf (ks:List JL) (vs:List PV) | L8 (ks:List (List JL)) (vs:List PV)
instance:Inhabited PV:=⟨.Ma⟩
mutual
/-- nothing in it can be xU -/
def MS:PV->Bool
 | .tup l=>CF l
 | .cst l=>CF l
 | .lst _=>aC
 | .Mf _ _=>aC
 | .L8 _ _=>aC
 | .Ma=>aD
 | .Ap _=>aD
 | .int _=>aD
 | .str _=>aD
 | .ty _=>aD
 | .exc _=>aD
 | .Cu _ _=>aD
 | .ox _ l=>MS l
def CF:List PV->Bool
 | []=>aD
 | x::r=>MS x&&CF r
end
def WK:∀l:List PV,CF l=l.all MS
 | []=>rfl
 | x::r=>by rw[ka,<-WK r];rfl
def KL(K:aG)(a:aP)(xs:List V):Prop:=
 ∃(o:fE) (Av:GD) (n:Nat),K.lookup a=aA o/\o.cls = .type "list"/\o.dict=aB/\o.data = .seq Av n/\Av.size<=sizeLine/\Gp xs Av.toList
def K6(K:aG)(H:Hp)(p:aP)(xs:List V):Prop:=(∃o,H p=aA (.Er o (.lst xs)))\/KL K p xs
def K6.sq(h:K6 K H p xs):EJ K H p xs:=by
 rcases h with h | h
 ·apply .inl (.inr h)
 ·apply .inr h
def Ji(H:Hp)(L:G5)(v:V)(u:aI):Prop:=∃f fo c Cp e eo pm Gq,v = .ref f/\H f=aA (.Er fo (.own 0))/\fo.data = .func (jM "<lambda>" L.qual L.params L.body L.scope [(L.free,e)] pm (.ref c) Gq)/\H c=aA (.Er Cp (.own 0))/\GO Cp L.qual/\H e=aA (.Er eo (.own 1))/\eo.data = .cell (aA u)
mutual
/-- v is AA tree l in AA heap H;Gh: AA addresses of Av lists and υ -/
def Is(K:aG)(H:Hp):PV->V->List aP->Prop
 | .Ma,v,Gh=>v = .Ma/\Gh=[]
 | .Ap b,v,Gh=>v = .Ap b/\Gh=[]
 | .int i,v,Gh=>v = .int i/\Gh=[]
 | .str x,v,Gh=>v = .str x/\Gh=[]
 | .ty n,v,Gh=>v = .ty n/\Gh=[]
 | .exc n,v,Gh=>(∃e o x C,v = .ref e/\H e=aA (.Er o (.own x))/\o.cls = .ref C/\dm K bY n=aA (aA (.ref C))/\o.dict=aB/\∃vs,o.data = .fields vs)/\Gh=[]
 | .Cu n l,v,Gh=>(∃e o x C Mm AB u z,v = .ref e/\H e=aA (.Er o (.own x))/\o.cls = .ref C/\dm K bY n=aA (aA (.ref C))/\o.dict=aA Mm/\(∃vs,o.data = .fields vs)/\H Mm=aA (.Er AB (.own Mm))/\NsO AB (Al n) u/\RelV z u/\Is K H l z [])/\Gh=[]
 | .ox L l,v,Gh=>∃u x,Ji H L v u/\RelV x u/\Is K H l x Gh
 | .tup l,v,Gh=>∃p xs,v = .ref p/\H p=aA (.tup xs)/\JX K H l xs Gh
 | .lst l,v,Gh=>∃p xs fq,v = .ref p/\H p=aA (.lst xs)/\JX K H l xs fq/\Gh=p::fq
 | .cst l,v,Gh=>∃p xs,v = .ref p/\K6 K H p xs/\JX K H l xs Gh
 | .Mf ks l,v,Gh=>∃p JJ fq,v = .ref p/\ET H p (.Mf JJ)/\JJ.map (·.1)=ks/\JX K H l (JJ.map (·.2)) fq/\Gh=p::fq
 | .L8 ks l,v,Gh=>∃p JJ fq,v = .ref p/\ET H p (.L8 JJ)/\JJ.map (·.1)=ks/\JX K H l (JJ.map (·.2)) fq/\Gh=p::fq
def JX(K:aG)(H:Hp):List PV->List V->List aP->Prop
 | [],xs,Gh=>xs=[]/\Gh=[]
 | l::ls,xs,Gh=>∃x r f1 f2,xs=x::r/\Is K H l x f1/\JX K H ls r f2/\Gh=f1++f2
end
def E2(H H':Hp)(p:aP):Prop:=(∀xs,H p=aA (.lst xs)->H' p=aA (.lst xs))/\(∀JJ,ET H p (.Mf JJ)->ET H' p (.Mf JJ))/\∀JJ,ET H p (.L8 JJ)->ET H' p (.L8 JJ)
def E2.of(h:∀o,H p=aA o->H' p=aA o):E2 H H' p:=by
 let r:∀u,ET H p u->ET H' p u:=λu q=>by
  rcases q with q | ⟨o,q⟩
  ·apply .inl (h _ q)
  ·apply .inr ⟨o,h _ q⟩
 apply⟨λ_=>h _,λ_=>r _,λ_=>r _⟩
structure s8(H H':Hp):Prop where
 tup:Lo H H'
 Er:∀b o xs,H b=aA (.Er o (.lst xs))->H' b=aA (.Er o (.lst xs))
 exc:∀b o x,H b=aA (.Er o (.own x))->H' b=aA (.Er o (.own x))
def AJ.rf(s:AJ H H'):s8 H H':=⟨s.tk,λb o xs h=>s b _ h,λb o x h=>s b _ h⟩
theorem K6.Aw(t:s8 H H')(h:K6 K H p xs):K6 K H' p xs:=by
 rcases h with⟨o,h⟩ | h
 ·apply .inl ⟨o,t.Er p o xs h⟩
 ·apply .inr h
theorem Ji.Aw(t:s8 H H')(h:Ji H L v u):Ji H' L v u:=by let⟨f,a,c,d,e,b,n,Gq,l,j,m,k,i,g,o⟩:=h;apply⟨f,a,c,d,e,b,n,Gq,l,t.exc f a 0 j,m,t.exc c d 0 k,i,t.exc e b 1 g,o⟩
mutual
theorem Is.Aw(f:s8 H H'):∀(l:PV)(v:V)(Gh:Gs),(∀p∈Gh,E2 H H' p)->Is K H l v Gh->Is K H' l v Gh
 | .Ma,_,_,_,h=>by simpa only[Is] using h
 | .Ap _,_,_,_,h=>by simpa only[Is] using h
 | .int _,_,_,_,h=>by simpa only[Is] using h
 | .str _,_,_,_,h=>by simpa only[Is] using h
 | .ty _,_,_,_,h=>by simpa only[Is] using h
 | .exc _,_,_,_,h=>by dsimp[Is] at h ⊢;let⟨⟨e,o,x,C,a,b,c⟩,d⟩:=h;apply⟨⟨e,o,x,C,a,f.exc e o x b,c⟩,d⟩
 | .Cu _ l,_,_,_,h=>by dsimp[Is] at h ⊢;let⟨⟨e,o,x,C,n,t,u,z,a,b,c1,c2,c3,c4,c5,A,B,y⟩,d⟩:=h;apply⟨⟨e,o,x,C,n,t,u,z,a,f.exc e o x b,c1,c2,c3,c4,f.exc n t n c5,A,B,Is.Aw f l z [] (λp s=>by simp at s) y⟩,d⟩
 | .ox L l,v,Gh,hm,h=>by dsimp[Is] at h ⊢;let⟨u,x,w,i,g⟩:=h;apply⟨u,x,w.Aw f,i,Is.Aw f l x Gh hm g⟩
 | .tup l,v,Gh,hm,h=>by dsimp[Is] at h ⊢;let⟨p,xs,e,s,g⟩:=h;apply⟨p,xs,e,f.tup p xs s,JX.Aw f l xs Gh hm g⟩
 | .lst l,v,Gh,hm,h=>by dsimp[Is] at h ⊢;let⟨p,xs,j,e,i,g,rfl⟩:=h;apply⟨p,xs,j,e,(hm p ar).1 _ i,JX.Aw f l xs j (λq k=>hm q (aS _ k)) g,rfl⟩
 | .cst l,v,Gh,hm,h=>by dsimp[Is] at h ⊢;let⟨p,xs,e,i,g⟩:=h;apply⟨p,xs,e,i.Aw f,JX.Aw f l xs Gh hm g⟩
 | .Mf ks l,v,Gh,hm,h=>by dsimp[Is] at h ⊢;let⟨p,m,j,e,i,r,g,rfl⟩:=h;apply⟨p,m,j,e,(hm p ar).2.1 _ i,r,JX.Aw f l _ j (λq k=>hm q (aS _ k)) g,rfl⟩
 | .L8 ks l,v,Gh,hm,h=>by dsimp[Is] at h ⊢;let⟨p,m,j,e,i,r,g,rfl⟩:=h;apply⟨p,m,j,e,(hm p ar).2.2 _ i,r,JX.Aw f l _ j (λq k=>hm q (aS _ k)) g,rfl⟩
theorem JX.Aw(b:s8 H H'):∀(l:List PV)(xs:List V)(Gh:Gs),(∀p∈Gh,E2 H H' p)->JX K H l xs Gh->JX K H' l xs Gh
 | [],_,_,_,h=>by simpa only[JX] using h
 | l::ls,xs,Gh,hm,h=>by dsimp[JX] at h ⊢;let⟨x,r,f1,c,e,f,d,rfl⟩:=h;apply⟨x,r,f1,c,e,Is.Aw b l x f1 (λq a=>hm q (au _ a)) f,JX.Aw b ls r c (λq a=>hm q (bA _ a)) d,rfl⟩
end
def Is.mono(s:AJ H H')(h:Is K H l v Gh):Is K H' l v Gh:=Is.Aw (AJ.rf s) l v Gh (λp _=>E2.of λo q=>s p o q) h
def JX.mono(s:AJ H H')(h:JX K H l v Gh):JX K H' l v Gh:=JX.Aw (AJ.rf s) l v Gh (λp _=>E2.of λo q=>s p o q) h
mutual
def Is.pure:∀(l:PV)(v:V)(Gh:Gs),MS l=aD->Is K H l v Gh->Gh=[]
 | .Ma,_,_,_,h=>by dsimp[Is] at h;apply h.2
 | .Ap _,_,_,_,h=>by dsimp[Is] at h;apply h.2
 | .int _,_,_,_,h=>by dsimp[Is] at h;apply h.2
 | .str _,_,_,_,h=>by dsimp[Is] at h;apply h.2
 | .ty _,_,_,_,h=>by dsimp[Is] at h;apply h.2
 | .exc _,_,_,_,h=>by dsimp[Is] at h;apply h.2
 | .Cu _ _,_,_,_,h=>by dsimp[Is] at h;apply h.2
 | .ox L l,v,Gh,Gn,h=>by dsimp[Is] at h;let⟨u,x,b,c,a⟩:=h;apply Is.pure l x Gh (by simpa only[MS] using Gn) a
 | .tup l,v,Gh,Gn,h=>by dsimp[Is] at h;let⟨p,xs,e,_,a⟩:=h;apply JX.pure l xs Gh (by simpa only[MS] using Gn) a
 | .lst l,v,Gh,Gn,h=>by simp[MS] at Gn
 | .cst l,v,Gh,Gn,h=>by dsimp[Is] at h;let⟨p,xs,e,_,a⟩:=h;apply JX.pure l xs Gh (by simpa only[MS] using Gn) a
 | .Mf ks l,v,Gh,Gn,h=>by simp[MS] at Gn
 | .L8 ks l,v,Gh,Gn,h=>by simp[MS] at Gn
def JX.pure:∀(l:List PV)(xs:List V)(Gh:Gs),CF l=aD->JX K H l xs Gh->Gh=[]
 | [],_,_,_,h=>by dsimp[JX] at h;apply h.2
 | l::ls,xs,Gh,Gn,h=>by dsimp[JX] at h;dsimp[CF,af] at Gn;let⟨x,r,f1,a,e,c,b,rfl⟩:=h;rw[Is.pure l x f1 Gn.1 c,JX.pure ls r a Gn.2 b];rfl
end
section
variable {H H':Hp}
def JX.len:∀{l:List PV}{xs:List V}{Gh:Gs},JX K H l xs Gh->la xs=la l
 | [],xs,Gh,h=>by dsimp[JX] at h;rw[h.1];rfl
 | l::ls,xs,Gh,h=>by dsimp[JX] at h;let⟨x,r,f1,b,rfl,_,a,_⟩:=h;rw[bH,bH,a.len]
def JX.get:∀{l:List PV}{xs:List V}{Gh:Gs}{i:Nat}{a:PV},JX K H l xs Gh->l[i]?=aA a->∃x f1,xs[i]?=aA x/\Is K H a x f1/\∀p∈f1,p∈Gh
 | [],xs,Gh,i,a,h,e=>by simp at e
 | l::ls,xs,Gh,0,a,h,e=>by dsimp[JX] at h;let⟨x,r,f1,c,rfl,k,_,rfl⟩:=h;simp at e;subst e;apply⟨x,f1,rfl,k,λp b=>au _ b⟩
 | l::ls,xs,Gh,i+1,a,h,e=>by dsimp[JX] at h;let⟨x,r,f1,c,rfl,_,f,rfl⟩:=h;let⟨y,g,m,j,d⟩:=f.get (i:=i) (a:=a) (~~~e);apply⟨y,g,by simpa using m,j,λp b=>bA _ (d p b)⟩
def JX.get'{xs:List V}{c:Gs}{i:Nat}{x:V}(h:JX K H l xs c)(e:xs[i]?=aA x):∃a f1,l[i]?=aA a/\Is K H a x f1/\∀p∈f1,p∈c:=by
 let b:i<l.length:=by rw[<-h.len];apply(aQ.mp e).1
 let⟨y,f1,d,f,g⟩:=h.get (aF b);rw[e] at d;cases d;apply⟨_,f1,aF b,f,g⟩
def JX.nil:JX K H [] [] []:=by simp[JX]
def JX.cons(a:Is K H l x f1)(b:JX K H ls xs f2):JX K H (l::ls) (x::xs) (f1++f2):=by apply⟨x,xs,f1,f2,rfl,a,b,rfl⟩
def JX.inv(h:JX K H (l::ls) xs Gh):∃x r f1 f2,xs=x::r/\Is K H l x f1/\JX K H ls r f2/\Gh=f1++f2:=by simpa only[JX] using h
def JX.append:∀{l m:List PV}{xs L9:List V}{f1 f2:Gs},JX K H l xs f1->JX K H m L9 f2->JX K H (l++m) (xs++L9) (f1++f2)
 | [],m,xs,L9,f1,f2,h,h'=>by dsimp[JX] at h;rw[h.1,h.2];apply h'
 | l::ls,m,xs,L9,f1,f2,h,h'=>by let⟨x,r,c,d,rfl,a,b,rfl⟩:=h.inv;rw[fL];apply JX.cons a (b.append h')
def JX.one(h:Is K H l x f):JX K H [l] [x] f:=by
 let:=JX.cons h (JX.nil)
 rwa [bx] at this
def JX.take:∀{l:List PV}{xs:List V}{Gh:Gs}(n:Nat),JX K H l xs Gh->∃f1,JX K H (l.take n) (xs.take n) f1/\∀p∈f1,p∈Gh
 | l,xs,Gh,0,h=>⟨[],by rw[sQ,sQ];apply JX.nil,λp c=>by simp at c⟩
 | [],xs,Gh,n+1,h=>by dsimp[JX] at h;rw[h.1];apply⟨[],by rw[sk,sk];apply JX.nil,λp c=>by simp at c⟩
 | l::ls,xs,Gh,n+1,h=>by
  let⟨x,r,f1,g,rfl,e,d,rfl⟩:=h.inv;let⟨f,a,b⟩:=d.take n;show⟨f1++f,JX.cons e a,λp c=>?_⟩;rcases aj.mp c with h | h
  ·apply au _ h
  ·apply bA _ (b p h)
def JX.drop:∀{l:List PV}{xs:List V}{Gh:Gs}(n:Nat),JX K H l xs Gh->∃f1,JX K H (l.drop n) (xs.drop n) f1/\∀p∈f1,p∈Gh
 | l,xs,Gh,0,h=>⟨Gh,h,λp c=>c⟩
 | [],xs,Gh,n+1,h=>by dsimp[JX] at h;rw[h.1];apply⟨[],by rw[sr,sr];apply JX.nil,λp c=>by simp at c⟩
 | l::ls,xs,Gh,n+1,h=>by let⟨x,r,f1,f,rfl,g,d,rfl⟩:=h.inv;let⟨e,a,b⟩:=d.drop n;apply⟨e,a,λp c=>bA _ (b p c)⟩
def JX.u6:∀{l:List PV}{xs:List V}{a:PV}{x:V}(i:Nat),CF l=aD->MS a=aD->JX K H l xs []->Is K H a x []->JX K H (l.set i a) (xs.set i x) []
 | [],xs,a,x,i,_,_,h,_=>by dsimp[JX] at h;rw[h.1];dsimp[List.set_nil];apply JX.nil
 | l::ls,xs,a,x,0,Gn,_,h,Mi=>by dsimp[CF,af] at Gn;let⟨y,r,f1,g,rfl,_,b,e⟩:=h.inv;let c:=JX.pure _ _ _ Gn.2 b;subst c;apply JX.cons (f1:=[]) Mi b
 | l::ls,xs,a,x,i+1,Gn,hq,h,Mi=>by dsimp[CF,af] at Gn;let⟨y,r,f1,g,rfl,d,b,e⟩:=h.inv;let f:=Is.pure _ _ _ Gn.1 d;let c:=JX.pure _ _ _ Gn.2 b;subst f c;apply JX.cons (f1:=[]) d (JX.u6 i Gn.2 hq b Mi)
def Is.int_inv(h:Is K H (.int i) v Gh):v = .int i/\Gh=[]:=by simpa only[Is] using h
def Is.int(i:Int):Is K H (.int i) (.int i) []:=by simp[Is]
theorem Is.Ap(i:Bool):Is K H (.Ap i) (.Ap i) []:=by simp[Is]
theorem Is.Ma:Is K H .Ma .Ma []:=by simp[Is]
def Is.str(x:bJ):Is K H (.str x) (.str x) []:=by simp[Is]
def Is.ty(n:L_):Is K H (.ty n) (.ty n) []:=by simp[Is]
def Is.dV(h:Is K H (.Ap i) v Gh):v = .Ap i/\Gh=[]:=by simpa only[Is] using h
def Is.str_inv(h:Is K H (.str i) v Gh):v = .str i/\Gh=[]:=by simpa only[Is] using h
def Is.jg(h:Is K H .Ma v Gh):v = .Ma/\Gh=[]:=by simpa only[Is] using h
def Is.ri(h:Is K H (.ty n) v Gh):v = .ty n/\Gh=[]:=by simpa only[Is] using h
def Is.b_(h:Is K H (.tup l) v Gh):∃p xs,v = .ref p/\H p=aA (.tup xs)/\JX K H l xs Gh:=by simpa only[Is] using h
def Is.tup(h:H p=aA (.tup xs))(a:JX K H l xs Gh):Is K H (.tup l) (.ref p) Gh:=by dsimp[Is];apply⟨p,xs,rfl,h,a⟩
def Is.lst_inv(h:Is K H (.lst l) v Gh):∃p xs fq,v = .ref p/\H p=aA (.lst xs)/\JX K H l xs fq/\Gh=p::fq:=by simpa only[Is] using h
def Is.lst(h:H p=aA (.lst xs))(a:JX K H l xs Gh):Is K H (.lst l) (.ref p) (p::Gh):=by dsimp[Is];apply⟨p,xs,Gh,rfl,h,a,rfl⟩
def Is.gF(h:Is K H (.cst l) v Gh):∃p xs,v = .ref p/\K6 K H p xs/\JX K H l xs Gh:=by simpa only[Is] using h
def Is.cst(h:K6 K H p xs)(a:JX K H l xs Gh):Is K H (.cst l) (.ref p) Gh:=by dsimp[Is];apply⟨p,xs,rfl,h,a⟩
def Is.nS(h:Is K H (.L8 ks l) v Gh):∃p JJ fq,v = .ref p/\ET H p (.L8 JJ)/\JJ.map (·.1)=ks/\JX K H l (JJ.map (·.2)) fq/\Gh=p::fq:=by simpa only[Is] using h
theorem Is.L8(h:H p=aA (.L8 JJ))(a:JJ.map (·.1)=ks)(b:JX K H l (JJ.map (·.2)) Gh):Is K H (.L8 ks l) (.ref p) (p::Gh):=by dsimp[Is];apply⟨p,JJ,Gh,rfl,.inl h,a,b,rfl⟩
def Is.qa(h:Is K H (.Mf ks l) v Gh):∃p JJ fq,v = .ref p/\ET H p (.Mf JJ)/\JJ.map (·.1)=ks/\JX K H l (JJ.map (·.2)) fq/\Gh=p::fq:=by simpa only[Is] using h
theorem Is.Mf(h:H p=aA (.Mf JJ))(a:JJ.map (·.1)=ks)(b:JX K H l (JJ.map (·.2)) Gh):Is K H (.Mf ks l) (.ref p) (p::Gh):=by dsimp[Is];apply⟨p,JJ,Gh,rfl,.inl h,a,b,rfl⟩
end
abbrev iL(l:Gj):List PV:=l.map PV.int
def Y3(l:Gj):CF (iL l)=aD:=by rw[WK,bN];ext x a;let⟨i,_,rfl⟩:=aa.mp a;rfl
def JX.iL:∀{l:Gj}{xs:List V}{Gh:Gs},JX K H (_v.iL l) xs Gh->xs=l.map V.int/\Gh=[]
 | [],xs,Gh,h=>by simpa only[_v.iL,kK,JX] using h
 | i::l,xs,Gh,h=>by let⟨x,r,f1,c,rfl,b,a,rfl⟩:=JX.inv (show JX K H (PV.int i::_v.iL l) xs Gh from h);let⟨rfl,rfl⟩:=b.int_inv;let⟨rfl,rfl⟩:=a.iL;apply⟨rfl,rfl⟩
def JX.ofInts:∀(l:Gj),JX K H (_v.iL l) (l.map V.int) []
 | []=>JX.nil
 | i::l=>JX.cons (f1:=[]) (Is.int i) (JX.ofInts l)
end _v
namespace _v
open PySem PySem.Spec PyProof.Rows _l
variable {K:aG}
abbrev Mz:=_l.St
abbrev ZK:=List (Option PV)
abbrev XE:=ZK->Option PV
structure dg(K:aG)(Rm:Le)(H:Hp)(s:ZK)(σ:Mz):Prop where
 is:∀(i:Nat) l,s[i]?=aA (aA l)->∃v Gh,σ[i]?=aA (aA v)/\Is K H l v Gh/\∀p∈Gh,¬Rm p
def dg.mono(h:dg K Rm H s σ)(e:AJ H H'):dg K Rm H' s σ:=⟨λi l q=>by
 let⟨v,d,a,b,c⟩:=h.is i l q;apply⟨v,d,a,b.mono e,c⟩⟩
def dg.free(h:dg K Rm H s σ):dg K (λ_=>False) H s σ:=⟨λi l q=>by
 let⟨v,d,a,b,c⟩:=h.is i l q;apply⟨v,d,a,b,λ_ _ z=>z⟩⟩
def AJ.mut(e:AJ H H')(h:EN (H p)):EN (H' p):=by
 cases q:H p with
 | none=>rw[q] at h;apply h.elim
 | some o=>rw[e p o q,<-q];apply h
def Xt{H:Hp}{p:aP}(h:EN (H p)):H p≠aB:=λz=>by rw[z] at h;apply h
def GY(K:aG)(f:XE):TE:=λσ H Q=>∃(Rm:Le) (s:ZK) (l:PV),(∀p,Rm p->EN (H p))/\dg K Rm H s σ/\f s=aA l/\∀v H' Gh,AJ H H'->Is K H' l v Gh->(∀p∈Gh,¬Rm p)->Q v H'
def Fq(K:aG)(f:XE):TE:=λσ H Q=>∃(s:ZK) (l:PV),dg K (λ_=>False) H s σ/\f s=aA l/\∀v H' Gh,AJ H H'->Is K H' l v Gh->Gh.Nodup->(∀p∈Gh,H p=aB/\EN (H' p))->Q v H'
def JW(X:Cx)(e:bT)(f:XE):Prop:=JY X e (GY X.K f)
def AU(X:Cx)(e:bT)(f:XE):Prop:=JY X e (Fq X.K f)
section
variable {X:Cx} {e:bT} {f g:XE} {t t':TE}
def JY.imp(h:JY X e t)(i:∀a H Q,t' a H Q->t a H Q):JY X e t':=λb s a H Q I q=>h b s a H Q I (i a H Q q)
def AU.ve(h:AU X e f):JW X e f:=JY.imp h λj H Q ⟨m,s,l,a,env,e,k⟩=>
 ⟨s,l,env.free,e,λv d b c i _ n=>k v d b c i λp g z=>Xt (a p z) (n p g).1⟩
def AN(f:XE):XE:=λs=>(f s).bind λl=>if MS l=aD then aA l else aB
def Zfl(h:AN f s=aA l):f s=aA l/\MS l=aD:=by
 delta AN at h
 cases q:f s with
 | none=>rw[q] at h;cases h
 | some a=>
  rw[q] at h;dsimp[aZ] at h;split at h
  ·cases h;apply⟨rfl,by assumption⟩
  ·cases h
def JW.pure(h:JW X e f):AU X e (AN f):=JY.imp h<|by
 ext m H Q ⟨s,l,env,e,k⟩;let⟨g,c⟩:=Zfl e;show⟨λ_=>False,s,l,λ_ z=>z.elim,env,g,λv d a b i n=>?_⟩;let:=Is.pure l v a c i;subst this;apply k v d [] b i cI λp j=>by simp at j
end
def Cw(i:Nat):XE:=λs=>(s[i]?).join
def AL(l:PV):XE:=λ_=>aA l
def Qn(h:Cw i s=aA l):s[i]?=aA (aA l):=by
 delta Cw at h
 cases q:s[i]? with
 | none=>rw[q] at h;cases h
 | some o=>rw[q] at h;cases o with
  | none=>cases h
  | some a=>cases h;rfl
section
variable {X:Cx} {pos:g6}
def PR(h:JY X e (KO i)):JW X e (Cw i):=JY.imp h<|by ext g H Q ⟨j,s,l,f,env,e,k⟩;let⟨v,d,a,b,c⟩:=env.is i l (Qn e);apply⟨v,a,k v H d (AJ.refl H) b c⟩
def yd(h:JY X e (Fy v))(b:∀H,Is X.K H l v []):JW X e (AL l):=JY.imp h<|by
 ext d H Q ⟨g,s,f,c,env,e,k⟩;cases e;apply k v H [] (AJ.refl H) (b H) λp a=>by simp at a
def Zj:JW X (.Constant (.int i) j pos) (AL (.int i)):=yd Xp λ_=>Is.int i
def VF:JW X (.Constant (.bool i) j pos) (AL (.Ap i)):=yd Zmu λ_=>Is.Ap i
def OK:JW X (.Constant .none j pos) (AL .Ma):=yd Xh λ_=>Is.Ma
end
def KD(K:aG)(r:JO)(g:PV->PV->Option PV):Prop:=∀(H:Hp)(x y:V)(a b l:PV)(fa fb:Gs),Is K H a x fa->Is K H b y fb->g a b=aA l->∀Q:Me,
 (∀v H' Gh,AJ H H'->Is K H' l v Gh->(∀p∈Gh,p∈fa\/p∈fb\/H p=aB)->Q v H')->r x y H Q
def Cy(g:PV->PV->Option PV)(a b:XE):XE:=λs=>(a s).bind λx=>(b s).bind λy=>g x y
def VG(h:Cy g a b s=aA l):∃x y,a s=aA x/\b s=aA y/\g x y=aA l:=by
 delta Cy at h
 cases q:a s with
 | none=>rw[q] at h;cases h
 | some x=>cases aah:b s with
  | none=>rw[q,aah] at h;cases h
  | some y=>rw[q,aah] at h;apply⟨x,y,rfl,rfl,h⟩
section
variable {X:Cx} {a b:bT} {fa fb:XE} {pos:g6}
def PK{r:JO}{g:PV->PV->Option PV}(D:KD K r g):∀b H Q,GY K (Cy g fa fb) b H Q->IW r (GY K fa) (GY K fb) b H Q:=by
 ext b H Q ⟨i,s,l,a,env,e,k⟩;let⟨d,f,F,C,e⟩:=VG e;show⟨i,s,d,a,env,F,λx G f1 s1 o B=>⟨i,s,f,λp c=>AJ.mut s1 (a p c),env.mono s1,C,λy q u s2 m E=>?_⟩⟩;show D q x y d f l f1 u (o.mono s2) m e Q λv t w j A n=>k v t w (s1.trans (s2.trans j)) A λp c z=>?_;rcases n p c with h | h | h
 ·apply B p h z
 ·apply E p h z
 ·apply Xt (AJ.mut (s1.trans s2) (a p z)) h
def Yv(f:MU X (gS op) r)(d:KD X.K r g)(e:JW X a fa)(c:JW X b fb):JW X (.BinOp a op b pos) (Cy g fa fb):=
 JY.imp (vA f e c) (PK d)
def yk(h:MU X (dW op) r)(e:KD X.K r g)(d:JW X a fa)(c:JW X b fb)(f:dX op b=aC):JW X (.Compare a [op] [b] pos) (Cy g fa fb):=
 JY.imp (Zey h d c f) (PK e)
def Znr(f:Dt X r)(e:KD X.K r g)(d:JW X a fa)(c:JW X b fb)(hs:MI b):JW X (.Subscript a b pos) (Cy g fa fb):=
 JY.imp (yf f d c hs) (PK e)
end
def Bm(g:M_):PV->PV->Option PV
 | .int i,.int j=>aA (.int (g i j))
 | _,_=>aB
def Bg(g:Int->Int->Bool):PV->PV->Option PV
 | .int i,.int j=>aA (.Ap (g i j))
 | _,_=>aB
def A9(C:L1)[∀i j,Decidable (C i j)](g:M_):PV->PV->Option PV
 | .int i,.int j=>if C i j then aA (.int (g i j)) else aB
 | _,_=>aB
def Zfn(h:Bm g a b=aA l):∃i j,a = .int i/\b = .int j/\l = .int (g i j):=by
 delta Bm at h;split at h
 ·cases h;apply⟨_,_,rfl,rfl,rfl⟩
 ·cases h
def Zfo(h:Bg g a b=aA l):∃i j,a = .int i/\b = .int j/\l = .Ap (g i j):=by
 delta Bg at h;split at h
 ·cases h;apply⟨_,_,rfl,rfl,rfl⟩
 ·cases h
def Zaa[∀i j,Decidable (C i j)](h:A9 C g a b=aA l):∃i j,a = .int i/\b = .int j/\C i j/\l = .int (g i j):=by
 delta A9 at h;split at h
 ·split at h
  ·cases h;apply⟨_,_,rfl,rfl,by assumption,rfl⟩
  ·cases h
 ·cases h
def Zns(g:M_):KD K (IF λi j=>.int (g i j)) (Bm g):=λH x y a b l h fb d c e Q k=>by let⟨i,j,rfl,rfl,rfl⟩:=Zfn e;apply⟨i,j,d.int_inv.1,c.int_inv.1,k _ H [] (AJ.refl H) (Is.int _) λp f=>by simp at f⟩
def g'(g:Int->Int->Bool):KD K (IF λi j=>.Ap (g i j)) (Bg g):=λH x y a b l h fb d c e Q k=>by let⟨i,j,rfl,rfl,rfl⟩:=Zfo e;apply⟨i,j,d.int_inv.1,c.int_inv.1,k _ H [] (AJ.refl H) (Is.Ap _) λp f=>by simp at f⟩
def xk(C:L1)[∀i j,Decidable (C i j)](g:M_):KD K (IP C λi j=>.int (g i j)) (A9 C g):=λH x y a b l m fb f d e Q k=>by let⟨i,j,rfl,rfl,c,rfl⟩:=Zaa e;apply⟨i,j,f.int_inv.1,d.int_inv.1,c,k _ H [] (AJ.refl H) (Is.int _) λp h=>by simp at h⟩
instance (i j:Int):Decidable (Dy i j):=by delta Dy;infer_instance
instance (i j:Int):Decidable (Kk i j):=by delta Kk;infer_instance
instance (i j:Int):Decidable (B7 i j):=by delta B7;infer_instance
instance (i j:Int):Decidable (NB i j):=by delta NB;infer_instance
abbrev YD:=Bm (· + ·)
abbrev Vc:=Bm (· - ·)
abbrev CU:=A9 Dy (· * ·)
abbrev WU:=A9 Kk (· / ·)
abbrev XG:=A9 (λ_ j=>0<j) (· % ·)
abbrev Znt:=A9 NB (λi j=>i^j.toNat)
abbrev CV:=Bg (λi j=>decide (i<j))
abbrev oLe:=Bg (λi j=>decide (i<=j))
abbrev E3:=Bg (λi j=>decide (j<i))
abbrev vS:=Bg (λi j=>decide (j<=i))
section
variable {X:Cx} {a b:bT} {fa fb:XE} {pos:g6}
def Zko(d:JW X a fa)(c:JW X b fb):JW X (.BinOp a .Add b pos) (Cy YD fa fb):=Yv Zj0 (Zns _) d c
def Xw(d:JW X a fa)(c:JW X b fb):JW X (.BinOp a .Sub b pos) (Cy Vc fa fb):=Yv Zj1 (Zns _) d c
def Zab(d:JW X a fa)(c:JW X b fb):JW X (.BinOp a .Mult b pos) (Cy CU fa fb):=Yv Zj2 (xk _ _) d c
def XU(d:JW X a fa)(c:JW X b fb):JW X (.BinOp a .FloorDiv b pos) (Cy WU fa fb):=Yv Zex (xk _ _) d c
def Zkp(d:JW X a fa)(c:JW X b fb):JW X (.BinOp a .Mod b pos) (Cy XG fa fb):=Yv Zj3 (xk _ _) d c
def Zkq(d:JW X a fa)(c:JW X b fb):JW X (.BinOp a .Pow b pos) (Cy Znt fa fb):=Yv Zj4 (xk _ _) d c
def Zik(d:JW X a fa)(c:JW X b fb):JW X (.Compare a [.Gt] [b] pos) (Cy E3 fa fb):=yk Zif (g' _) d c (UY _)
end
def JZ:PV->PV->Option PV
 | .lst l,.int i=>AZ l i
 | .cst l,.int i=>AZ l i
 | .tup l,.int i=>AZ l i
 | .str z,.int i=>if z.length<=sizeLine then(AZ z.cps.toList i).map λc=>.str ⟨#[c]⟩ else aB
 | _,_=>aB
def VW(h:JX K H l xs Gh)(e:AZ l i=aA a):∃x f1,AZ xs i=aA x/\Is K H a x f1/\∀p∈f1,p∈Gh:=by
 delta AZ at e ⊢;rw[h.len]
 cases q:Kn l.length i with
 | none=>rw[q] at e;cases e
 | some j=>rw[q] at e;apply h.get e
def Znu:KD K (D_ K) JZ:=λH x y a b l r fb n m e Q k=>by
 delta JZ at e;split at e
 ·let⟨p,xs,o,rfl,d,i,rfl⟩:=n.lst_inv;let⟨z,f1,f,j,g⟩:=VW i e;apply .inl ⟨p,xs,_,z,rfl,m.int_inv.1,EJ.of d,f,k z H f1 (AJ.refl H) j λq h=>.inl (aS _ (g q h))⟩
 ·let⟨p,xs,rfl,d,i⟩:=n.gF;let⟨z,f1,f,j,g⟩:=VW i e;apply .inl ⟨p,xs,_,z,rfl,m.int_inv.1,d.sq,f,k z H f1 (AJ.refl H) j λq h=>.inl (g q h)⟩
 ·let⟨p,xs,rfl,d,i⟩:=n.b_;let⟨z,f1,f,j,g⟩:=VW i e;apply .inr (.inl ⟨p,xs,_,z,rfl,m.int_inv.1,CG.of d,f,k z H f1 (AJ.refl H) j λq h=>.inl (g q h)⟩)
 ·split at e
  ·cases q:AZ _ _ with
   | none=>rw[q] at e;cases e
   | some c=>
    rw[q] at e;cases e;apply .inr (.inr ⟨_,_,c,n.str_inv.1,m.int_inv.1,by assumption,q,k _ H [] (AJ.refl H) (Is.str _) λp d=>by simp at d⟩)
  ·cases e
 ·cases e
section
variable {X:Cx} {a b:bT} {fa fb:XE} {pos:g6}
def Zfp(d:JW X a fa)(c:JW X b fb)(hs:MI b:=by apply λ_ _=>rfl):JW X (.Subscript a b pos) (Cy JZ fa fb):=Znr Zj9 Znu d c hs
end
abbrev XT:=ZK->Option Bool
def GK(K:aG)(f:XT):TT:=λσ H Q=>∃(Rm:Le) (s:ZK) (c:Bool),(∀p,Rm p->EN (H p))/\dg K Rm H s σ/\f s=aA c/\∀H',AJ H H'->Q c H'
def A5(X:Cx)(e:bT)(f:XT):Prop:=CQ X e (GK X.K f)
def EL(X:Cx)(e:bT)(f:XT):Prop:=PW X e (GK X.K f)
section
variable {X:Cx} {e:bT} {f:XT}
def CQ.imp(h:CQ X e t)(i:∀a H Q,t' a H Q->t a H Q):CQ X e t':=λb s a H Q I q=>h b s a H Q I (i a H Q q)
def PW.imp(h:PW X e t)(i:∀b H Q,t' b H Q->t b H Q):PW X e t':=λa c s b H Q I q=>h a c s b H Q I (i b H Q q)
def EL.vt(h:EL X e f):A5 X e f:=PW.pt h
end
def AO(f:XE):XT:=λs=>match f s with | some (.Ap c)=>aA c | _=>aB
def Rk(h:AO f s=aA c):f s=aA (.Ap c):=by
 delta AO at h;split at h
 ·cases h;assumption
 ·cases h
def HM:PV->Option Bool
 | .Ma=>aA aC
 | .Ap b=>aA b
 | .int i=>aA (i != 0)
 | .str y=>if y.length<=sizeLine then aA ((y.length:Int) != 0) else aB
 | .lst l=>aA !l.isEmpty
 | .cst l=>aA !l.isEmpty
 | .tup l=>aA !l.isEmpty
 | _=>aB
def By(f:XE):XT:=λs=>(f s).bind HM
section
variable {X:Cx} {a b c:bT} {EH:Mk} {fa fb:XE} {ga gb:XT} {pos:g6}
def Xj(h:JW X a fa)(d:∀whole,qA a X.env whole=(do let v <-whole;sC a.pos;holding [v] (truthy v)):=by ext _;rfl):A5 X a (AO fa):=
 CQ.imp (Zjm h d) λl H Q ⟨g,s,c,b,env,e,k⟩=>⟨g,s,.Ap c,b,env,Rk e,λv j m f i n=>⟨c,i.dV.1,k j f⟩⟩
def YY:∀a H Q,GK K (AO fa) a H Q->J2 (GY K fa) a H Q:=λa H Q ⟨g,s,c,d,env,e,k⟩=>⟨g,s,.Ap c,d,env,Rk e,λv b h f i n=>⟨c,i.dV.1,k b f⟩⟩
def OL(i:∀a H Q,t' a H Q->t a H Q):∀a H Q,J2 t' a H Q->J2 t a H Q:=λa H Q h=>i a H _ h
def SE(j:MU X (dW op) r)(f:KD X.K r g)(e:JW X a fa)(d:JW X b fb)(i:dX op b=aC):A5 X (.Compare a [op] [b] pos) (AO (Cy g fa fb)):=
 CQ.imp (Zez j e d i) λc H Q h=>OL (PK f) c H Q (YY c H Q h)
def tC(d:JW X a fa)(c:JW X b fb):A5 X (.Compare a [.Lt] [b] pos) (AO (Cy CV fa fb)):=SE RC (g' _) d c (UY _)
def Sz(d:JW X a fa)(c:JW X b fb):A5 X (.Compare a [.Gt] [b] pos) (AO (Cy E3 fa fb)):=SE Zif (g' _) d c (UY _)
def Znw(d:JW X a fa)(c:JW X b fb):A5 X (.Compare a [.GtE] [b] pos) (AO (Cy vS fa fb)):=SE Zm9 (g' _) d c (UY _)
def KJ(a b:XT):XT:=λs=>(a s).bind λc=>if c=aD then b s else aA aC
def Ky(a b:XT):XT:=λs=>(a s).bind λc=>if c=aD then aA aD else b s
def Kt(a:XT):XT:=λs=>(a s).map not
def Zfq:∀a H Q,GK K (KJ ga gb) a H Q->F5 (GK K ga) (GK K gb) a H Q:=by
 ext a H Q ⟨f,s,c,b,env,e,k⟩;delta KJ at e
 cases q:ga s with
 | none=>rw[q] at e;cases e
 | some d=>
  rw[q] at e;show⟨f,s,d,b,env,q,λi s1=>?_⟩
  cases d with
  | true=>
   apply⟨f,s,c,λp g=>AJ.mut s1 (b p g),env.mono s1,e,λh s2=>k h (s1.trans s2)⟩
  | false=>
   cases e;apply k i s1
def Zkr:∀a H Q,GK K (Ky ga gb) a H Q->B0 (GK K ga) (GK K gb) a H Q:=by
 ext a H Q ⟨f,s,c,b,env,e,k⟩;delta Ky at e
 cases q:ga s with
 | none=>rw[q] at e;cases e
 | some d=>
  rw[q] at e;show⟨f,s,d,b,env,q,λi s1=>?_⟩
  cases d with
  | true=>
   cases e;apply k i s1
  | false=>
   apply⟨f,s,c,λp g=>AJ.mut s1 (b p g),env.mono s1,e,λh s2=>k h (s1.trans s2)⟩
def WA(b:A5 X a ga):EL X (.BoolOp .And [a] pos) ga:=Zer b
def SF(b:A5 X a ga):EL X (.BoolOp .Or [a] pos) ga:=Zjn b
def Ud(d:A5 X a ga)(c:EL X (.BoolOp .And (b::EH) pos) gb):EL X (.BoolOp .And (a::b::EH) pos) (KJ ga gb):=PW.imp (Zjo d c) Zfq
def OM(d:A5 X a ga)(c:EL X (.BoolOp .Or (b::EH) pos) gb):EL X (.BoolOp .Or (a::b::EH) pos) (Ky ga gb):=PW.imp (Zmx d c) Zkr
def WV(f:A5 X a ga):A5 X (.UnaryOp .Not a pos) (Kt ga):=CQ.imp (Zjp f)<|by
 ext h H Q ⟨g,s,c,b,env,e,k⟩;delta Kt at e
 cases q:ga s with
 | none=>rw[q] at e;cases e
 | some d=>rw[q] at e;cases e;apply⟨g,s,d,b,env,q,k⟩
def Zac(o:JW X a fa)(h:∀whole,qA a X.env whole=(do let v <-whole;sC a.pos;holding [v] (truthy v)):=by ext _;rfl):A5 X a (By fa):=
 CQ.imp (w' o h) λu H Q ⟨r,s,c,g,env,e,k⟩=>by
 delta By at e
 cases q:fa s with
 | none=>rw[q] at e;cases e
 | some l=>
  rw[q] at e;dsimp[aZ] at e;show⟨r,s,l,g,env,q,λv t x m i n=>⟨c,?_,k t m⟩⟩
  cases l with
  | Ma=>rw[i.jg.1];cases e;rfl
  | Ap b=>rw[i.dV.1];cases e;rfl
  | int j=>rw[i.int_inv.1];cases e;rfl
  | str y=>
   rw[i.str_inv.1];dsimp[HM] at e;split at e
   ·cases e;apply⟨by assumption,rfl⟩
   ·cases e
  | lst l=>
   let⟨p,xs,w,rfl,f,d,_⟩:=i.lst_inv;cases e;show .inl ⟨xs,EJ.of f,?_⟩;let:=d.len;cases xs<;>cases l<;>simp at this ⊢
  | cst l=>
   let⟨p,xs,rfl,f,d⟩:=i.gF;cases e;show .inl ⟨xs,f.sq,?_⟩;let:=d.len;cases xs<;>cases l<;>simp at this ⊢
  | tup l=>
   let⟨p,xs,rfl,f,d⟩:=i.b_;cases e;show .inr (.inl ⟨xs,CG.of f,?_⟩);let:=d.len;cases xs<;>cases l<;>simp at this ⊢
  | ty n=>cases e
  | exc C=>cases e
  | Cu C l=>cases e
  | ox C l=>cases e
  | Mf ks l=>cases e
  | L8 ks l=>cases e
end
section
variable {X:Cx} {a b c:bT} {EH:Mk} {fa fb:XE} {gc:XT} {pos:g6}
def Fp(a b:XE):XE:=λs=>(AO a s).bind λc=>if c=aD then b s else aA (.Ap aC)
def D5(a b:XE):XE:=λs=>(AO a s).bind λc=>if c=aD then aA (.Ap aD) else b s
def DK(a:XE):XE:=λs=>(AO a s).map λc=>.Ap !c
def CW(c:XT)(a b:XE):XE:=λs=>(c s).bind λk=>if k=aD then a s else b s
def ON(h:JW X a fa):JW X (.BoolOp op [a] pos) fa:=Zjq h
def U2(o:JW X a fa)(i:JW X (.BoolOp .And (b::EH) pos) fb):JW X (.BoolOp .And (a::b::EH) pos) (Fp fa fb):=JY.imp (Zjr o i)<|by
 ext w H Q ⟨h,s,l,g,env,e,k⟩;delta Fp at e
 cases q:AO fa s with
 | none=>rw[q] at e;cases e
 | some d=>
  rw[q] at e;show⟨h,s,.Ap d,g,env,Rk q,λv u x s1 m _=>⟨d,m.dV.1,?_⟩⟩
  cases d with
  | true=>
   apply⟨h,s,l,λp f=>AJ.mut s1 (g p f),env.mono s1,e,λr n c s2 j t=>k r n c (s1.trans s2) j t⟩
  | false=>
   cases e;apply k _ u [] s1 (Is.Ap aC) λp f=>by simp at f
def Zks(f:JW X a fa):JW X (.UnaryOp .Not a pos) (DK fa):=JY.imp (Zjs f)<|by
 ext j H Q ⟨g,s,l,b,env,e,k⟩;delta DK at e
 cases q:AO fa s with
 | none=>rw[q] at e;cases e
 | some d=>
  rw[q] at e;cases e;apply⟨g,s,.Ap d,b,env,Rk q,λv h m s1 c _=>⟨d,c.dV.1,k _ h [] s1 (Is.Ap _) λp i=>by simp at i⟩⟩
def g_(t:A5 X c gc)(u:JW X a fa)(r:JW X b fb):JW X (.IfExp c a b pos) (CW gc fa fb):=JY.imp (r1 t u r)<|by
 ext v H Q ⟨m,s,l,g,env,e,k⟩;delta CW at e
 cases q:gc s with
 | none=>rw[q] at e;cases e
 | some d=>
  rw[q] at e;show⟨m,s,d,g,env,q,λw s1=>?_⟩
  cases d with
  | true=>
   apply⟨m,s,l,λp o=>AJ.mut s1 (g p o),env.mono s1,e,λj i f s2 h n=>k j i f (s1.trans s2) h n⟩
  | false=>
   apply⟨m,s,l,λp o=>AJ.mut s1 (g p o),env.mono s1,e,λj i f s2 h n=>k j i f (s1.trans s2) h n⟩
end
section
variable {X:Cx} {a b c:bT} {fa fb fc:XE} {pos:g6}
def DT(neg:Bool):PV->Option PV
 | .Ma=>aA (.Ap !neg)
 | _=>aA (.Ap neg)
def BD:PV->Bool
 | .Ma=>aD
 | _=>aC
def OP(i:Is K H l v Gh):decide (v=V.Ma)=BD l:=by
 cases l with
 | Ma=>rw[i.jg.1];rfl
 | Ap b=>rw[i.dV.1];rfl
 | int j=>rw[i.int_inv.1];rfl
 | str y=>rw[i.str_inv.1];rfl
 | ty n=>rw[i.ri.1];rfl
 | exc C=>let⟨⟨e,o,x,C,rfl,_⟩,_⟩:=i;rfl
 | Cu C l=>let⟨⟨e,o,x,C,q,h,u,z,rfl,_⟩,_⟩:=i;rfl
 | ox C l=>let⟨u,x,⟨f,k,c,m,e,d,g,Gq,rfl,_⟩,_⟩:=i;rfl
 | lst l=>let⟨p,xs,a,rfl,_⟩:=i.lst_inv;rfl
 | cst l=>let⟨p,xs,rfl,_⟩:=i.gF;rfl
 | tup l=>let⟨p,xs,rfl,_⟩:=i.b_;rfl
 | Mf ks l=>let⟨p,xs,a,rfl,_⟩:=i.qa;rfl
 | L8 ks l=>let⟨p,xs,a,rfl,_⟩:=i.nS;rfl
def C9(neg:Bool)(a:XE):XE:=λs=>(a s).bind (DT neg)
def Zfs:∀a H Q,GY K (C9 aC fa) a H Q->B4 (GY K fa) a H Q:=by
 ext a H Q ⟨g,s,l,c,env,e,k⟩;delta C9 at e
 cases q:fa s with
 | none=>rw[q] at e;cases e
 | some m=>
  rw[q] at e;dsimp[aZ] at e;show⟨g,s,m,c,env,q,λv b h s1 f _=>?_⟩;change Q _ b;rw[OP f];have:l = .Ap (BD m):=by cases m<;>cases e<;>rfl
  subst this;apply k _ b [] s1 (Is.Ap _) λp d=>by simp at d
def Zad:∀a H Q,GY K (C9 aD fa) a H Q->NX (GY K fa) a H Q:=by
 ext a H Q ⟨g,s,l,c,env,e,k⟩;delta C9 at e
 cases q:fa s with
 | none=>rw[q] at e;cases e
 | some m=>
  rw[q] at e;show⟨g,s,m,c,env,q,λv b h s1 f _=>?_⟩;change Q _ b;rw[OP f];have:l = .Ap (!BD m):=by cases m<;>cases e<;>rfl
  subst this;apply k _ b [] s1 (Is.Ap _) λp d=>by simp at d
def Zkt(b:JW X a fa):JW X (.Compare a [.Is] [.Constant .none j pos'] pos) (C9 aC fa):=JY.imp (Zjl (Zjk b)) Zfs
def Zil:∀a H Q,GK K (AO fa) a H Q->Jh (GY K fa) a H Q:=λa H Q ⟨g,s,c,d,env,e,k⟩=>⟨g,s,.Ap c,d,env,Rk e,λv b h f i n=>⟨c,i.dV.1,k b f⟩⟩
def Q8(i:∀a H Q,t' a H Q->t a H Q):∀a H Q,Jh t' a H Q->Jh t a H Q:=λa H Q h=>i a H _ h
def Yl(c:JW X a fa):A5 X (.Compare a [.IsNot] [.Constant .none j pos'] pos) (AO (C9 aD fa)):=CQ.imp (nL (Zeq c)) λb H Q h=>Q8 Zad b H Q (Zil b H Q h)
def K4:PV->Option PV
 | .int i=>aA (.int (-i))
 | _=>aB
def A6(g:PV->Option PV)(a:XE):XE:=λs=>(a s).bind g
def SG(d:JW X a fa):JW X (.UnaryOp .USub a pos) (A6 K4 fa):=JY.imp (Zm7 Zj5 d)<|by
 ext i H Q ⟨f,s,l,b,env,e,k⟩;delta A6 at e
 cases q:fa s with
 | none=>rw[q] at e;cases e
 | some m=>
  rw[q] at e;dsimp[aZ] at e;delta K4 at e;split at e
  ·cases e;apply⟨f,s,_,b,env,q,λv g j s1 c _=>⟨_,c.int_inv.1,k _ g [] s1 (Is.int _) λp h=>by simp at h⟩⟩
  ·cases e
end
end _v
namespace _v
open PySem PySem.Spec PyProof.Rows _l
variable {K:aG}
def A2:List XE->ZK->Option (List PV)
 | [],_=>aA []
 | f::fs,s=>(f s).bind λx=>(A2 fs s).map (x::·)
def OR(h:A2 (f::fs) s=aA ls):∃x r,f s=aA x/\A2 fs s=aA r/\ls=x::r:=by
 delta A2 at h
 cases q:f s with
 | none=>rw[q] at h;cases h
 | some x=>cases aah:A2 fs s with
  | none=>rw[q,aah] at h;cases h
  | some r=>rw[q,aah] at h;cases h;apply⟨x,r,rfl,rfl,rfl⟩
def Xu:∀{fs:List XE}{s:ZK}{ls:List PV},A2 fs s=aA ls->la ls=la fs
 | [],_,_,h=>by cases h;rfl
 | f::fs,s,ls,h=>by let⟨x,r,_,a,rfl⟩:=OR h;rw[bH,bH,Xu a]
def F0(K:aG)(fs:List XE):Az:=λσ H Q=>∃(Rm:Le) (s:ZK) (ls:List PV),(∀p,Rm p->EN (H p))/\dg K Rm H s σ/\A2 fs s=aA ls/\∀vs H' Gh,AJ H H'->JX K H' ls vs Gh->(∀p∈Gh,¬Rm p)->Q vs H'
def Ed(K:aG)(fs:List XE):Az:=λσ H Q=>∃(s:ZK) (ls:List PV),dg K (λ_=>False) H s σ/\A2 fs s=aA ls/\∀vs H' Gh,AJ H H'->JX K H' ls vs Gh->Gh.Nodup->(∀p∈Gh,H p=aB/\EN (H' p))->Q vs H'
def Kr(X:Cx)(Gi:Mk)(fs:List XE):Prop:=MY X Gi (F0 X.K fs)
def BB(X:Cx)(Gi:Mk)(fs:List XE):Prop:=MY X Gi (Ed X.K fs)
section
variable {X:Cx} {e:bT} {Gi:Mk} {f:XE} {fs:List XE} {pos:g6} {k:Nat}
def MY.imp(h:MY X Gi t)(i:∀a H Q,t' a H Q->t a H Q):MY X Gi t':=λpos b s a H Q I q=>h pos b s a H Q I (i a H Q q)
def Ue:Kr X [] []:=MY.imp YN<|by
 ext c H Q ⟨d,s,ls,b,env,e,k⟩;cases e;apply k [] H [] (AJ.refl H) JX.nil λp a=>by simp at a
def Y4(q:JW X e f)(r:Kr X Gi fs)(hs:aN (e::Gi) X.env=(aC,eval e X.env)::aN Gi X.env|>On):Kr X (e::Gi) (f::fs):=MY.imp (ZQ q r hs)<|by
 ext v H Q ⟨c,s,ls,b,env,e,k⟩;let⟨d,m,j,t,rfl⟩:=OR e;show⟨c,s,d,b,env,j,λx w f1 s1 i o=>⟨c,s,m,λp a=>AJ.mut s1 (b p a),env.mono s1,t,λxs l n s2 g u=>?_⟩⟩;show k _ l (f1++n) (s1.trans s2) (JX.cons (i.mono s2) g) λp a=>?_;rcases aj.mp a with h | h
 ·apply o p h
 ·apply u p h
def YQ:BB X [] []:=MY.imp YN<|by
 ext b H Q ⟨s,ls,env,e,k⟩;cases e;apply k [] H [] (AJ.refl H) JX.nil cI λp a=>by simp at a
def Yy(d:AU X e f)(v:BB X Gi fs)(hs:aN (e::Gi) X.env=(aC,eval e X.env)::aN Gi X.env|>On):BB X (e::Gi) (f::fs):=MY.imp (ZQ d v hs)<|by
 ext A H Q ⟨s,ls,env,e,k⟩;let⟨j,t,o,w,rfl⟩:=OR e;show⟨s,j,env,o,λx B f1 s1 n q c=>⟨s,t,env.mono s1,w,λxs r u s2 m i g=>?_⟩⟩;show k _ r (f1++u) (s1.trans s2) (JX.cons (n.mono s2) m) ?_ λp y=>?_
 ·show dq.mpr ⟨q,i,λa d b l z=>?_⟩;subst z;apply Xt (c a d).2 (g a l).1
 ·rcases aj.mp y with h | h
  ·apply⟨(c p h).1,AJ.mut s2 (c p h).2⟩
  ·apply⟨AJ.off s1 (g p h).1,(g p h).2⟩
def EM(fs:List XE):XE:=λs=>(A2 fs s).map .tup
def Mv(fs:List XE):XE:=λs=>(A2 fs s).map .lst
def map_some(h:o.map g=aA b):∃a,o=aA a/\b=g a:=by
 cases o with
 | none=>cases h
 | some a=>cases h;apply⟨a,rfl,rfl⟩
def Z4(h:Kr X Gi fs)(m:la fs<=1000|>Op):JW X (.Tuple Gi k pos) (EM fs):=JY.imp (Zg h)<|by
 ext j H Q ⟨i,s,l,d,env,e,q⟩;let⟨ls,b,rfl⟩:=map_some e;show⟨i,s,ls,d,env,b,λvs n f s1 a g=>⟨?_,λp c=>?_⟩⟩
 ·rw[a.len,Xu b];apply dR (lt_size ())
 ·apply q _ _ f (s1.trans (AJ.new c _)) (Is.tup bh (a.mono (AJ.new c _))) g
def Zku(h:BB X Gi fs)(n:la fs<=1000|>Op):AU X (.Tuple Gi k pos) (EM fs):=JY.imp (Zg h)<|by
 ext m H Q ⟨s,l,env,e,q⟩;let⟨ls,g,rfl⟩:=map_some e;show⟨s,ls,env,g,λvs o j s1 c i d=>⟨?_,λp b=>?_⟩⟩
 ·rw[c.len,Xu g];apply dR (lt_size ())
 ·apply q _ _ j (s1.trans (AJ.new b _)) (Is.tup bh (c.mono (AJ.new b _))) i λa f=>⟨(d a f).1,AJ.mut (AJ.new b _) (d a f).2⟩
def XW(h:Kr X Gi fs)(n:la fs<=1000|>Op):JW X (.List Gi pos) (Mv fs):=JY.imp (RB h)<|by
 ext m H Q ⟨k,s,l,d,env,e,q⟩;let⟨ls,g,rfl⟩:=map_some e;show⟨k,s,ls,d,env,g,λvs o i s1 f j=>⟨?_,λp c=>?_⟩⟩
 ·rw[f.len,Xu g];apply dR (lt_size ())
 ·show q _ _ (p::i) (s1.trans (AJ.new c _)) (Is.lst bh (f.mono (AJ.new c _))) λa b z=>?_;rcases aY.mp b with rfl | b
  ·apply Xt (AJ.mut s1 (d a z)) c
  ·apply j a b z
def Wa(h:BB X Gi fs)(m:la fs<=1000|>Op):AU X (.List Gi pos) (Mv fs):=JY.imp (RB h)<|by
 ext k H Q ⟨s,l,env,e,q⟩;let⟨ls,g,rfl⟩:=map_some e;show⟨s,ls,env,g,λvs n j s1 f i d=>⟨?_,λp b=>?_⟩⟩
 ·rw[f.len,Xu g];apply dR (lt_size ())
 ·show q _ _ (p::j) (s1.trans (AJ.new b _)) (Is.lst bh (f.mono (AJ.new b _))) (av.mpr ⟨λz=>Xt (d p z).2 b,i⟩) λa c=>?_;rcases aY.mp c with rfl | c
  ·apply⟨AJ.off s1 b,by rw[bh];apply cK⟩
  ·apply⟨(d a c).1,AJ.mut (AJ.new b _) (d a c).2⟩
def OS:AU X (.Dict [] [] pos) (AL (.L8 [] [])):=JY.imp tr<|by
 ext d H Q ⟨s,l,env,e,q⟩ p b;cases e;apply q _ _ [p] (AJ.new b _) (Is.L8 bh rfl JX.nil) ⋯ λa c=>by rw[aO.mp c];apply⟨b,by rw[bh];apply cK⟩
end
def EV(K:aG)(D:List PV->Option PV)(n:Nat):Sp:=λvs H Q _=>vs.length=n/\∃ls Gh l,JX K H ls vs Gh/\D ls=aA l/\∀v H' fq,AJ H H'->Is K H' l v fq->fq.Nodup->(∀p∈fq,H p=aB/\EN (H' p))->Q v H'
def AK(D:List PV->Option PV)(fs:List XE):XE:=λs=>(A2 fs s).bind D
def Zc(h:o.bind g=aA b):∃a,o=aA a/\g a=aA b:=by
 cases o with
 | none=>cases h
 | some a=>apply⟨a,rfl,h⟩
section
variable {X:Cx} {x:bJ} {ps:Gm} {k:Nat} {e:bT} {Gi:Mk} {fs:List XE} {p pos:g6}
def P'(C:AG X.prog X.w X.K X.mg X.base x ps (EV X.K D n) k)(A:Cm k X.A)(y:Gl X x)(b:Kr X (e::Gi) fs)(r:la fs=n|>On)
  (d:(x==("__debug__" : bJ))=aC|>Op) (i:aN (e::Gi) X.env=(aC,eval e X.env)::aN Gi X.env|>On) (c:(ck pos (aN Gi X.env)).any (·.1)=aC|>On) :
  AU X (.Call (.Name x p) (e::Gi) [] pos) (AK D fs):=JY.imp (Zkl C A y b d i c) λE H Q ⟨s,l,env,e,q⟩=>by
 let⟨ls,g,w⟩:=Zc e;show⟨λ_=>False,s,ls,λ_ z=>z.elim,env,g,λvs B u s1 f F=>?_⟩;change EV X.K D n (vs++[]) B Q E0;rw[bx];apply⟨by rw[f.len,Xu g,r],ls,u,l,f,w,λv t m s2 o j h=>q v t m (s1.trans s2) o j λa b=>⟨AJ.off s1 (h a b).1,(h a b).2⟩⟩
end
def Ir(K:aG)(r:List V->Hp->Me->Prop)(g:List PV->Option PV):Prop:=∀(H:Hp)(vs:List V)(ls:List PV)(l:PV)(Gh:Gs),JX K H ls vs Gh->g ls=aA l->∀Q:Me,
 (∀v H' fq,AJ H H'->Is K H' l v fq->(∀p∈fq,p∈Gh\/H p=aB)->Q v H')->r vs H Q
def Bj(K:aG)(r:List V->Hp->Me->Prop)(g:List PV->Option PV):Prop:=∀(H:Hp)(vs:List V)(ls:List PV)(l:PV)(Gh:Gs),JX K H ls vs Gh->g ls=aA l->∀Q:Me,
 (∀v H' fq,AJ H H'->Is K H' l v fq->fq.Nodup->(∀p∈fq,H p=aB/\EN (H' p))->Q v H')->r vs H Q
def Zim(q:Ir K r g):∀a H Q,GY K (AK g fs) a H Q->BI r (F0 K fs) a H Q:=by
 ext a H Q ⟨o,s,l,b,env,e,k⟩;let⟨ls,t,m⟩:=Zc e;show⟨o,s,ls,b,env,t,λvs w j s1 f n=>q w vs ls l j f m Q λv i c s2 d u=>k v i c (s1.trans s2) d λp x z=>?_⟩;rcases u p x with h | h
 ·apply n p h z
 ·apply Xt (AJ.mut s1 (b p z)) h
def Zin(o:Bj K r g):∀a H Q,Fq K (AK g fs) a H Q->BI r (F0 K fs) a H Q:=by ext a H Q ⟨s,l,env,e,k⟩;let⟨ls,q,n⟩:=Zc e;apply⟨λ_=>False,s,ls,λ_ z=>z.elim,env,q,λvs t m s1 i u=>o t vs ls l m i n Q λv j f s2 h d b=>k v j f (s1.trans s2) h d λp c=>⟨AJ.off s1 (b p c).1,(b p c).2⟩⟩
section
variable {X:Cx} {x:bJ} {k:Nat} {e:bT} {Gi:Mk} {fs:List XE} {p pos:g6} {id T:L_} {r:List V->Hp->Me->Prop} {g:List PV->Option PV}
def XX(j:Ie X (.builtin id) r)(k:Ir X.K r g)(f:Gl X x)(l:X.mg x=aB)(d:dj x=aA (.builtin id))(i:Kr X (e::Gi) fs)(h:x≠"__name__"|>Op)(a:(x==("__debug__" : bJ))=aC|>Op)
  (c:aN (e::Gi) X.env=(aC,eval e X.env)::aN Gi X.env|>On) (b:(ck pos (aN Gi X.env)).any (·.1)=aC|>On):JW X (.Call (.Name x p) (e::Gi) [] pos) (AK g fs):=
 JY.imp (OB j f l d i h a c b) (Zim k)
def Zae(j:Ie X (.builtin id) r)(k:Bj X.K r g)(f:Gl X x)(l:X.mg x=aB)(d:dj x=aA (.builtin id))(i:Kr X (e::Gi) fs)(h:x≠"__name__"|>Op)(a:(x==("__debug__" : bJ))=aC|>Op)
  (c:aN (e::Gi) X.env=(aC,eval e X.env)::aN Gi X.env|>On) (b:(ck pos (aN Gi X.env)).any (·.1)=aC|>On):AU X (.Call (.Name x p) (e::Gi) [] pos) (AK g fs):=
 JY.imp (OB j f l d i h a c b) (Zin k)
def ZW(j:Ie X (.type T) r)(k:Ir X.K r g)(f:Gl X x)(l:X.mg x=aB)(d:dj x=aA (.type T))(i:Kr X (e::Gi) fs)(h:x≠"__name__"|>Op)(a:(x==("__debug__" : bJ))=aC|>Op)
  (c:aN (e::Gi) X.env=(aC,eval e X.env)::aN Gi X.env|>On) (b:(ck pos (aN Gi X.env)).any (·.1)=aC|>On):JW X (.Call (.Name x p) (e::Gi) [] pos) (AK g fs):=
 JY.imp (Wv j f l d i h a c b) (Zim k)
def Qo(j:Ie X (.type T) r)(k:Bj X.K r g)(f:Gl X x)(l:X.mg x=aB)(d:dj x=aA (.type T))(i:Kr X (e::Gi) fs)(h:x≠"__name__"|>Op)(a:(x==("__debug__" : bJ))=aC|>Op)
  (c:aN (e::Gi) X.env=(aC,eval e X.env)::aN Gi X.env|>On) (b:(ck pos (aN Gi X.env)).any (·.1)=aC|>On):AU X (.Call (.Name x p) (e::Gi) [] pos) (AK g fs):=
 JY.imp (Wv j f l d i h a c b) (Zin k)
end
def JX.c0(h:JX K H [l] vs Gh):∃v,vs=[v]/\Is K H l v Gh:=by let⟨x,r,f1,c,rfl,a,b,rfl⟩:=h.inv;rw[b.1,b.2,bx];apply⟨x,rfl,a⟩
def JX.kL(h:JX K H [l,m] vs Gh):∃v w f1 d,vs=[v,w]/\Is K H l v f1/\Is K H m w d/\Gh=f1++d:=by let⟨x,r,f1,d,rfl,a,b,rfl⟩:=h.inv;let⟨y,rfl,c⟩:=b.c0;apply⟨x,y,f1,d,rfl,a,c,rfl⟩
def Fo:PV->Option (List PV)
 | .lst l=>aA l
 | .cst l=>aA l
 | .tup l=>aA l
 | _=>aB
def Ug(h:Is K H l v Gh)(e:Fo l=aA m):∃p xs d,v = .ref p/\(EJ K H p xs\/CG K H p xs)/\JX K H m xs d/\∀q∈d,q∈Gh:=by
 cases l with
 | lst l=>
  cases e;let⟨p,xs,d,rfl,c,a,rfl⟩:=h.lst_inv;apply⟨p,xs,d,rfl,.inl (EJ.of c),a,λq b=>aS _ b⟩
 | cst l=>
  cases e;let⟨p,xs,rfl,c,a⟩:=h.gF;apply⟨p,xs,Gh,rfl,.inl c.sq,a,λq b=>b⟩
 | tup l=>
  cases e;let⟨p,xs,rfl,c,a⟩:=h.b_;apply⟨p,xs,Gh,rfl,.inr (CG.of c),a,λq b=>b⟩
 | _=>cases e
def CD:List PV->Option PV
 | [.str z]=>if z.length<=sizeLine then aA (.int z.length) else aB
 | [l]=>(Fo l).map λm=>.int m.length
 | _=>aB
def Zkw:Ir K (λxs H Q=>∃x n,xs=[x]/\F4 K x H n/\Q (.int n) H) CD:=λH vs ls l f h e Q k=>by
 delta CD at e;split at e
 ·split at e
  ·cases e;let⟨v,rfl,i⟩:=h.c0;apply⟨v,_,rfl,by rw[i.str_inv.1];apply⟨by assumption,rfl⟩,k _ H [] (AJ.refl H) (Is.int _) λp a=>by simp at a⟩
  ·cases e
 ·let⟨m,c,rfl⟩:=map_some e;let⟨v,rfl,i⟩:=h.c0;let⟨p,xs,d,rfl,a,b,_⟩:=Ug i c;show⟨_,xs.length,rfl,?_,?_⟩
  ·rcases a with a | a
   ·apply .inl ⟨xs,a,rfl⟩
   ·apply .inr ⟨xs,a,rfl⟩
  ·rw[b.len];apply k _ H [] (AJ.refl H) (Is.int _) λp a=>by simp at a
 ·cases e
def Ii:List PV->Option PV
 | [l]=>(Fo l).map .tup
 | _=>aB
def Yz:Ir K (Eo K) Ii:=λH vs ls l j h e Q k=>by
 delta Ii at e;split at e
 ·let⟨m,g,rfl⟩:=map_some e;let⟨v,rfl,i⟩:=h.c0;rename_i o
  cases o with
  | tup l=>
   cases g;let⟨p,xs,rfl,d,f⟩:=id i.b_;apply⟨p,xs,rfl,.inr ⟨CG.of d,k _ H j (AJ.refl H) i λa c=>.inl c⟩⟩
  | lst l=>
   cases g;let⟨p,xs,n,rfl,d,f,rfl⟩:=i.lst_inv;apply⟨p,xs,rfl,.inl ⟨EJ.of d,λq b=>k _ _ n (AJ.new b _) (Is.tup bh (f.mono (AJ.new b _))) λa c=>.inl (aS _ c)⟩⟩
  | cst l=>
   cases g;let⟨p,xs,rfl,d,f⟩:=i.gF;apply⟨p,xs,rfl,.inl ⟨d.sq,λq b=>k _ _ j (AJ.new b _) (Is.tup bh (f.mono (AJ.new b _))) λa c=>.inl c⟩⟩
  | _=>cases g
 ·cases e
def MD:List PV->Option PV
 | [l]=>(Fo l).bind λm=>if CF m=aD then aA (.lst m) else aB
 | _=>aB
def OT:Bj K (LZ K) MD:=λH vs ls l o h e Q k=>by
 delta MD at e;split at e
 ·let⟨m,g,b⟩:=Zc e;split at b
  ·cases b;let⟨v,rfl,i⟩:=h.c0;let⟨p,xs,n,rfl,j,d,hs⟩:=Ug i g;let:=JX.pure _ _ _ (by assumption) d;subst this;show⟨p,xs,rfl,j,λq c=>k _ _ [q] (AJ.new c _) (Is.lst bh (d.mono (AJ.new c _))) ⋯ λa f=>?_⟩;rw[aO.mp f];apply⟨c,by rw[bh];apply cK⟩
  ·cases b
 ·cases e
def J9:List PV->Option (List Int)
 | []=>aA []
 | .int i::r=>(J9 r).map (i::·)
 | _=>aB
def Z5:∀l:List Int,J9 (iL l)=aA l
 | []=>rfl
 | i::r=>by change(J9 (iL r)).map (i::·)=_;rw[Z5 r];rfl
def Yn:∀{m:List PV}{l:Gj},J9 m=aA l->m=iL l
 | [],l,h=>by cases h;rfl
 | .int i::r,l,h=>by let⟨a,e,rfl⟩:=map_some (show(J9 r).map (i::·)=aA l from h);rw[Yn e];rfl
 | .Ma::_,_,h=>by cases h
 | .Ap _::_,_,h=>by cases h
 | .str _::_,_,h=>by cases h
 | .ty _::_,_,h=>by cases h
 | .exc _::_,_,h=>by cases h
 | .Cu _ _::_,_,h=>by cases h
 | .ox _ _::_,_,h=>by cases h
 | .tup _::_,_,h=>by cases h
 | .lst _::_,_,h=>by cases h
 | .cst _::_,_,h=>by cases h
 | .Mf _ _::_,_,h=>by cases h
 | .L8 _ _::_,_,h=>by cases h
abbrev bL(l:L0):List PV:=l.map PV.Ap
def Np:List PV->Option (List Bool)
 | []=>aA []
 | .Ap i::r=>(Np r).map (i::·)
 | _=>aB
def Ss:∀l:List Bool,Np (bL l)=aA l
 | []=>rfl
 | i::r=>by change(Np (bL r)).map (i::·)=_;rw[Ss r];rfl
def WB:∀{m:List PV}{l:L0},Np m=aA l->m=bL l
 | [],l,h=>by cases h;rfl
 | .Ap i::r,l,h=>by let⟨a,e,rfl⟩:=map_some (show(Np r).map (i::·)=aA l from h);rw[WB e];rfl
 | .Ma::_,_,h=>by cases h
 | .int _::_,_,h=>by cases h
 | .str _::_,_,h=>by cases h
 | .ty _::_,_,h=>by cases h
 | .exc _::_,_,h=>by cases h
 | .Cu _ _::_,_,h=>by cases h
 | .ox _ _::_,_,h=>by cases h
 | .tup _::_,_,h=>by cases h
 | .lst _::_,_,h=>by cases h
 | .cst _::_,_,h=>by cases h
 | .Mf _ _::_,_,h=>by cases h
 | .L8 _ _::_,_,h=>by cases h
def JX.bL:∀{l:L0}{xs:List V}{Gh:Gs},JX K H (_v.bL l) xs Gh->xs=l.map V.Ap/\Gh=[]
 | [],xs,Gh,h=>by simpa only[_v.bL,kK,JX] using h
 | i::l,xs,Gh,h=>by let⟨x,r,f1,c,rfl,b,a,rfl⟩:=JX.inv (show JX K H (PV.Ap i::_v.bL l) xs Gh from h);let⟨rfl,rfl⟩:=b.dV;let⟨rfl,rfl⟩:=a.bL;apply⟨rfl,rfl⟩
def VT(h:EJ K H p xs\/CG K H p xs):∃b,Mr b K H p xs:=by
 rcases h with h | h
 ·apply⟨aD,h⟩
 ·apply⟨aC,h⟩
def Nd:List PV->Option PV
 | [l]=>(Fo l).bind λm=>(J9 m).map λns=>.int ns.sum
 | _=>aB
def G8:List PV->Option PV
 | [l]=>(Fo l).bind λm=>(Np m).map λbs=>.Ap (bs.all id)
 | _=>aB
def OU:Ir K (λxs H Q=>∃(b:Bool) (p:aP) (ns:Gj),xs=[.ref p]/\Mr b K H p (ns.map V.int)/\Q (.int ns.sum) H) Nd:=λH vs ls l q h e Q k=>by
 delta Nd at e;split at e
 ·let⟨m,j,f⟩:=Zc e;let⟨ns,d,rfl⟩:=map_some f;let⟨v,rfl,i⟩:=h.c0;let⟨p,xs,o,rfl,a,g,hs⟩:=Ug i j;let n:=Yn d;subst n;let⟨rfl,rfl⟩:=g.iL;let⟨b,c⟩:=VT a;apply⟨b,p,ns,rfl,c,k _ H [] (AJ.refl H) (Is.int _) λp a=>by simp at a⟩
 ·cases e
def Zaf:Ir K (λxs H Q=>∃(b:Bool) (p:aP) (bs:L0),xs=[.ref p]/\Mr b K H p (bs.map V.Ap)/\Q (.Ap (bs.all id)) H) G8:=λH vs ls l q h e Q k=>by
 delta G8 at e;split at e
 ·let⟨m,j,f⟩:=Zc e;let⟨ns,d,rfl⟩:=map_some f;let⟨v,rfl,i⟩:=h.c0;let⟨p,xs,o,rfl,a,g,hs⟩:=Ug i j;let n:=WB d;subst n;let⟨rfl,rfl⟩:=g.bL;let⟨b,c⟩:=VT a;apply⟨b,p,ns,rfl,c,k _ H [] (AJ.refl H) (Is.Ap _) λp a=>by simp at a⟩
 ·cases e
def IT:List PV->Option PV
 | [.int i,.int j]=>aA (.int (if j<i then j else i))
 | _=>aB
def E6:List PV->Option PV
 | [.int i,.int j]=>aA (.int (if j>i then j else i))
 | _=>aB
def IH:List PV->Option PV
 | [.int i]=>aA (.int i)
 | [.Ap c]=>aA (.int (if c then 1 else 0))
 | _=>aB
def Ub:Ir K (λxs H Q=>∃i j,xs=[.int i,.int j]/\Q (.int (if j<i then j else i)) H) IT:=λH vs ls l f h e Q k=>by
 delta IT at e;split at e
 ·cases e;let⟨v,w,f1,d,rfl,a,b,rfl⟩:=h.kL;apply⟨_,_,by rw[a.int_inv.1,b.int_inv.1],k _ H [] (AJ.refl H) (Is.int _) λp c=>by simp at c⟩
 ·cases e
def Zft:Ir K (λxs H Q=>∃i j,xs=[.int i,.int j]/\Q (.int (if j>i then j else i)) H) E6:=λH vs ls l f h e Q k=>by
 delta E6 at e;split at e
 ·cases e;let⟨v,w,f1,d,rfl,a,b,rfl⟩:=h.kL;apply⟨_,_,by rw[a.int_inv.1,b.int_inv.1],k _ H [] (AJ.refl H) (Is.int _) λp c=>by simp at c⟩
 ·cases e
def Ob:Ir K (λxs H Q=>(∃i,xs=[.int i]/\Q (.int i) H)\/∃k,xs=[.Ap k]/\Q (.int (if k then 1 else 0)) H) IH:=λH vs ls l c h e Q k=>by
 delta IH at e;split at e
 ·cases e;let⟨v,rfl,a⟩:=h.c0;apply .inl ⟨_,by rw[a.int_inv.1],k _ H [] (AJ.refl H) (Is.int _) λp b=>by simp at b⟩
 ·cases e;let⟨v,rfl,a⟩:=h.c0;apply .inr ⟨_,by rw[a.dV.1],k _ H [] (AJ.refl H) (Is.int _) λp b=>by simp at b⟩
 ·cases e
section
variable {X:Cx} {e:bT} {Gi:Mk} {fs:List XE} {p pos:g6}
noncomputable def tyP:PV->Option String
 | .int _=>aA "int"
 | .Ap _=>aA "bool"
 | .tup _=>aA "tuple"
 | .lst _=>aA "list"
 | .str _=>aA "str"
 | _=>aB
def Ja:List PV->Option PV
 | [a,.ty t]=>(tyP a).bind λu=>if t=u then aA (.Ap aD) else if u = "int"/\t = "bool" then aA (.Ap aC) else aB
 | _=>aB
def R6:c9 K (.type "bool") (.type "bool")=aA aD:=rfl
def Zkx(e:tyP a=aA u)(h:Is K H a v f):AD K H v (.type u)/\c9 K (.type u) (.type u)=aA aD:=by
 cases a<;>first
  | apply nomatch (show aB=aA u from e)
  | cases e
 ·let⟨rfl,_⟩:=h.dV;apply⟨AD.Ap _,R6⟩
 ·let⟨rfl,_⟩:=h.int_inv;apply⟨AD.int _,xR⟩
 ·let⟨rfl,_⟩:=h.str_inv;apply⟨AD.str _,eA⟩
 ·let⟨q,xs,rfl,b,_⟩:=h.b_;apply⟨AD.tup b,QW⟩
 ·let⟨q,xs,c,rfl,b,_⟩:=h.lst_inv;apply⟨AD.lst b,XJ⟩
def TK:Ir K (λxs H Q=>∃x T t b,xs=[x,.ty T]/\AD K H x t/\c9 K t (.type T)=aA b/\Q (.Ap b) H) Ja:=λH vs ls l m h e Q k=>by
 let c:∀b:Bool,l = .Ap b->Q (.Ap b) H:=λb z=>by subst z;apply k _ H [] (AJ.refl H) (Is.Ap _) λp j=>by simp at j
 delta Ja at e;split at e
 ·let⟨u,g,d⟩:=Zc e;let⟨v,w,f1,n,rfl,a,b,rfl⟩:=h.kL;let⟨f,i⟩:=Zkx g a;split at d
  ·rename_i z;subst z;cases d;apply⟨_,_,_,_,by rw[b.ri.1],f,i,c _ rfl⟩
  ·split at d
   ·rename_i z;let⟨rfl,rfl⟩:=z;cases d;apply⟨_,_,_,_,by rw[b.ri.1],f,tL,c _ rfl⟩
   ·cases d
 ·cases e
def zS(c:Gl X x)(e:X.mg x=aB)(b:dj x=aA (.type n))(d:x≠"__name__"|>Op)(a:(x==("__debug__" : bJ))=aC|>Op):JW X (.Name x pos) (AL (.ty n)):=
 yd (Zep c e b (v:=.ty n) rfl d a) λ_=>Is.ty n
end
end _v
namespace _v
open PySem PySem.Spec PyProof.Rows _l
variable {K:aG}
open Classical in
instance:DecidableEq PV:=λa b=>propDecidable (a=b)
def C1:Nat->PV->PV->Bool
 | _+1,.Ma,.Ma=>aD
 | _+1,.Ap _,.Ap _=>aD
 | _+1,.int _,.int _=>aD
 | _+1,.str _,.str _=>aD
 | n+1,.tup l,.tup m=>(l.zip m).all λz=>C1 n z.1 z.2
 | n+1,.lst l,.lst m=>(l.zip m).all λz=>C1 n z.1 z.2
 | _,_,_=>aC
def Rq(h:((a::l).zip (b::m)).all p=aD):p (a,b)=aD/\(l.zip m).all p=aD:=by rw[fU,ka,af] at h;apply h
def JX.p_(c:∀a b v fa fb,C1 n a b=aD->Is K H a v fa->Is K H b v fb->a=b):∀{l m:List PV}{xs:List V}{fa fb:Gs},(l.zip m).all (λz=>C1 n z.1 z.2)=aD->JX K H l xs fa->JX K H m xs fb->l=m
 | [],m,xs,fa,fb,_,h,h'=>by
  dsimp[JX] at h;rw[h.1] at h';let:=h'.len
  cases m with
  | nil=>rfl
  | cons _ _=>simp at this
 | a::l,m,xs,fa,fb,Ex,h,h'=>by
  let⟨x,r,f1,o,rfl,i,d,rfl⟩:=h.inv
  cases m with
  | nil=>have:=h'.len;simp at this
  | cons b m=>
   let⟨k,q,f,p,e,j,g,rfl⟩:=h'.inv;cases e;let⟨c1,c2⟩:=Rq Ex;rw[c a b x f1 f c1 i j,JX.p_ c c2 d g]
def Is.p_:∀(n:Nat)(a b:PV)(v:V)(fa fb:Gs),C1 n a b=aD->Is K H a v fa->Is K H b v fb->a=b
 | 0,a,b,v,fa,fb,Ex,_,_=>nomatch (show aC=aD from Ex)
 | n+1,a,b,v,fa,fb,Ex,Mi,Ck=>by
  cases a<;>cases b<;>first
   | apply nomatch (show aC=aD from Ex)
   | skip
  ·rfl
  ·rw[Mi.dV.1] at Ck;let:=Ck.dV.1;cases this;rfl
  ·rw[Mi.int_inv.1] at Ck;let:=Ck.int_inv.1;cases this;rfl
  ·rw[Mi.str_inv.1] at Ck;let:=Ck.str_inv.1;cases this;rfl
  ·let⟨p,xs,rfl,g,f⟩:=Mi.b_;let⟨i,j,e,c,d⟩:=Ck.b_;cases e;rw[g] at c;cases c;rw[JX.p_ (Is.p_ n) Ex f d]
  ·let⟨p,xs,k,rfl,g,f,_⟩:=Mi.lst_inv;let⟨i,j,h,e,c,d,_⟩:=Ck.lst_inv;cases e;rw[g] at c;cases c;rw[JX.p_ (Is.p_ n) Ex f d]
section
variable {X:Cx} {N5:JK} {σ:Mz} {H:Hp} {s:aR} {A:bg}
def ZX(i:∀a b x y fa fb u w,C1 n a b=aD->Is K H a x fa->Is K H b y fb->RelV x u->RelV y w->∃r,nW A s u w r/\(r=aD↔a=b)) :
  ∀{l m:List PV}{xs L9:List V}{fa fb:Gs}{us ws:Gr},(l.zip m).all (λz=>C1 n z.1 z.2)=aD->JX K H l xs fa->JX K H m L9 fb->Gp xs us->Gp L9 ws->
  ∃e:Nat->Bool,(∀j (c:j<la us) (d:j<la ws),nW A s us[j] ws[j] (e j))/\((aL (min (la us) (la ws))).all e=aD↔l.take (min (la us) (la ws))=m.take (min (la us) (la ws)))
 | [],m,xs,L9,fa,fb,us,ws,_,h,_,r,_=>by dsimp[JX] at h;let⟨rfl,_⟩:=h;cases r;apply⟨λ_=>aD,λj c=>by simp at c,⋯⟩
 | a::l,[],xs,L9,fa,fb,us,ws,_,_,h,_,r=>by dsimp[JX] at h;let⟨rfl,_⟩:=h;cases r;apply⟨λ_=>aD,λj c d=>by simp at d,⋯⟩
 | a::l,b::m,xs,L9,fa,fb,us,ws,Ex,h,h',r,Kd=>by
  let⟨x,E,f1,F,rfl,c,d,rfl⟩:=h.inv;let⟨y,G,C,I,rfl,B,p,rfl⟩:=h'.inv;let⟨c1,c2⟩:=Rq Ex
  cases r with
  | cons q v=>cases Kd with
   | cons EE aar=>
    let⟨t,D,g⟩:=i a b x y f1 C _ _ c1 c B q EE;let⟨e,o,f⟩:=ZX i c2 d p v aar;show⟨λj=>match j with | 0=>t | k+1=>e k,λj c d=>?_,?_⟩
    ·cases j with
     | zero=>apply D
     | succ k=>apply o k (~~~c) (~~~d)
    ·dsimp[bH,Nat.succ_min_succ,iV,ka,lO,af,List.take_succ_cons,List.cons.injEq];apply and_congr g f
def JX.uL(h:JX K H l xs fa)(h':JX K H m L9 fb)(r:Gp xs us)(c:Gp L9 ws) :
  (l.take (min us.length ws.length)=m.take (min us.length ws.length)/\us.length=ws.length)↔l=m:=by
 let d:=h.len;let g:=h'.len;let f:=r.length;let e:=c.length;constructor
 ·ext⟨a,b⟩;rw[cN (),cN ()] at a;apply a
 ·ext a;subst a;apply⟨rfl,()⟩
def DW(A:bg)(s:aR)(u w:aI)(r:Bool):Prop:=SeqAt.RcAt A s u w r/\SeqAt.RcNeAt A s u w !r
def OV(I:Inv X N5 σ H s):∀(n:Nat)(A:bg)(a b:PV)(x y:V)(o fb:Gs)(u w:aI),A.units+2*n+2<gE->C1 n a b=aD->Is K H a x o->Is K H b y fb->RelV x u->RelV y w->
  (∃r,nW A s u w r/\(r=aD↔a=b))/\∃r,DW A s u w r/\(r=aD↔a=b)
 | 0,A,a,b,x,y,o,fb,u,w,Ax,Ex,_,_,_,_=>nomatch (show aC=aD from Ex)
 | n+1,A,a,b,x,y,o,fb,u,w,Ax,Ex,Mi,Ck,ru,CC=>by
  cases a<;>cases b<;>first
   | apply nomatch (show aC=aD from Ex)
   | skip
  ·rw[Mi.jg.1] at ru;rw[Ck.jg.1] at CC;cases ru;cases CC;apply⟨⟨aD,oI _,⋯⟩,aD,⟨SeqAt.RcAt.none_none,SeqAt.RcNeAt.none_none⟩,⋯⟩
  ·rw[Mi.dV.1] at ru;rw[Ck.dV.1] at CC;cases ru;cases CC;apply⟨⟨_,km _ _,⋯⟩,_,⟨SeqAt.RcAt.bool_bool _ _,SeqAt.RcNeAt.bool_bool _ _⟩,⋯⟩
  ·rw[Mi.int_inv.1] at ru;rw[Ck.int_inv.1] at CC;let⟨t,rfl⟩:=ru;let⟨t',rfl⟩:=CC;apply⟨⟨_,nW.int_int _ _ _ _,⋯⟩,_,⟨SeqAt.RcAt.int_int _ _ _ _,SeqAt.RcNeAt.int_int _ _ _ _⟩,⋯⟩
  ·rw[Mi.str_inv.1] at ru;rw[Ck.str_inv.1] at CC;let⟨t,rfl⟩:=ru;let⟨t',rfl⟩:=CC;apply⟨⟨_,nW.str_str _ _ _ _,⋯⟩,_,⟨SeqAt.RcAt.str_str _ _ _ _,SeqAt.RcNeAt.str_str _ _ _ _⟩,⋯⟩
  ·rename_i O P;let⟨p,xs,rfl,R,G⟩:=id Mi.b_;let⟨D,Y,rfl,m,i⟩:=id Ck.b_;cases ru;cases CC;let⟨B,F,q,_⟩:=I.tuple (CG.of R);let⟨C,h,v,_⟩:=I.tuple (CG.of m);let⟨f,E,k⟩:=ZX (A:=A.in1) (λa b x y o fb u w c L J M Q=>(OV I n A.in1 a b x y o fb u w (by change A.units+1+2*n+2<gE;lia) c L J M Q).1) Ex G i F h;let S:=SeqAt.RcAt.tuples (A:=A) (e:=f) (show s.heap.IsTuple p B.toArray from q) (show s.heap.IsTuple D C.toArray from v) () (λj l z=>E j (~~~l) (~~~z));let W:=SeqAt.RcNeAt.tuples (A:=A) (e:=f) (show s.heap.IsTuple p B.toArray from q) (show s.heap.IsTuple D C.toArray from v) () (λj l z=>E j (~~~l) (~~~z));let g:(((aL (min B.toArray.size C.toArray.size)).all f&&B.toArray.size==C.toArray.size)=aD)↔PV.tup O=PV.tup P:=by dsimp[aT,af,beq_iff_eq,PV.tup.injEq];rw[k];apply JX.uL G i F h
   show⟨?_,_,⟨S,W⟩,g⟩;by_cases e:p=D
   ·subst e;apply⟨aD,oI _,by simp[Is.p_ (n+1) _ _ _ _ _ Ex Mi Ck]⟩
   ·apply⟨_,qE e S,g⟩
  ·rename_i O P;let⟨p,xs,fq,rfl,R,G,_⟩:=id Mi.lst_inv;let⟨D,Y,Z,rfl,m,i,_⟩:=id Ck.lst_inv;cases ru;cases CC;let⟨B,F,q,_⟩:=I.list (EJ.of R);let⟨C,h,v,_⟩:=I.list (EJ.of m);let⟨f,E,k⟩:=ZX (A:=A.in1) (λa b x y o fb u w c L J M Q=>(OV I n A.in1 a b x y o fb u w (by change A.units+1+2*n+2<gE;lia) c L J M Q).1) Ex G i F h
   let N:∃r,DW A s (.ref p) (.ref D) r/\(r=aD↔PV.lst O=PV.lst P):=by
    let g:=JX.uL G i F h;by_cases d:B.length=C.length
    ·show⟨_,⟨SeqAt.RcAt.lists (e:=f) q.isList v.isList (~~~d) () (λj l z=>E j (~~~l) (~~~z)),SeqAt.RcNeAt.lists (e:=f) q.isList v.isList (~~~d) () (λj l z=>E j (~~~l) (~~~z))⟩,?_⟩;rw[d,Nat.min_self] at k g;dsimp[aT,PV.lst.injEq];rw[d,k,<-g];simp
    ·show⟨aC,⟨SeqAt.RcAt.lists_lengths q.isList v.isList (~~~d) (),SeqAt.RcNeAt.lists_lengths q.isList v.isList (~~~d) ()⟩,?_⟩;rw[PV.lst.injEq,<-g];simp[d]
   let⟨r,T,U⟩:=N;show⟨?_,r,T,U⟩;by_cases e:p=D
   ·subst e;apply⟨aD,oI _,by simp[Is.p_ (n+1) _ _ _ _ _ Ex Mi Ck]⟩
   ·apply⟨r,qE e T.1,U⟩
end
def BR(K:aG)(neg:Bool):JO:=λx y H Q=>∃a b fa fb,Is K H a x fa/\Is K H b y fb/\C1 8 a b=aD/\∀r:Bool,(r=aD↔a=b)->Q (.Ap (if neg then !r else r)) H
section
variable {X:Cx}
def Zah(n:X.A.units+64<gE):MU X (dW .Eq) (BR X.K aC):=by ext l s m H x y v u Q I g e h;let⟨a,b,f,fb,i,c,d,q⟩:=h;let⟨_,r,j,k⟩:=OV I 8 X.A a b x y f fb v u () d i c g e;apply j.1 X.prog X.w X.Ar _ ⟨.Ap r,H,I,rfl,q r k⟩
def Zai(n:X.A.units+64<gE):MU X (dW .NotEq) (BR X.K aD):=by ext l s m H x y v u Q I g e h;let⟨a,b,f,fb,i,c,d,q⟩:=h;let⟨_,r,j,k⟩:=OV I 8 X.A a b x y f fb v u () d i c g e;apply j.2 X.prog X.w X.Ar _ ⟨.Ap !r,H,I,rfl,q r k⟩
end
def J1(neg:Bool):PV->PV->Option PV:=λa b=>if C1 8 a b=aD then aA (.Ap (if neg then !decide (a=b) else decide (a=b))) else aB
def yh(c:Bool):KD K (BR K c) (J1 c):=λH x y a b l g fb h f e Q k=>by
 delta J1 at e;split at e
 ·cases e;show⟨a,b,g,fb,h,f,by assumption,λr d=>?_⟩
  have:r=decide (a=b):=by
   cases r with
   | true=>apply(decide_eq_true (d.mp rfl)).symm
   | false=>apply(decide_eq_false λz=>br (d.mpr z)).symm
  subst this;apply k _ H [] (AJ.refl H) (Is.Ap _) λp i=>by simp at i
 ·cases e
def Jq(K:aG)(neg:Bool):JO:=λx y H Q=>∃a b m fa fb,Is K H a x fa/\Is K H b y fb/\Fo b=aA m/\(m.all λz=>C1 8 z a)=aD/\∀r:Bool,(r=aD↔a∈m)->Q (.Ap (if neg then !r else r)) H
section
variable {X:Cx} {N5:JK} {σ:Mz} {H:Hp} {s:aR}
def Oc(I:Inv X N5 σ H s)(U:A.units+18<gE)(M:Is K H a x fa)(L:RelV x u):∀{m:List PV}{xs:List V}{fb:Gs}{i:Gr},(m.all λz=>C1 8 z a)=aD->JX K H m xs fb->Gp xs i->
  ∃e:aI->Bool,(∀y∈i,nW A s y u (e y))/\(i.any e=aD↔a∈m):=λ{m xs fb i} E h r=>by
 -- c ach answer
 let c:∀y∈i,∃t:Bool,nW A s y u t/\(t=aD↔∃b,b∈m/\b=a/\∃z f,Is K H b z f/\RelV z y):=λy d=>by let⟨j,p,e⟩:=kj.mp d;let T:=r.length;let k:xs[j]?=aA xs[j]:=aF ();let⟨b,f,n,o,_⟩:=h.get' k;let⟨w,B,CC⟩:=r.get k;rw[aF p] at B;cases B;rw[e] at CC;let l:=aw n;let q:=bN.mp E b l;let⟨⟨t,P,R⟩,_⟩:=OV I 8 A b a xs[j] x f fa y u () q o M CC L;show⟨t,P,R.trans ⟨λz=>⟨b,l,z,xs[j],f,o,CC⟩,λ⟨O,N,D,z,W,G,F⟩=>?_⟩⟩;let S:=F.inj CC;subst S;subst D;apply Is.p_ 8 b O _ _ _ q o G
 classical
 show⟨λy=>if d:y∈i then(c y d).choose else aC,λy d=>?_,?_⟩
 ·dsimp[dif_pos d];apply(c y d).choose_spec.1
 ·rw[iM];constructor
  ·ext⟨y,d,e⟩;rw[dif_pos d] at e;let⟨b,n,rfl,_⟩:=(c y d).choose_spec.2.mp e;apply n
  ·ext v;let⟨j,p,e⟩:=kj.mp v;let⟨z,f,C,Q,_⟩:=h.get (aF p);let⟨y,d,J⟩:=r.get C;let g:=aw d;show⟨y,g,?_⟩;rw[dif_pos g];apply(c y g).choose_spec.2.mpr ⟨a,v,rfl,z,f,e▸Q,J⟩
end
section
variable {X:Cx}
def Zaj(F:X.A.units+64<gE):MU X (dW .In) (Jq X.K aC):=by
 ext C s D H x y v u Q I n z h;let⟨a,b,m,G,fb,o,r,B,k,q⟩:=h;let⟨p,xs,E,rfl,d,l,_⟩:=Ug r B;cases z;rcases d with d | d
 ·let⟨c,g,t,_⟩:=I.list d;let⟨e,f,j⟩:=Oc (A:=X.A.in1) I (by change X.A.units+1+18<gE;lia) o n k l g;show SeqAt.in_listAt e t.isList (λw i=>f w (~~~i)) ⟨.Ap _,H,I,rfl,?_⟩;rw[show c.toArray.any e=c.any e by simp];apply q _ j
 ·let⟨c,g,t,_⟩:=I.tuple d;let⟨e,f,j⟩:=Oc (A:=X.A.in1) I (by change X.A.units+1+18<gE;lia) o n k l g;show SeqAt.in_tupleAt e t (λw i=>f w (~~~i)) ⟨.Ap _,H,I,rfl,?_⟩;rw[show c.toArray.any e=c.any e by simp];apply q _ j
def ij(F:X.A.units+64<gE):MU X (dW .NotIn) (Jq X.K aD):=by
 ext C s D H x y v u Q I n z h;let⟨a,b,m,G,fb,o,r,B,k,q⟩:=h;let⟨p,xs,E,rfl,d,l,_⟩:=Ug r B;cases z;rcases d with d | d
 ·let⟨c,g,t,_⟩:=I.list d;let⟨e,f,j⟩:=Oc (A:=X.A.in1) I (by change X.A.units+1+18<gE;lia) o n k l g;show SeqAt.notIn_listAt e t.isList (λw i=>f w (~~~i)) ⟨.Ap _,H,I,rfl,?_⟩;rw[show c.toArray.any e=c.any e by simp];apply q _ j
 ·let⟨c,g,t,_⟩:=I.tuple d;let⟨e,f,j⟩:=Oc (A:=X.A.in1) I (by change X.A.units+1+18<gE;lia) o n k l g;show SeqAt.notIn_tupleAt e t (λw i=>f w (~~~i)) ⟨.Ap _,H,I,rfl,?_⟩;rw[show c.toArray.any e=c.any e by simp];apply q _ j
end
def J7(neg:Bool):PV->PV->Option PV:=λa b=>(Fo b).bind λm=>if(m.all λz=>C1 8 z a)=aD then aA (.Ap (if neg then !decide (a∈m) else decide (a∈m))) else aB
def xV(c:Bool):KD K (Jq K c) (J7 c):=λH x y a b l h fb i f e Q k=>by
 let⟨m,g,e⟩:=Zc e;split at e
 ·cases e;show⟨a,b,m,h,fb,i,f,g,by assumption,λr d=>?_⟩
  have:r=decide (a∈m):=by
   cases r with
   | true=>apply(decide_eq_true (d.mp rfl)).symm
   | false=>apply(decide_eq_false λz=>br (d.mpr z)).symm
  subst this;apply k _ H [] (AJ.refl H) (Is.Ap _) λp j=>by simp at j
 ·cases e
end _v
namespace _v
open PySem PySem.Spec PyProof.Rows _l
variable {K:aG}
mutual
def Is.oi:∀(l:PV)(v:V)(Gh:Gs),Is K H l v Gh->∀p∈Gh,H p≠aB
 | .Ma,_,_,h=>by dsimp[Is] at h;rw[h.2];simp
 | .Ap _,_,_,h=>by dsimp[Is] at h;rw[h.2];simp
 | .int _,_,_,h=>by dsimp[Is] at h;rw[h.2];simp
 | .str _,_,_,h=>by dsimp[Is] at h;rw[h.2];simp
 | .ty _,_,_,h=>by dsimp[Is] at h;rw[h.2];simp
 | .exc _,_,_,h=>by dsimp[Is] at h;rw[h.2];simp
 | .Cu _ _,_,_,h=>by dsimp[Is] at h;rw[h.2];simp
 | .ox L l,v,Gh,h=>by dsimp[Is] at h;let⟨u,x,_,_,a⟩:=h;apply Is.oi l x Gh a
 | .tup l,v,Gh,h=>by let⟨p,xs,_,_,a⟩:=h.b_;apply JX.oi l xs Gh a
 | .lst l,v,Gh,h=>by
  let⟨p,xs,c,_,d,a,rfl⟩:=h.lst_inv;ext q b;rcases aY.mp b with rfl | b
  ·rw[d];simp
  ·apply JX.oi l xs c a q b
 | .cst l,v,Gh,h=>by let⟨p,xs,_,_,a⟩:=h.gF;apply JX.oi l xs Gh a
 | .Mf ks l,v,Gh,h=>by
  let⟨p,f,c,_,d,_,a,rfl⟩:=h.qa;ext q b;rcases aY.mp b with rfl | b
  ·rcases d with e | ⟨o,e⟩<;>rw[e]<;>simp
  ·apply JX.oi l _ c a q b
 | .L8 ks l,v,Gh,h=>by
  let⟨p,f,c,_,d,_,a,rfl⟩:=h.nS;ext q b;rcases aY.mp b with rfl | b
  ·rcases d with e | ⟨o,e⟩<;>rw[e]<;>simp
  ·apply JX.oi l _ c a q b
def JX.oi:∀(l:List PV)(xs:List V)(Gh:Gs),JX K H l xs Gh->∀p∈Gh,H p≠aB
 | [],_,_,h=>by dsimp[JX] at h;rw[h.2];simp
 | l::ls,xs,Gh,h=>by
  let⟨x,r,f1,b,_,d,c,rfl⟩:=h.inv;ext q a;rcases aj.mp a with a | a
  ·apply Is.oi l x f1 d q a
  ·apply JX.oi ls r b c q a
end
def Ab(Rm:Le)(H H':Hp):Prop:=∀b o,H b=aA o->¬Rm b->H' b=aA o
def AJ.ab(s:AJ H H'):Ab Rm H H':=λb o h _=>s b o h
def Ab.tk(a:Ab Rm H H')(c:∀p,Rm p->EN (H p)):s8 H H':=⟨λb xs h=>a b _ h λz=>by
 let:=c b z
 rw[h] at this;apply this,λb o xs h=>a b _ h λz=>by
 let:=c b z
 rw[h] at this;apply this,λb o x h=>a b _ h λz=>by
 let:=c b z;rw[h] at this;apply this⟩
def Is.ab(a:Ab Rm H H')(b:∀p,Rm p->EN (H p))(n:∀p∈Gh,¬Rm p)(h:Is K H l v Gh):Is K H' l v Gh:=
 Is.Aw (a.tk b) l v Gh (λp c=>E2.of λo q=>a p o q (n p c)) h
structure yl(K:aG)(Rm:Le)(H1:Hp)(J:It)(ls:List PV):Prop where
 stop:∀H',Ab Rm H1 H'->J.stop (la ls) H'
 go:∀H' (i:Nat) l,Ab Rm H1 H'->ls[i]?=aA l->J.go i H'
 aas:∀H' (i:Nat) l x ym,Ab Rm H1 H'->ls[i]?=aA l->J.aas i H' x ym->AJ H' ym/\∃Gh,Is K ym l x Gh/\∀p∈Gh,H1 p≠aB/\¬Rm p
abbrev XL:=ZK->Option (List PV)
def HK(K:aG)(f:XL):TI:=λσ H R=>∃(Rm:Le) (s:ZK) (ls:List PV),(∀p,Rm p->EN (H p))/\dg K Rm H s σ/\f s=aA ls/\∀J H1,AJ H H1->yl K Rm H1 J ls->R J H1
def La(X:Cx)(Eu e:bT)(f:XL):Prop:=A8 X Eu e (HK X.K f)
section
variable {X:Cx} {Eu e:bT} {Gi:Mk}
def A8.imp(h:A8 X Eu e t)(i:∀a H R,t' a H R->t a H R):A8 X Eu e t':=λb s a H R I q=>h b s a H R I (i a H R q)
def Bi:PV->Option (List PV)
 | .lst m=>aA m
 | .cst m=>aA m
 | _=>aB
def G6(f:XE):XL:=λs=>(f s).bind Bi
def KW(f:XE):XL:=λs=>match f s with | some (.tup m)=>aA m | _=>aB
def Zak(h:Bi a=aA m):a = .lst m\/a = .cst m:=by
 delta Bi at h;split at h
 ·cases h;apply .inl rfl
 ·cases h;apply .inr rfl
 ·cases h
def h7(h:KW f s=aA m):f s=aA (.tup m):=by
 delta KW at h;split at h
 ·cases h;assumption
 ·cases h
def Y5(h:JW X e f):La X Eu e (G6 f):=A8.imp (Zet h)<|by
 ext J H R ⟨C,s,ls,w,env,e,k⟩;let⟨l,G,F⟩:=Zc e;show⟨C,s,l,w,env,G,λv m A s1 z B=>?_⟩;let q:=λp b=>AJ.mut s1 (w p b)
 let d:∀a xs o,v = .ref a->EJ X.K m a xs->(∀c,Ab C m c->EJ X.K c a xs)->JX X.K m ls xs o->(∀p∈o,p∈A)->∃a,v = .ref a/\(∃xs,EJ X.K m a xs)/\R (HI X.K a) m:=by
  ext a xs o rfl j keep g sub;show⟨a,rfl,⟨xs,j⟩,k _ m s1 ⟨λc ab=>⟨xs,keep c ab,by rw[g.len];apply aU _⟩,λc i l ab t=>?_,λc i l x E ab t y=>?_⟩⟩
  ·let⟨x,f1,u,_,_⟩:=g.get t;apply⟨xs,x,keep c ab,u⟩
  ·let⟨rfl,y⟩:=y;let⟨I,f1,u,D,r⟩:=g.get t;let:=y xs (keep _ ab);rw[u] at this;cases this;let n:=λp b=>B p (sub p (r p b));apply⟨AJ.refl _,f1,D.ab ab q n,λp b=>⟨Is.oi _ _ _ D p b,n p b⟩⟩
 rcases Zak F with rfl | rfl
 ·let⟨a,xs,o,rfl,j,g,rfl⟩:=z.lst_inv;apply d a xs o rfl (EJ.of j) (λc ab=>EJ.of (ab a _ j (B a ar))) g λp b=>aS _ b
 ·let⟨a,xs,rfl,j,g⟩:=z.gF;apply d a xs A rfl j.sq (λc ab=>(j.Aw (ab.tk q)).sq) g λp b=>b
def Qq(h:JW X e f):La X Eu e (KW f):=A8.imp (Zjx h)<|by
 ext C H R ⟨r,s,ls,o,env,e,k⟩;show⟨r,s,.tup ls,o,env,h7 e,λv u D s1 w A=>?_⟩;let⟨a,xs,rfl,q,m⟩:=w.b_;let g:=λp c=>AJ.mut s1 (o p c);let keep:∀b,Ab r u b->CG X.K b a xs:=λb ab=>CG.of ((ab.tk g).tup a xs q);show⟨a,rfl,⟨xs,CG.of q⟩,k _ u s1 ⟨λb ab=>⟨xs,keep b ab,by rw[m.len];apply aU _⟩,λb i l ab j=>?_,λb i l x z ab j y=>?_⟩⟩
 ·let⟨x,f1,n,_,_⟩:=m.get j;apply⟨xs,x,keep b ab,n⟩
 ·let⟨rfl,y⟩:=y;let⟨B,f1,n,t,sub⟩:=m.get j;let:=y xs (keep _ ab);rw[n] at this;cases this;let d:=λp c=>A p (sub p c);apply⟨AJ.refl _,f1,t.ab ab g d,λp c=>⟨Is.oi _ _ _ t p c,d p c⟩⟩
def KG(n:Nat):List PV:=(aL n).map λ(i:Nat)=>PV.int (i:Int)
def Dm(lo:Int)(n:Nat):List PV:=(aL n).map λ(i:Nat)=>PV.int (lo+(i:Int))
def Ib(fs:List XE):XL:=λs=>match A2 fs s with | some [.int j]=>if -1000000<=j/\j<=1000000 then aA (KG j.toNat) else aB | _=>aB
def C3(fs:List XE):XL:=λs=>match A2 fs s with | some [.int i,.int j]=>if -1000000<=i/\i<=1000000/\-1000000<=j/\j<=1000000 then aA (Dm i (j-i).toNat) else aB | _=>aB
def zf(lo:Int)(n:Nat):yl K Rm H1 (Hh lo n) (Dm lo n):=by
 show⟨λc _=>by delta Dm;rw[aJ,bZ];apply aU n,λc i l _ a=>?_,λc i l x d _ a y=>?_⟩
 ·let:=(aQ.mp a).1;delta Dm at this;rw[aJ,bZ] at this;apply this
 ·let⟨rfl,rfl⟩:=y;let b:=(aQ.mp a).1;delta Dm at b a;rw[aJ,bZ] at b;rw[ag,eO b] at a;cases a;apply⟨AJ.refl _,[],Is.int _,λp e=>by simp at e⟩
def Zfu(n:Nat):KG n=Dm 0 n:=by apply((aq));ext i _;rw[Int.zero_add]
def pb(g:Gl X "range")(f:X.mg "range" = aB)(h:Kr X [a] fs)(hs:aN [a] X.env=[(aC,eval a X.env)]|>On):La X Eu (.Call (.Name "range" p) [a] [] pos) (Ib fs):=
 A8.imp (tw g f h hs) λo H R ⟨l,s,ls,b,env,e,k⟩=>by
 delta Ib at e;split at e
 ·split at e
  ·cases e;rename_i j c n;show⟨l,s,_,b,env,c,λvs m q s1 d _=>?_⟩;let⟨v,rfl,i⟩:=d.c0;show⟨j,by rw[i.int_inv.1],(),(),k _ m s1 ?_⟩;rw[Zfu];apply zf _ _
  ·cases e
 ·cases e
def sh(n:Gl X "range")(m:X.mg "range" = aB)(o:Kr X [a,b] fs)(hs:aN [a,b] X.env=[(aC,eval a X.env),(aC,eval b X.env)]|>On)(c:aN [b] X.env=[(aC,eval b X.env)]|>On):La X Eu (.Call (.Name "range" p) [a,b] [] pos) (C3 fs):=
 A8.imp (hJ n m o hs c) λu H R ⟨q,s,ls,d,env,e,k⟩=>by
 delta C3 at e;split at e
 ·split at e
  ·cases e;rename_i i j f t;show⟨q,s,_,d,env,f,λvs r y s1 h _=>?_⟩;let⟨v,w,f1,x,rfl,l,g,_⟩:=h.kL;apply⟨i,j,by rw[l.int_inv.1,g.int_inv.1],⟨(),(),(),()⟩,k _ r s1 (zf _ _)⟩
  ·cases e
 ·cases e
def KP(m:List PV):List PV:=m.zipIdx.map λz=>.tup [.int (z.2:Nat),z.1]
def Nc(m n:List PV):List PV:=(m.zip n).map λz=>.tup [z.1,z.2]
def YE{i:Nat}{l:PV}(h:(KP m)[i]?=aA l):∃a,m[i]?=aA a/\l = .tup [.int (i:Nat),a]:=by
 delta KP at h;rw[ag,List.getElem?_zipIdx] at h
 cases q:m[i]? with
 | none=>rw[q] at h;cases h
 | some a=>rw[q] at h;cases h;apply⟨a,rfl,⋯⟩
def Y6(m:List PV):(KP m).length=la m:=by delta KP;rw[aJ,List.length_zipIdx]
def ye{i:Nat}{l:PV}(h:(Nc m n)[i]?=aA l):∃a b,m[i]?=aA a/\n[i]?=aA b/\l = .tup [a,b]:=by
 delta Nc at h;rw[ag] at h
 cases q:(m.zip n)[i]? with
 | none=>rw[q] at h;cases h
 | some z=>
  rw[q] at h;cases h;let⟨c,d⟩:=mE.mp q;apply⟨z.1,z.2,c,d,rfl⟩
def qw(m n:List PV):(Nc m n).length=min (la m) (la n):=by delta Nc;rw[aJ,List.length_zip]
def CM:Bool->PV->Option (List PV)
 | true,.lst l=>aA l
 | true,.cst l=>aA l
 | false,.tup l=>aA l
 | _,_=>aB
def vE(h:Is K H l v Gh)(e:CM b l=aA m):∃p xs i,v = .ref p/\JX K H m xs i/\(∀q∈i,q∈Gh)/\∀(a:Le) d,Ab a H d->(∀p,a p->EN (H p))->(∀p∈Gh,¬a p)->Mr b K d p xs:=by
 cases b with
 | true=>cases l with
  | lst l=>
   cases e;let⟨p,xs,i,rfl,g,c,rfl⟩:=h.lst_inv;apply⟨p,xs,i,rfl,c,λq f=>aS _ f,λa d ab _ n=>EJ.of (ab p _ g (n p ar))⟩
  | cst l=>
   cases e;let⟨p,xs,rfl,g,c⟩:=h.gF;apply⟨p,xs,Gh,rfl,c,λq f=>f,λa d ab j _=>(g.Aw (ab.tk j)).sq⟩
  | _=>cases e
 | false=>cases l with
  | tup l=>
   cases e;let⟨p,xs,rfl,g,c⟩:=h.b_;apply⟨p,xs,Gh,rfl,c,λq f=>f,λa d ab j _=>CG.of ((ab.tk j).tup p xs g)⟩
  | _=>cases e
def Lf(b:Bool)(fs:List XE):XL:=λs=>match A2 fs s with | some [l]=>(CM b l).map KP | _=>aB
def KI(b1 b2:Bool)(fs:List XE):XL:=λs=>match A2 fs s with | some [l,r]=>(CM b1 l).bind λm=>(CM b2 r).map λn=>Nc m n | _=>aB
def Ui{k:Nat}{j:g6}(b:Bool){a:bT}{fs:List XE}{p pos:g6}(L:Gl X "enumerate")(J:X.mg "enumerate" = aB)(M:Kr X [a] fs)(hs:aN [a] X.env=[(aC,eval a X.env)]|>On) :
  La X (.Tuple elts k j) (.Call (.Name "enumerate" p) [a] [] pos) (Lf b fs):=A8.imp (Zfe b L J M hs) λQ H R ⟨D,s,ls,A,env,e,k⟩=>by
 delta Lf at e;split at e
 ·rename_i l F;let⟨m,O,rfl⟩:=map_some e;show⟨D,s,_,A,env,F,λvs w T s1 G C=>?_⟩;let⟨v,rfl,i⟩:=G.c0;let h:=λp f=>AJ.mut s1 (A p f);let⟨a,xs,S,rfl,t,sub,keep⟩:=vE i O;let n:=λd ab=>keep D d ab h C;show⟨a,rfl,⟨xs,n w (AJ.ab (AJ.refl w))⟩,k _ w s1 ⟨λd ab=>⟨xs,n d ab,by rw[Y6,t.len]⟩,λd i l ab r=>?_,λd i l x I ab r y=>?_⟩⟩
  ·let⟨c,o,rfl⟩:=YE r;let⟨x,f1,u,_,_⟩:=t.get o;apply⟨xs,x,n d ab,u⟩
  ·let⟨c,o,rfl⟩:=YE r;let⟨P,f1,u,E,N⟩:=t.get o;let⟨q,z,B,rfl,rfl,y⟩:=y;let:=y xs (n _ ab);rw[u] at this;cases this;let g:=λp f=>C p (sub p (N p f));show⟨AJ.new B _,f1,Is.tup bh ?_,λp f=>⟨Is.oi _ _ _ E p f,g p f⟩⟩;apply JX.cons (Is.int _) (JX.one ((E.ab ab h g).mono (AJ.new B _)))
 ·cases e
def w_{k:Nat}{B:g6}(b1 Y:Bool){a b:bT}{fs:List XE}{p pos:g6}(Gz:Gl X "zip")(hm:X.mg "zip" = aB)(Mi:Kr X [a,b] fs)
  (hs:aN [a,b] X.env=[(aC,eval a X.env),(aC,eval b X.env)]|>On) (P:aN [b] X.env=[(aC,eval b X.env)]|>On) :
  La X (.Tuple elts k B) (.Call (.Name "zip" p) [a,b] [] pos) (KI b1 Y fs):=A8.imp (Zkj b1 Y Gz hm Mi hs P) λσ H R ⟨S,s,ls,hd,env,e,k⟩=>by
 delta KI at e;split at e
 ·rename_i l r he;let⟨m,Mc,e⟩:=Zc e;let⟨n,e2,rfl⟩:=map_some e;show⟨S,s,_,hd,env,he,λvs D Gh s1 i1 Z=>?_⟩;let⟨v,w,g1,g2,rfl,aaw,iw,rfl⟩:=i1.kL;let j:=λp f=>AJ.mut s1 (hd p f);let F:=λp f=>Z p (au _ f);let E:=λp f=>Z p (bA _ f);let⟨a1,xs,fq,rfl,L,sub,keep⟩:=vE aaw Mc;let⟨a2,I,fr,rfl,O,A,t⟩:=vE iw e2;let G:=λg ab=>keep S g ab j F;let h:=λg ab=>t S g ab j E;show⟨a1,a2,rfl,⟨xs,G D (AJ.ab (AJ.refl D))⟩,⟨I,h D (AJ.ab (AJ.refl D))⟩,k _ D s1 ⟨λg ab=>⟨xs,I,G g ab,h g ab,?_⟩,λg i l ab T=>?_,λg i l x ym ab T y=>?_⟩⟩
  ·rw[qw,L.len,O.len]
   lia
  ·let⟨c,d,U,o,rfl⟩:=ye T;let⟨x,f1,Q,_,_⟩:=L.get U;let⟨y,W,M,_,_⟩:=O.get o;apply⟨xs,I,x,y,G g ab,h g ab,Q,M⟩
  ·let⟨c,d,U,o,rfl⟩:=ye T;let⟨x',f1,Q,ix,sb⟩:=L.get U;let⟨y',W,M,iy,N⟩:=O.get o;let⟨q,z,abg,J,rfl,rfl,y1,y2⟩:=y;let:=y1 xs (G _ ab);rw[Q] at this;cases this;let:=y2 I (h _ ab);rw[M] at this;cases this;let u:=λp f=>F p (sub p (sb p f));let C:=λp f=>E p (A p (N p f));show⟨AJ.new J _,f1++W,Is.tup bh ?_,λp f=>?_⟩
   ·apply JX.cons ((ix.ab ab j u).mono (AJ.new J _)) (JX.one ((iy.ab ab j C).mono (AJ.new J _)))
   ·rcases aj.mp f with f | f
    ·apply⟨Is.oi _ _ _ ix p f,u p f⟩
    ·apply⟨Is.oi _ _ _ iy p f,C p f⟩
 ·cases e
end
inductive lZ where
 | one (i:Nat) | many (is:N6)
noncomputable def lZ.slots:lZ->List Nat
 | .one i=>[i]
 | .many is=>is
def Kz:List Nat->List PV->ZK->ZK
 | i::is,l::ls,s=>Kz is ls (s.set i (aA l))
 | _,_,s=>s
def C7:List Nat->List V->Mz->Mz
 | i::is,l::ls,s=>C7 is ls (s.set i (aA l))
 | _,_,s=>s
def CS:lZ->PV->ZK->Option ZK
 | .one i,l,s=>aA (s.set i (aA l))
 | .many is,.tup ls,s=>if ls.length=is.length then aA (Kz is ls s) else aB
 | _,_,_=>aB
def Fc:List Nat->aa3
 | []=>DV
 | i::is=>HV (IM i) (Fc is)
def Lj(K:aG):lZ->GJ
 | .one i=>IM i
 | .many is=>F6 K is.length (Fc is)
def OW:∀{is:N6}{vs:List V}{σ:Mz}{H:Hp}{Q:Mz->Hp->Prop},vs.length=la is->Q (C7 is vs σ) H->Fc is vs σ H Q
 | [],[],_,_,_,_,q=>⟨rfl,q⟩
 | [],_::_,_,_,_,h,_=>by simp at h
 | _::_,[],_,_,_,h,_=>by simp at h
 | i::is,v::vs,σ,H,Q,h,q=>⟨v,vs,rfl,OW (is:=is) (vs:=vs) (~~~h) q⟩
def zY(h:Is K H l v Gh)(e:CS T l s=aA Aq) :
  ∃ls vs fs,Aq=Kz T.slots ls s/\JX K H ls vs fs/\ls.length=T.slots.length/\(∀p∈fs,p∈Gh)/\∀b (Q:Mz->Hp->Prop),Q (C7 T.slots vs b) H->Lj K T v b H Q:=by
 cases T with
 | one i=>
  cases e;apply⟨[l],[v],Gh,rfl,JX.one h,rfl,λp a=>a,λb Q q=>q⟩
 | many is=>
  cases l with
  | tup ls=>
   let e:(if ls.length=is.length then aA (_v.Kz is ls s) else aB)=aA Aq:=e;split at e
   ·cases e;let⟨p,xs,rfl,a,c⟩:=h.b_;apply⟨ls,xs,Gh,rfl,c,by assumption,λp a=>a,λb Q q=>⟨p,xs,rfl,CG.of a,by rw[c.len];assumption,OW (by rw[c.len];assumption) q⟩⟩
   ·cases e
  | _=>cases e
def Uj:∀{is:N6}{vs:List V}{σ:Mz}{n:Nat},(∀i∈is,i<n)->(C7 is vs σ).drop n=σ.drop n
 | [],_,_,_,_=>rfl
 | _::_,[],_,_,_=>rfl
 | i::is,v::vs,σ,n,h=>by change(C7 is vs (σ.set i (aA v))).drop n=_;rw[Uj (λj a=>h j (aS _ a))];let:=h i ar;rw[List.drop_set,An this]
def dg.set(h:dg K Rm H s σ)(m:s.length=σ.length)(c:Is K H l v Gh)(n:∀p∈Gh,¬Rm p):dg K Rm H (s.set i (aA l)) (σ.set i (aA v)):=⟨λj a e=>by
 rw[cB] at e;by_cases b:i=j
 ·subst b;rw[An rfl] at e;split at e
  ·cases e;apply⟨v,Gh,by rw[cB,An rfl,An ()],c,n⟩
  ·cases e
 ·rw[N4 b] at e;let⟨w,f,g,d,k⟩:=h.is j a e;apply⟨w,f,by rw[cB,N4 b];apply g,d,k⟩⟩
theorem dg.Kz:∀{is:N6}{ls:List PV}{vs:List V}{fs:Gs}{s:ZK}{σ:Mz},dg K Rm H s σ->la s=σ.length->JX K H ls vs fs->(∀p∈fs,¬Rm p)->dg K Rm H (_v.Kz is ls s) (C7 is vs σ)
 | [],_,_,_,_,_,h,_,_,_=>by delta _v.Kz C7;apply h
 | i::is,[],vs,fs,s,σ,h,_,N9,_=>by dsimp[JX] at N9;rw[N9.1];apply h
 | i::is,l::ls,vs,fs,s,σ,h,Kb,N9,n=>by let⟨x,r,f1,d,rfl,c,b,rfl⟩:=N9.inv;change dg K Rm H (_v.Kz is ls (s.set i (aA l))) (C7 is r (σ.set i (aA x)));apply dg.Kz (h.set Kb c λp a=>n p (au _ a)) (by rw[cq,cq];apply Kb) b λp a=>n p (bA _ a)
def CT(n:Nat)(ix:N6)(s:ZK):ZK:=aW n aB++ix.map (λi=>(s[i]?).join)
def Dj(T:lZ)(ft:XT)(fe:XE)(s0:ZK):List PV->Option (List PV)
 | []=>aA []
 | l::r=>(CS T l s0).bind λs1=>(ft s1).bind λc=>if c=aD then(fe s1).bind λy=>(Dj T ft fe s0 r).map (y::·) else Dj T ft fe s0 r
def AS(n:Nat)(ix:N6)(fi:XL)(T:lZ)(ft:XT)(fe:XE):XE:=λs=>(fi s).bind λls=>if ls.length<=10000 then(Dj T ft fe (CT n ix s) ls).map .lst else aB
def MV:XT:=λ_=>aA aD
def TR(h:o.join=aA a):o=aA (aA a):=by
 cases o with
 | none=>cases h
 | some b=>cases b with
  | none=>cases h
  | some c=>cases h;rfl
def dg.comp(h:dg K Rm H s σ):dg K Rm H (CT n ix s) (M3 n ix σ):=⟨λi l e=>by
 delta CT at e;delta M3;by_cases d:i<n
 ·rw[bB (~~~d),cP,An d] at e;cases e
 ·rw[bQ (~~~d),cH,ag] at e;rw[bQ (~~~d),cH,ag]
  cases q:ix[i-n]? with
  | none=>rw[q] at e;cases e
  | some j=>
   rw[q] at e;let e:=TR (bM e);let⟨v,f,a,b,c⟩:=h.is j l e;apply⟨v,f,by change aA ((σ[j]?).join)=_;rw[a];rfl,b,c⟩⟩
def YM(n:Nat)(a:N6)(s:ZK)(b:Mz):(CT n a s).length=(M3 n a b).length:=by delta CT M3;simp
def OX(h:Dj T ft fe s0 (l::r)=aA L9):∃s1 c,CS T l s0=aA s1/\ft s1=aA c/\((c=aD/\∃y a,fe s1=aA y/\Dj T ft fe s0 r=aA a/\L9=y::a)\/(c=aC/\Dj T ft fe s0 r=aA L9)):=by
 let⟨s1,b,h⟩:=Zc h;let⟨c,f,h⟩:=Zc h;show⟨s1,c,b,f,?_⟩
 cases c with
 | true=>
  let⟨y,e,h⟩:=Zc h;let⟨a,d,rfl⟩:=map_some h;apply .inl ⟨rfl,y,a,e,d,rfl⟩
 | false=>
  apply .inr ⟨rfl,h⟩
def OY{l:List α}{i:Nat}{a:α}{r:List α}(h:l.drop i=a::r):l[i]?=aA a/\l.drop (i+1)=r:=by
 constructor
 ·let:=congrArg (λz=>z[0]?) h;simpa [jy] using this
 ·rw[<-List.drop_drop,h];rfl
section
variable {n:Nat} {ix:N6} {fi:XL} {T:lZ} {ft:XT} {fe:XE}
def Zfv(hT:∀i∈T.slots,i<n):∀A H Q,GY K (AS n ix fi T ft fe) A H Q->MZ n ix (HK K fi) (Lj K T) (GK K ft) (GY K fe) A H Q:=by
 ext A H Q ⟨t,s,L,hd,env,e,k⟩;let⟨ls,Mc,e⟩:=Zc e;split at e
 case isFalse=>cases e
 rename_i hlen;let⟨L9,e2,rfl⟩:=map_some e;show⟨t,s,ls,hd,env,Mc,λJ Y s1 g=>?_⟩;let U:=λp b=>AJ.mut s1 (hd p b)
 show⟨λi m vs u=>m=ls.length-i/\i<=ls.length/\AJ Y u/\∃j EH o,L9=j++EH/\j.length<=i/\Dj T ft fe (CT n ix s) (ls.drop i)=aA EH/\JX K u j vs o/\∀p∈o,¬t p,
  ⟨ls.length,⋯,dM _,AJ.refl Y,[],L9,[],rfl,aU _,e2,JX.nil,λp b=>by simp at b⟩,?_⟩
 ext i m vs u ⟨rfl,N9,d,j,EH,o,rfl,I,M,N,nv⟩;show⟨by rw[N.len];apply dR (lt_size ()),?_⟩
 cases q:ls.drop i with
 | nil=>
  let W:i=ls.length:=by let:=congrArg fQ q;simp at this;lia
  subst W;rw[q] at M;cases M;show .inl ⟨g.stop u (AJ.ab d),λp b=>k _ _ (p::o) (s1.trans (d.trans (AJ.new b _))) ?_ λa Mi z=>?_⟩
  ·rw[bx];apply Is.lst bh (N.mono (AJ.new b _))
  ·rcases aY.mp Mi with rfl | Mi
   ·apply Xt (AJ.mut (s1.trans d) (hd a z)) b
   ·apply nv a Mi z
 | cons l r=>
  let⟨S,hr⟩:=OY q;let B:=(aQ.mp S).1;rw[q] at M;let⟨sb,c,eb,et,X⟩:=OX M
  show .inr ⟨g.go u i l (AJ.ab d) S,λE P=>AJ Y P/\∃vw nk tx,j++EH=vw++nk/\vw.length<=i+1/\Dj T ft fe (CT n ix s) (ls.drop (i+1))=aA nk/\JX K P vw E tx/\∀p∈tx,¬t p,
   λE P h'=>⟨ls.length-(i+1),(),rfl,B,h'.1,h'.2⟩,λx H2 y=>?_⟩
  let⟨s2,fx,O,L4⟩:=g.aas u i l x H2 (AJ.ab d) S y;let D:=λp b=>AJ.mut (d.trans s2) (U p b);let⟨Ap,bv,bf,rfl,bi,_,G,C⟩:=zY O eb;let F:dg K t H2 (CT n ix s) (M3 n ix A):=(env.mono (s1.trans (d.trans s2))).comp;let f:=F.Kz (is:=T.slots) (YM n ix s A) bi λp b=>(L4 p (G p b)).2;show C _ _ ⟨Uj hT,t,_,c,D,f,et,λH3 w=>?_⟩;let R:=λp b=>AJ.mut w (D p b);rcases X with⟨rfl,y',zs,ey,Z,rfl⟩ | ⟨rfl,Z⟩
  ·show Znm ?_;show⟨t,_,y',R,f.mono w,ey,λv H4 f4 s4 i4 n4=>?_⟩;show⟨d.trans (s2.trans (w.trans s4)),j++[y'],zs,o++f4,by rw[fL];rfl,by rw[ah];simp;apply I,by rw[hr];apply Z,(N.mono (s2.trans (w.trans s4))).append (JX.one i4),λp b=>?_⟩;rcases aj.mp b with h | h
   ·apply nv p h
   ·apply n4 p h
  ·show Znl ?_;apply⟨d.trans (s2.trans w),j,EH,o,rfl,qc I,by rw[hr];apply Z,N.mono (s2.trans w),nv⟩
def xG(hT:∀i∈T.slots,i<n):∀C H Q,Fq K (AS n ix fi T ft fe) C H Q->MZ n ix (HK K fi) (Lj K T) (GK K ft) (Fq K fe) C H Q:=by
 ext C H Q ⟨s,L,env,e,k⟩;let⟨ls,Mc,e⟩:=Zc e;split at e
 case isFalse=>cases e
 rename_i hlen;let⟨L9,e2,rfl⟩:=map_some e;let hd:∀(H:Hp) p,(λ_=>False:Le) p->EN (H p):=λ_ _ z=>z.elim;show⟨λ_=>False,s,ls,hd H,env,Mc,λJ I s1 u=>?_⟩
 show⟨λi m vs w=>m=ls.length-i/\i<=ls.length/\AJ I w/\∃A EH t,L9=A++EH/\A.length<=i/\Dj T ft fe (CT n ix s) (ls.drop i)=aA EH/\JX K w A vs t/\t.Nodup/\∀p∈t,I p=aB/\EN (w p),
  ⟨ls.length,⋯,dM _,AJ.refl I,[],L9,[],rfl,aU _,e2,JX.nil,cI,λp d=>by simp at d⟩,?_⟩
 ext i m vs w ⟨rfl,N9,f,A,EH,t,rfl,N,O,R,W,o⟩;show⟨by rw[R.len];apply dR (lt_size ()),?_⟩
 cases q:ls.drop i with
 | nil=>
  let Y:i=ls.length:=by let:=congrArg fQ q;simp at this;lia
  subst Y;rw[q] at O;cases O;show .inl ⟨u.stop w (AJ.ab f),λp d=>k _ _ (p::t) (s1.trans (f.trans (AJ.new d _))) ?_ (av.mpr ⟨λz=>Xt (o p z).2 d,W⟩) λa B=>?_⟩
  ·rw[bx];apply Is.lst bh (R.mono (AJ.new d _))
  ·rcases aY.mp B with rfl | B
   ·apply⟨AJ.off (s1.trans f) d,by rw[bh];apply cK⟩
   ·apply⟨AJ.off s1 (o a B).1,AJ.mut (AJ.new d _) (o a B).2⟩
 | cons l r=>
  let⟨X,hr⟩:=OY q;let D:=(aQ.mp X).1;rw[q] at O;let⟨sb,c,eb,et,Z⟩:=OX O
  show .inr ⟨u.go w i l (AJ.ab f) X,λF P=>AJ I P/\∃vw nk tx,A++EH=vw++nk/\vw.length<=i+1/\Dj T ft fe (CT n ix s) (ls.drop (i+1))=aA nk/\JX K P vw F tx/\tx.Nodup/\∀p∈tx,I p=aB/\EN (P p),
   λF P h'=>⟨ls.length-(i+1),(),rfl,D,h'.1,h'.2⟩,λx H2 y=>?_⟩
  let⟨s2,fx,S,L4⟩:=u.aas w i l x H2 (AJ.ab f) X y;let⟨Ap,bv,bf,rfl,bi,_,M,E⟩:=zY S eb;let G:dg K (λ_=>False) H2 (CT n ix s) (M3 n ix C):=(env.mono (s1.trans (f.trans s2))).comp;let j:=G.Kz (is:=T.slots) (YM n ix s C) bi λp d=>(L4 p (M p d)).2;show E _ _ ⟨Uj hT,λ_=>False,_,c,hd H2,j,et,λH3 g=>?_⟩;rcases Z with⟨rfl,y',zs,ey,ez,rfl⟩ | ⟨rfl,ez⟩
  ·show Znm ?_;show⟨_,y',j.mono g,ey,λv H4 f4 U i4 d4 n4=>?_⟩;show⟨f.trans (s2.trans (g.trans U)),A++[y'],zs,t++f4,by rw[fL];rfl,by rw[ah];simp;apply N,by rw[hr];apply ez,(R.mono (s2.trans (g.trans U))).append (JX.one i4),dq.mpr ⟨W,d4,λa B b Ck z=>?_⟩,λp d=>?_⟩
   ·subst z;apply Xt (AJ.mut (s2.trans g) (o a B).2) (n4 a Ck).1
   ·rcases aj.mp d with h | h
    ·apply⟨(o p h).1,AJ.mut (s2.trans (g.trans U)) (o p h).2⟩
    ·apply⟨AJ.off (f.trans (s2.trans g)) (n4 p h).1,(n4 p h).2⟩
  ·show Znl ?_;apply⟨f.trans (s2.trans g),A,EH,t,rfl,qc N,by rw[hr];apply ez,R.mono (s2.trans g),W,λp d=>⟨(o p d).1,AJ.mut (s2.trans g) (o p d).2⟩⟩
end
def FA(X:Cx)(ifs:Mk)(f:XT):Prop:=AF X ifs (GK X.K f)
section
variable {X:Cx} {Eu elt iter c:bT} {ifs:Mk} {scope:jX} {pos:g6} {fi:XL} {T:lZ} {ft:XT} {fe:XE}
def YR:FA X [] MV:=by ext a s b H Q I ⟨g,f,c,d,env,e,k⟩;cases e;apply Zfa a s b H Q I (k H (AJ.refl H))
def Od(h:A5 X c ft):FA X [c] ft:=Zfb h
def Vi(own fr:Gm)(c:N6)(b:X.calm=aD)(d:La X Eu iter fi)(S:Fs X.N X.env.scope scope own fr c=aD)
  (g:∀cl C s H a,CY (MT X (own++fr) scope cl C s H a) Eu (Lj X.K T)) (e:∀cl C s H a,FA (MT X (own++fr) scope cl C s H a) ifs ft) (f:∀cl C s H a,JW (MT X (own++fr) scope cl C s H a) elt fe)
  (h:(∀i∈T.slots,i<la own)|>Op) (hs:∀x,cw iter X.env x=pure x:=by ext _;rfl):JW X (.ListComp elt [⟨Eu,iter,ifs,0⟩] scope pos) (AS (la own) c fi T ft fe):=
 JY.imp (T2 own fr c b d S g (λcl C s H a=>(show AF (MT X (own++fr) scope cl C s H a) ifs (GK X.K ft) from e cl C s H a)) (λcl C s H a=>(show JY (MT X (own++fr) scope cl C s H a) elt (GY X.K fe) from f cl C s H a)) hs) (Zfv h)
def Uk(own fr:Gm)(c:N6)(b:X.calm=aD)(d:La X Eu iter fi)(S:Fs X.N X.env.scope scope own fr c=aD)
  (g:∀cl C s H a,CY (MT X (own++fr) scope cl C s H a) Eu (Lj X.K T)) (e:∀cl C s H a,FA (MT X (own++fr) scope cl C s H a) ifs ft) (f:∀cl C s H a,AU (MT X (own++fr) scope cl C s H a) elt fe)
  (h:(∀i∈T.slots,i<la own)|>Op) (hs:∀x,cw iter X.env x=pure x:=by ext _;rfl):AU X (.ListComp elt [⟨Eu,iter,ifs,0⟩] scope pos) (AS (la own) c fi T ft fe):=
 JY.imp (T2 own fr c b d S g (λcl C s H a=>(show AF (MT X (own++fr) scope cl C s H a) ifs (GK X.K ft) from e cl C s H a)) (λcl C s H a=>(show JY (MT X (own++fr) scope cl C s H a) elt (Fq X.K fe) from f cl C s H a)) hs) (xG h)
end
def E4(xs:List PV)(lo N9:Mo):List PV:=(xs.drop (HT.GR (la xs) 0 lo)).take (HT.GR (la xs) (la xs) N9-HT.GR (la xs) 0 lo)
def JX.cut(lo e:Mo)(h:JX K H l xs Gh):∃f1,JX K H (E4 l lo e) (G0 xs lo e) f1/\∀p∈f1,p∈Gh:=by delta E4 G0;rw[h.len];let⟨f1,a,b⟩:=h.drop (HT.GR l.length 0 lo);let⟨f,c,d⟩:=a.take (HT.GR l.length l.length e-HT.GR l.length 0 lo);apply⟨f,c,λp g=>b p (d p g)⟩
abbrev XO:=ZK->Option (Option Int)
def NZ(K:aG)(f:XO):TO:=λσ H Q=>∃(Rm:Le) (s:ZK) (i:Mo),(∀p,Rm p->EN (H p))/\dg K Rm H s σ/\f s=aA i/\∀H',AJ H H'->Q i H'
def Fx(X:Cx)(e:Option bT)(f:XO):Prop:=Bx X e (NZ X.K f)
def CP:XO:=λ_=>aA aB
def AY(f:XE):XO:=λs=>match f s with | some (.int i)=>aA (aA i) | _=>aB
def FZ(x:PV)(lo N9:Mo):Option PV:=match x with | .lst l=>aA (.lst (E4 l lo N9)) | .cst l=>aA (.lst (E4 l lo N9)) | _=>aB
def G7(x:PV)(lo N9:Mo):Option PV:=match x with | .tup l=>if HT.GR l.length 0 lo=0/\HT.GR l.length l.length N9=l.length then aB else aA (.tup (E4 l lo N9)) | _=>aB
def MW(g:PV->Option Int->Option Int->Option PV)(a:XE)(lo N9:XO):XE:=λs=>(a s).bind λx=>(lo s).bind λl=>(N9 s).bind λu=>g x l u
def yH(lo a:Mo)(h:CF l=aD):CF (E4 l lo a)=aD:=by rw[WK,bN] at *;ext x b;apply h x (gn (dt b))
section
variable {X:Cx} {e:bT} {lo N9:Option bT} {p2 pos:g6} {fa:XE} {fl fh:XO}
def Yo:Fx X aB CP:=by ext a s b H Q I ⟨f,d,i,c,env,e,k⟩;cases e;apply Ze3 a s b H Q I (k H (AJ.refl H))
def Z3(h:JW X e fa):Fx X (aA e) (AY fa):=by
 ext b s c H Q I ⟨l,d,i,a,env,e,k⟩;delta AY at e;split at e
 ·cases e;rename_i j g;apply RG h b s c H Q I ⟨l,d,.int j,a,env,g,λv m o f i n=>⟨j,i.int_inv.1,k m f⟩⟩
 ·cases e
def sz(B:JW X e fa)(w:Fx X lo fl)(u:Fx X m fh):JW X (.Subscript e (.Slice lo m aB p2) pos) (MW FZ fa fl fh):=JY.imp (OC Ze6 B w u)<|by
 ext D H Q ⟨n,s,l,j,env,e,k⟩;let⟨x,C,e⟩:=Zc e;let⟨a,A,e⟩:=Zc e;let⟨b,y,e⟩:=Zc e;show⟨n,s,x,j,env,C,λv J I s1 o t=>⟨n,s,a,λp h=>AJ.mut s1 (j p h),env.mono s1,A,λF s2=>⟨n,s,b,λp h=>AJ.mut (s1.trans s2) (j p h),env.mono (s1.trans s2),y,λG i=>?_⟩⟩⟩
 cases x with
 | lst l=>
  cases e;let⟨p,xs,E,rfl,h,m,rfl⟩:=(o.mono (s2.trans i)).lst_inv;let⟨f1,c,d⟩:=m.cut a b;show⟨p,xs,rfl,EJ.of h,λq f=>k _ _ (q::f1) (s1.trans (s2.trans (i.trans (AJ.new f _)))) (Is.lst bh (c.mono (AJ.new f _))) λr g z=>?_⟩;rcases aY.mp g with rfl | g
  ·apply Xt (AJ.mut (s1.trans (s2.trans i)) (j r z)) f
  ·apply t r (aS _ (d r g)) z
 | cst l=>
  cases e;let⟨p,xs,rfl,h,m⟩:=(o.mono (s2.trans i)).gF;let⟨f1,c,d⟩:=m.cut a b;show⟨p,xs,rfl,h.sq,λq f=>k _ _ (q::f1) (s1.trans (s2.trans (i.trans (AJ.new f _)))) (Is.lst bh (c.mono (AJ.new f _))) λr g z=>?_⟩;rcases aY.mp g with rfl | g
  ·apply Xt (AJ.mut (s1.trans (s2.trans i)) (j r z)) f
  ·apply t r (d r g) z
 | _=>cases e
def Y7(A:JW X e fa)(u:Fx X lo fl)(o:Fx X g fh):JW X (.Subscript e (.Slice lo g aB p2) pos) (MW G7 fa fl fh):=JY.imp (OC XA A u o)<|by
 ext D H Q ⟨j,s,l,h,env,e,k⟩;let⟨x,C,e⟩:=Zc e;let⟨a,y,e⟩:=Zc e;let⟨b,w,e⟩:=Zc e;show⟨j,s,x,h,env,C,λv I G s1 t z=>⟨j,s,a,λp f=>AJ.mut s1 (h p f),env.mono s1,y,λE s2=>⟨j,s,b,λp f=>AJ.mut (s1.trans s2) (h p f),env.mono (s1.trans s2),w,λF m=>?_⟩⟩⟩
 cases x with
 | tup l=>
  delta G7 at e;simp only at e;split at e
  ·cases e
  ·rename_i i;cases e;let⟨p,xs,rfl,f,g⟩:=(t.mono (s2.trans m)).b_;let⟨f1,c,d⟩:=g.cut a b;show⟨p,xs,rfl,CG.of f,by rw[g.len];apply i,λq n=>k _ _ f1 (s1.trans (s2.trans (m.trans (AJ.new n _)))) (Is.tup bh (c.mono (AJ.new n _))) λr B=>z r (d r B)⟩
 | _=>cases e
end
end _v
namespace _v
open PySem PySem.Spec PyProof.Rows _l
variable {K:aG}
structure Rel(K:aG)(O:N6)(H0:Hp)(bD:aaq)(s:ZK)(σ:Mz)(H:Hp):Prop where
 same:AJ H0 H
 len:la s=σ.length
 is:∀(i:Nat) l,s[i]?=aA (aA l)->∃v,σ[i]?=aA (aA v)/\Is K H l v (bD i)
 ud:∀(i:Nat),(∀l,s[i]?≠aA (aA l))->bD i=[]
 nd:∀i∈O,(bD i).Nodup
 own:∀i∈O,∀p∈bD i,H0 p=aB/\EN (H p)
 p':∀i∈O,∀j,j≠i->∀p∈bD i,p∉bD j
def Fb(O:N6)(bD:aaq)(p:aP):Prop:=∃i∈O,p∈bD i
def IA(O:N6)(s:ZK):ZK:=O.foldl (λs i=>s.set i aB) s
def OZ:∀{O:N6}{s:ZK}{i:Nat}{l:PV},(IA O s)[i]?=aA (aA l)->i∉O/\s[i]?=aA (aA l)
 | [],s,i,l,h=>⟨⋯,h⟩
 | o::O,s,i,l,h=>by
  let⟨b,a⟩:=OZ (O:=O) (s:=s.set o aB) h;rw[cB] at a;by_cases e:o=i
  ·rw[An e] at a;split at a<;>cases a
  ·rw[N4 e] at a;apply⟨by dsimp[aY,not_or];apply⟨λz=>e z.symm,b⟩,a⟩
section
variable {O:N6} {H0 H H':Hp} {bD:aaq} {s:ZK} {σ:Mz}
def Rel.at(r:Rel K O H0 bD s σ H)(i:Nat)(c:p∈bD i):∃l v,s[i]?=aA (aA l)/\σ[i]?=aA (aA v)/\Is K H l v (bD i):=by
 cases q:s[i]? with
 | none=>rw[r.ud i (λl z=>by rw[q] at z;cases z)] at c;simp at c
 | some o=>cases o with
  | none=>rw[r.ud i (λl z=>by rw[q] at z;cases z)] at c;simp at c
  | some l=>
   let⟨v,a,b⟩:=r.is i l q;apply⟨l,v,rfl,a,b⟩
def Rel.oi(r:Rel K O H0 bD s σ H)(i:Nat):∀p∈bD i,H p≠aB:=λp a=>by let⟨l,v,_,_,b⟩:=r.at i a;apply Is.oi _ _ _ b p a
def Rel.env(r:Rel K O H0 bD s σ H):dg K (λ_=>False) H s σ:=⟨λi l e=>by
 let⟨v,a,b⟩:=r.is i l e;apply⟨v,_,a,b,λ_ _ z=>z⟩⟩
def Rel.zm(r:Rel K O H0 bD s σ H):dg K (Fb O bD) H (IA O s) σ:=⟨λi l e=>by
 let⟨n,e⟩:=OZ e;let⟨v,a,b⟩:=r.is i l e;apply⟨v,_,a,b,λp f ⟨j,d,c⟩=>r.p' j d i (λz=>n (z▸d)) p c f⟩⟩
def Rel.wk(r:Rel K O H0 bD s σ H):∀p,Fb O bD p->EN (H p):=λp ⟨i,a,b⟩=>(r.own i a p b).2
def Rel.grow(r:Rel K O H0 bD s σ H)(e:AJ H H'):Rel K O H0 bD s σ H':=
 ⟨r.same.trans e,r.len,λi l q=>by let⟨v,a,b⟩:=r.is i l q;apply⟨v,a,b.mono e⟩,r.ud,r.nd,λi c p d=>⟨(r.own i c p d).1,AJ.mut e (r.own i c p d).2⟩,r.p'⟩
def Rel.less(r:Rel K O F bD s σ H)(e:AJ H0 F):Rel K O H0 bD s σ H:=
 ⟨e.trans r.same,r.len,r.is,r.ud,r.nd,λi a p b=>⟨AJ.off e (r.own i a p b).1,(r.own i a p b).2⟩,r.p'⟩
open Classical in
def Ia(H:Hp)(Rm:Le):Hp:=λb=>if Rm b then aB else H b
def ZO:AJ (Ia H Rm) H:=λb o h=>by
 delta Ia at h;split at h
 ·cases h
 ·apply h
def Rel.frame(r:Rel K O H0 bD s σ H):Rel K O (Ia H (Fb O bD)) bD s σ H:=
 ⟨ZO,r.len,r.is,r.ud,r.nd,λi a p b=>⟨by delta Ia;rw[An ⟨i,a,b⟩],(r.own i a p b).2⟩,r.p'⟩
def Rel.under(r:Rel K O H0 bD s σ H):AJ H0 (Ia H (Fb O bD)):=λb o h=>by delta Ia;rw[N4 (λ⟨i,a,c⟩=>by rw[(r.own i a b c).1] at h;cases h)];apply r.same b o h
open Classical in
def Iq(bD:aaq)(n:Nat)(i:Nat)(Gh:Gs):Nat->List aP:=λj=>if j=i/\i<n then Gh else bD j
def Z9(h:j≠i):Iq bD n i Gh j=bD j:=by delta Iq;rw[N4 (λz=>h z.1)]
def Th(h:i<n):Iq bD n i Gh i=Gh:=by delta Iq;rw[An ⟨rfl,h⟩]
def Rel.set(r:Rel K O H0 bD s σ H)(u:Is K H l v Gh)(o:i∈O->Gh.Nodup/\∀p∈Gh,H0 p=aB/\EN (H p))
  (n:∀j,j≠i->(j∈O\/i∈O)->∀p∈Gh,p∉bD j):Rel K O H0 (Iq bD (la s) i Gh) (s.set i (aA l)) (σ.set i (aA v)) H:=by
 by_cases c:i<la s
 ·let f:Iq bD (la s) i Gh i=Gh:=Th c;show⟨r.same,by rw[cq,cq];apply r.len,λj a e=>?_,λj h=>?_,λj b=>?_,λj b p d=>?_,λj b k m p d=>?_⟩
  ·rw[cB] at e;by_cases b:i=j
   ·subst b;rw[An rfl,An c] at e;cases e;rw[f];apply⟨v,by rw[cB,An rfl,An (by rw[<-r.len];apply c)],u⟩
   ·rw[N4 b] at e;let⟨w,q,x⟩:=r.is j a e;rw[Z9 (bU b)];apply⟨w,by rw[cB,N4 b];apply q,x⟩
  ·by_cases b:i=j
   ·subst b;apply absurd (by rw[cB,An rfl,An c]) (h l)
   ·rw[Z9 (bU b)];apply r.ud j λa z=>h a (by rw[cB,N4 b];apply z)
  ·by_cases e:j=i
   ·subst e;rw[f];apply(o b).1
   ·rw[Z9 e];apply r.nd j b
  ·by_cases e:j=i
   ·subst e;rw[f] at d;apply(o b).2 p d
   ·rw[Z9 e] at d;apply r.own j b p d
  ·by_cases e:j=i
   ·subst e;rw[f] at d;rw[Z9 m];apply n k m (.inr b) p d
   ·rw[Z9 e] at d;by_cases g:k=i
    ·subst g;rw[f];apply λz=>n j e (.inl b) p z d
    ·rw[Z9 g];apply r.p' j b k m p d
 ·let f:s.set i (aA l)=s:=m3 (by omega);let g:σ.set i (aA v)=σ:=m3 (by rw[<-r.len];omega);let t:Iq bD (la s) i Gh=bD:=by funext j;delta Iq;rw[N4 (λz=>c z.2)]
  rw[f,g,t];apply r
def Rel.pG(r:Rel K O H0 bD s σ H)(n:i∈O)(m:p∈bD i)(D:σ[i]?=aA (aA v))(f:i<la s)
  (h':Is K (upd H p o) l' v tx) (B:tx.Nodup) (G:∀q∈tx,H0 q=aB/\EN (upd H p o q)) (y:∀j,j≠i->∀q∈tx,q∉bD j) (E:EN (aA o)):Rel K O H0 (Iq bD (la s) i tx) (s.set i (aA l')) σ (upd H p o):=by
 let g:=(r.own i n p m).2;let J:=(r.own i n p m).1;let l:Iq bD (la s) i tx i=tx:=Th f
 let tk:s8 H (upd H p o):=⟨λb xs h=>by
  rw[a_ (λz=>by rw[z] at h;rw[h] at g;apply g)];apply h,λb o xs h=>by
  rw[a_ (λz=>by rw[z] at h;rw[h] at g;apply g)];apply h,λb o x h=>by
  rw[a_ (λz=>by rw[z] at h;rw[h] at g;apply g)];apply h⟩
 show⟨λb u h=>by rw[a_ (Zk h J)];apply r.same b u h,by rw[cq];apply r.len,λj a e=>?_,λj h=>?_,λj c=>?_,λj c q d=>?_,λj c k t q d=>?_⟩
 ·rw[cB] at e;by_cases c:i=j
  ·subst c;rw[An rfl,An f] at e;cases e;rw[l];apply⟨v,D,h'⟩
  ·rw[N4 c] at e;let⟨w,C,I⟩:=r.is j a e;rw[Z9 (bU c)];show⟨w,C,Is.Aw tk _ _ _ (λq d=>E2.of λu F=>?_) I⟩;let ne:q≠p:=λz=>r.p' i n j (bU c) p m (z▸d);rw[a_ ne];apply F
 ·by_cases c:i=j
  ·subst c;apply absurd (by rw[cB,An rfl,An f]) (h l')
  ·rw[Z9 (bU c)];apply r.ud j λa z=>h a (by rw[cB,N4 c];apply z)
 ·by_cases e:j=i
  ·subst e;rw[l];apply B
  ·rw[Z9 e];apply r.nd j c
 ·by_cases e:j=i
  ·subst e;rw[l] at d;apply G q d
  ·rw[Z9 e] at d;show⟨(r.own j c q d).1,?_⟩;let ne:q≠p:=λz=>r.p' j c i (bU e) q d (z▸m);rw[a_ ne];apply(r.own j c q d).2
 ·by_cases e:j=i
  ·subst e;rw[l] at d;rw[Z9 t];apply y k t q d
  ·rw[Z9 e] at d;by_cases A:k=i
   ·subst A;rw[l];apply λz=>y j e q z d
   ·rw[Z9 A];apply r.p' j c k t q d
end
def Kq(a b:Gs):Prop:=a=b\/a=[]
def Kq.refl(a:Gs):Kq a a:=.inl rfl
def Kq.trans(h:Kq a b)(k:Kq b c):Kq a c:=by
 rcases h with rfl | h
 ·apply k
 ·apply .inr h
inductive Out where
 | L4 (s:ZK) | Cj (l:PV) | Gw (s:ZK) | Gq (s:ZK)
abbrev XS:=ZK->Option Out
def IJ(K:aG)(O W:N6)(H0:Hp)(bD:aaq)(σ:Mz)(D:J4):Out->Prop
 | .L4 Aq=>∀tQ σ' H',Rel K O H0 tQ Aq σ' H'->(∀j,j∉W->σ'[j]?=σ[j]?/\Kq (tQ j) (bD j))->D.L4 σ' H'
 | .Gw Aq=>∀tQ σ' H',Rel K O H0 tQ Aq σ' H'->(∀j,j∉W->σ'[j]?=σ[j]?/\Kq (tQ j) (bD j))->D.Gw σ' H'
 | .Gq Aq=>∀tQ σ' H',Rel K O H0 tQ Aq σ' H'->(∀j,j∉W->σ'[j]?=σ[j]?/\Kq (tQ j) (bD j))->D.Gq σ' H'
 | .Cj l=>∀v Gh H',AJ H0 H'->Is K H' l v Gh->Gh.Nodup->(∀p∈Gh,H0 p=aB/\EN (H' p))->D.Cj v H'
def Dc(K:aG)(O W:N6)(f:XS):Cq:=λD σ H=>∃H0 bD s out,Rel K O H0 bD s σ H/\f s=aA out/\IJ K O W H0 bD σ D out
def MX(X:Cx)(O W:N6)(st:cD)(f:XS):Prop:=AV X st (Dc X.K O W f)
def Lb(X:Cx)(O W:N6)(st:Cs)(f:XS):Prop:=Kw X st (Dc X.K O W f)
def IJ.same(h:IJ K O W' H0 bD σ D out)(k:∀j,j∉W'->σ1[j]?=σ[j]?/\Kq (zl j) (bD j))(hs:∀j,j∉W'->j∉W):IJ K O W H0 zl σ1 D out:=by
 cases out with
 | L4 Aq=>apply λd b c r q=>h d b c r λj a=>⟨(q j (hs j a)).1.trans (k j a).1,(q j (hs j a)).2.trans (k j a).2⟩
 | Gw Aq=>apply λd b c r q=>h d b c r λj a=>⟨(q j (hs j a)).1.trans (k j a).1,(q j (hs j a)).2.trans (k j a).2⟩
 | Gq Aq=>apply λd b c r q=>h d b c r λj a=>⟨(q j (hs j a)).1.trans (k j a).1,(q j (hs j a)).2.trans (k j a).2⟩
 | Cj l=>apply h
def IJ.less(h:IJ K O W H0 bD σ D out)(e:AJ H0 F):IJ K O W F bD σ D out:=by
 cases out with
 | L4 Aq=>apply λc a b r q=>h c a b (r.less e) q
 | Gw Aq=>apply λc a b r q=>h c a b (r.less e) q
 | Gq Aq=>apply λc a b r q=>h c a b (r.less e) q
 | Cj l=>apply λv g b j i d n=>h v g b (e.trans j) i d λp f=>⟨AJ.off e (n p f).1,(n p f).2⟩
def GX:XS:=λs=>aA (.L4 s)
def GP(f g:XS):XS:=λs=>(f s).bind λo=>match o with | .L4 Aq=>g Aq | r=>aA r
def EI(c:XT)(f g:XS):XS:=λs=>(c s).bind λk=>if k=aD then f s else g s
def AQ(f:XE):XS:=λs=>(f s).map .Cj
def Kg(i:Nat)(f:XE):XS:=λs=>(f s).map λl=>.L4 (s.set i (aA l))
section
variable {X:Cx} {O W W1 W2:N6} {st:cD} {EH:Cs} {f g:XS} {pos:g6}
def AV.imp(h:AV X st t)(i:∀D a H,t' D a H->t D a H):AV X st t':=λb s a H D I q=>h b s a H D I (i D a H q)
def Kw.imp(h:Kw X EH t)(i:∀D a H,t' D a H->t D a H):Kw X EH t':=λb s a H D I q=>h b s a H D I (i D a H q)
def Zal:∀D a H,Dc K O W GX D a H->B8 D a H:=by ext D a H ⟨c,bD,s,b,r,e,k⟩;cases e;apply k bD a H r λj _=>⟨rfl,Kq.refl _⟩
def ZI:Lb X O [] [] GX:=Kw.imp Zes Zal
def Zf(h:MX X O W st f):Lb X O W [st] f:=nT h
def Zd(w:MX X O W1 st f)(A:Lb X O W2 EH g):Lb X O (W1++W2) (st::EH) (GP f g):=Kw.imp (TX w A)<|by
 ext D B H ⟨t,bD,s,m,r,e,k⟩;let⟨q,y,e⟩:=Zc e;let a:∀j,j∉W1++W2->j∉W1:=λj b z=>b (au _ z);let d:∀j,j∉W1++W2->j∉W2:=λj b z=>b (bA _ z);show⟨t,bD,s,q,r,y,?_⟩
 cases q with
 | L4 s1=>
  ext h u C v x;apply⟨t,h,s1,m,v,e,k.same (λj b=>x j (a j b)) d⟩
 | Gw s1=>cases e;apply λn c p i o=>k n c p i λj b=>o j (a j b)
 | Gq s1=>cases e;apply λn c p i o=>k n c p i λj b=>o j (a j b)
 | Cj l=>cases e;apply k
def Yc(o:A5 X c fc)(p:Lb X O W1 a f)(n:Lb X O W2 b g):MX X O (W1++W2) (.If c a b pos) (EI fc f g):=AV.imp (Zia o p n)<|by
 ext D t H ⟨m,bD,s,h,r,e,k⟩;let⟨c,q,e⟩:=Zc e;let d:∀j,j∉W1++W2->j∉W1:=λj l z=>l (au _ z);let i:∀j,j∉W1++W2->j∉W2:=λj l z=>l (bA _ z);show⟨λ_=>False,s,c,λ_ z=>z.elim,r.env,q,λu s1=>?_⟩
 cases c with
 | true=>
  apply⟨m,bD,s,h,r.grow s1,e,k.same (λj _=>⟨rfl,Kq.refl _⟩) d⟩
 | false=>
  apply⟨m,bD,s,h,r.grow s1,e,k.same (λj _=>⟨rfl,Kq.refl _⟩) i⟩
def Zq(b:AU X e fe):MX X O [] (.Return (aA e) pos) (AQ fe):=AV.imp (PI b)<|by ext D m H ⟨o,bD,s,f,r,e,k⟩;let⟨l,j,rfl⟩:=map_some e;apply⟨s,l,r.env,j,λv h c g i d n=>k v c h (r.same.trans g) i d λp a=>⟨AJ.off r.same (n p a).1,(n p a).2⟩⟩
def Vj(d:JY X e (KO i))(c:i∈O|>Op):MX X O [] (.Return (aA e) pos) (AQ (Cw i)):=AV.imp (PI d)<|by ext D j H ⟨h,bD,s,g,r,e,k⟩;let⟨l,f,rfl⟩:=map_some e;let⟨v,a,b⟩:=r.is i l (Qn f);apply⟨v,a,k v _ H r.same b (r.nd i c) (r.own i c)⟩
def X2(m:∀a H Q,Fq K fe a H Q->t a H Q):∀D a H,Dc K O [i] (Kg i fe) D a H->J0 t (IM i) D a H:=by
 ext D a H ⟨q,bD,s,c,r,e,k⟩;let⟨l,o,rfl⟩:=map_some e;show m a H _ ⟨s,l,r.env,o,λv h u f is d n=>?_⟩;show k _ _ h ((r.grow f).set is (λ_=>⟨d,λp b=>⟨AJ.off r.same (n p b).1,(n p b).2⟩⟩) λj _ _ p b z=>r.oi j p z (n p b).1) λj g=>?_;have:j≠i:=by simpa using g
 apply⟨by rw[cB,N4 (bU this)],.inl (Z9 this)⟩
def Zk2(d:X.N.Nodup)(a:X.N[i]?=aA x)(f:Loc X.env.scope x)(b:AU X e fe)(hs:gO e (aA (.Name x pos')) pos.line X.env=pure aC|>On)(c:X.fn x=aD\/X.env.scope.names.lookup x=aA .local:=by first | apply .inl rfl | apply .inr rfl | assumption) :
  MX X O [i] (.Assign [.Name x pos'] e pos) (Kg i fe):=AV.imp (Zjv d a f b hs c) (X2 λ_ _ _ h=>h)
end
def Mx(T:lZ)(fb:XS):List PV->ZK->Option Out
 | [],s=>aA (.L4 s)
 | l::r,s=>(CS T l s).bind λs1=>(fb s1).bind λo=>match o with | .L4 s2=>Mx T fb r s2 | .Gq s2=>Mx T fb r s2 | .Gw s2=>aA (.L4 s2) | .Cj v=>aA (.Cj v)
def GZ(O:N6)(fi:XL)(T:lZ)(fb:XS):XS:=λs=>(fi (IA O s)).bind λls=>Mx T fb ls s
theorem Rel.Kz:∀{is:N6}{ls:List PV}{vs:List V}{fs:Gs}{bD:aaq}{s:ZK}{σ:Mz},Rel K O H0 bD s σ H->JX K H ls vs fs->la ls=la is->(∀i∈is,i∉O)->(∀i∈O,∀p∈bD i,p∉fs)->
  ∃h,Rel K O H0 h (_v.Kz is ls s) (C7 is vs σ) H/\∀j,j∉is->(C7 is vs σ)[j]?=σ[j]?/\Kq (h j) (bD j)
 | [],ls,vs,fs,bD,s,σ,r,_,_,_,_=>⟨bD,by delta _v.Kz C7;apply r,λj _=>⟨by delta C7;rfl,Kq.refl _⟩⟩
 | i::is,[],vs,fs,bD,s,σ,r,_,Kb,_,_=>by simp at Kb
 | i::is,l::ls,vs,fs,bD,s,σ,r,N9,Kb,hO,hd=>by
  let⟨x,u,f1,v,rfl,n,q,rfl⟩:=N9.inv;let g:=hO i ar
  let m:=r.set (i:=i) n (λz=>absurd z g) λj f c p k z=>by
   rcases c with c | c
   ·apply hd j c p z (au _ k)
   ·apply absurd c g
  let⟨h,t,o⟩:=Rel.Kz (is:=is) m q (~~~Kb) (λj f=>hO j (aS _ f)) λj f p k z=>by let d:j≠i:=λe=>g (by rw[<-e];apply f);rw[Z9 d] at k;apply hd j f p k (bA _ z)
  show⟨h,t,λj f=>?_⟩;let d:j≠i:=λe=>f (e▸ar);let⟨a,b⟩:=o j (λz=>f (aS _ z));apply⟨a.trans (by rw[cB,N4 (bU d)]),b.trans (.inl (Z9 d))⟩
section
variable {O W:N6} {T:lZ} {fb:XS}
def O0(r:Rel K O (Ia H1 (Fb O bD)) bD s σ H1)(B:yl K (Fb O bD) H1 J ls)(e:Mx T fb ls s=aA out)(hT:∀i∈T.slots,i∉O)
  (k:IJ K O (T.slots++W) (Ia H1 (Fb O bD)) bD σ D out):zz (Lj K T) (Dc K O W fb) D σ J H1:=by
 let u:∀j,j∉T.slots++W->j∉T.slots:=λj a z=>a (au _ z);let c:∀j,j∉T.slots++W->j∉W:=λj a z=>a (bA _ z)
 show⟨λi m g E=>m=ls.length-i/\i<=ls.length/\∃P S,Rel K O (Ia H1 (Fb O bD)) P S g E/\Mx T fb (ls.drop i) S=aA out/\∀j,j∉T.slots++W->g[j]?=σ[j]?/\Kq (P j) (bD j),
  ⟨ls.length,⋯,dM _,bD,s,r,e,λj _=>⟨rfl,Kq.refl _⟩⟩,?_⟩
 ext i m g E ⟨rfl,N9,P,S,N,f,X⟩;let ab:=λb o h n=>N.same b o (by delta Ia;rw[N4 n];apply h)
 cases q:ls.drop i with
 | nil=>
  let U:i=ls.length:=by let:=congrArg fQ q;simp at this;omega
  subst U;rw[q] at f;cases f;apply .inl ⟨B.stop E ab,k P g E N X⟩
 | cons l Mn=>
  let⟨R,Z⟩:=OY q;let I:=(aQ.mp R).1;rw[q] at f;let⟨sb,eb,f⟩:=Zc f;let⟨o,eo,f⟩:=Zc f
  show .inr ⟨B.go E i l ab R,λA M=>∃uc s2,Rel K O (Ia H1 (Fb O bD)) uc s2 A M/\Mx T fb (ls.drop (i+1)) s2=aA out/\∀j,j∉T.slots++W->A[j]?=σ[j]?/\Kq (uc j) (bD j),
   λA M Md=>⟨ls.length-(i+1),by omega,rfl,I,Md⟩,λx M y=>?_⟩
  let⟨s2,fx,ix,L4⟩:=B.aas E i l x M ab R y;let⟨Ap,bv,bf,rfl,bi,F,H,L⟩:=zY ix eb;let⟨t,abj,Y⟩:=Rel.Kz (N.grow s2) bi F hT λj a p Gn z=>by let⟨n1,n2⟩:=L4 p (H p z);let:=(N.own j a p Gn).1;delta Ia at this;rw[N4 n2] at this;apply n1 this
  show L _ _ ⟨_,t,_,o,abj,eo,?_⟩;let keep:∀j,j∉T.slots++W->(C7 T.slots bv g)[j]?=σ[j]?/\Kq (t j) (bD j):=λj a=>⟨(Y j (u j a)).1.trans (X j a).1,(Y j (u j a)).2.trans (X j a).2⟩
  cases o with
  | L4 s4=>apply λd C Q G w=>⟨d,s4,G,by rw[Z];apply f,λj a=>⟨(w j (c j a)).1.trans (keep j a).1,(w j (c j a)).2.trans (keep j a).2⟩⟩
  | Gq s4=>apply λd C Q G w=>⟨d,s4,G,by rw[Z];apply f,λj a=>⟨(w j (c j a)).1.trans (keep j a).1,(w j (c j a)).2.trans (keep j a).2⟩⟩
  | Gw s4=>
   cases f;apply λd C Q G w=>k d C Q G λj a=>⟨(w j (c j a)).1.trans (keep j a).1,(w j (c j a)).2.trans (keep j a).2⟩
  | Cj v=>
   cases f;apply k
end
section
variable {X:Cx} {O W:N6} {Eu iter:bT} {body:Cs} {fi:XL} {T:lZ} {fb:XS} {pos:g6}
def Zk3(l:pL (model X.prog X.w) X.A X.env X.Ar)(c:X.calm=aD)(g:La X Eu iter fi)(h:CY X Eu (Lj X.K T))(b:Lb X O W body fb)(d:(∀i∈T.slots,i∉O)|>Op)
  (hs:∀x,cw iter X.env x=pure x:=by ext _;rfl):MX X O (T.slots++W) (.For Eu iter body [] pos) (GZ O fi T fb):=AV.imp (Sh l c g h b hs) λD m H ⟨n,bD,s,f,r,e,k⟩=>by
 let⟨ls,j,e⟩:=Zc e;show⟨Fb O bD,IA O s,ls,r.wk,r.zm,j,λJ o s1 a=>?_⟩;apply O0 (r.grow s1).frame a e d (k.less (r.grow s1).under)
end
def C2(c:XT)(fb:XS):Nat->ZK->Option Out
 | 0,_=>aB
 | n+1,s=>(c s).bind λk=>if k=aD then(fb s).bind λo=>match o with | .L4 s2=>C2 c fb n s2 | .Gq s2=>C2 c fb n s2 | .Gw s2=>aA (.L4 s2) | .Cj v=>aA (.Cj v) else aA (.L4 s)
def U3:∀{n:Nat}{s:ZK}{o:Out},C2 c fb n s=aA o->C2 c fb (n+1) s=aA o
 | 0,_,_,h=>by cases h
 | n+1,s,o,h=>by
  delta C2 at h ⊢;let⟨k,a,h⟩:=Zc h;rw[a]
  cases k with
  | false=>apply h
  | true=>
   rw[An rfl] at h;let⟨d,b,h⟩:=Zc h;dsimp[aZ,if_true,b]
   cases d with
   | L4 s2=>apply U3 h
   | Gq s2=>apply U3 h
   | Gw s2=>apply h
   | Cj v=>apply h
def VS(h:C2 c fb n s=aA o)(a:n<=m):C2 c fb m s=aA o:=by
 induction m with
 | zero=>
  have:n=0:=by omega
  subst this;apply h
 | succ m N8=>
  by_cases e:n=m+1
  ·subst e;apply h
  ·apply U3 (N8 (by omega))
open Classical in
def K9(c:XT)(fb:XS):XS:=λs=>if h:∃n,(C2 c fb n s).isSome=aD then C2 c fb h.choose s else aB
def kr(h:C2 c fb n s=aA o):K9 c fb s=aA o:=by
 let b:∃n,(C2 c fb n s).isSome=aD:=⟨n,by rw[h];rfl⟩;delta K9;rw[dif_pos b];let⟨d,e⟩:=dY.mp b.choose_spec;rw[e];rcases Nat.le_total n b.choose with a | a
 ·rw[VS h a] at e;apply e.symm
 ·rw[VS e a] at h;apply h
section
variable {X:Cx} {O W:N6} {c:bT} {body:Cs} {fc:XT} {fb:XS} {pos:g6}
def O1(M:pL (model X.prog X.w) X.A X.env X.Ar)(I:A5 X c fc)(F:Lb X O W body fb):MX X O W (.While c body [] pos) (K9 fc fb):=AV.imp (d' M I F)<|by
 ext D C H ⟨B,bD,s,u,r,e,k⟩;delta K9 at e;split at e
 case isFalse=>cases e
 rename_i N;generalize N.choose=n at e;show⟨λm g E=>∃w t,Rel X.K O B w t g E/\C2 fc fb m t=aA u/\∀j,j∉W->g[j]?=C[j]?/\Kq (w j) (bD j),⟨n,bD,s,r,e,λj _=>⟨rfl,Kq.refl _⟩⟩,?_⟩;ext m g E ⟨w,t,A,f,l⟩
 cases m with
 | zero=>cases f
 | succ m=>
  let⟨b,J,f⟩:=Zc f;show⟨λ_=>False,t,b,λ_ z=>z.elim,A.env,J,λx s2=>?_⟩
  cases b with
  | false=>
   cases f;apply k w g x (A.grow s2) l
  | true=>
   let⟨o,G,f⟩:=Zc f;show⟨λi x=>∃uc s2,Rel X.K O B uc s2 i x/\C2 fc fb m s2=aA u/\∀j,j∉W->i[j]?=C[j]?/\Kq (uc j) (bD j),λi x L=>⟨m,iK m,L⟩,B,w,t,o,A.grow s2,G,?_⟩
   cases o with
   | L4 s4=>apply λa p y q h=>⟨a,s4,q,f,λj d=>⟨(h j d).1.trans (l j d).1,(h j d).2.trans (l j d).2⟩⟩
   | Gq s4=>apply λa p y q h=>⟨a,s4,q,f,λj d=>⟨(h j d).1.trans (l j d).1,(h j d).2.trans (l j d).2⟩⟩
   | Gw s4=>
    cases f;apply λa p y q h=>k a p y q λj d=>⟨(h j d).1.trans (l j d).1,(h j d).2.trans (l j d).2⟩
   | Cj v=>cases f;apply k
end
end _v
namespace _v
open PySem PySem.Spec PyProof.Rows _l
variable {K:aG}
section
variable {O:N6} {H0 H H':Hp} {bD:aaq} {s:ZK} {σ:Mz}
def Rel.nt(r:Rel K O H0 bD s σ H)(h:i∈O)(e:s[i]?=aA (aA (.lst m))):∃p xs c,σ[i]?=aA (aA (.ref p))/\H p=aA (.lst xs)/\JX K H m xs c/\bD i=p::c:=by let⟨v,a,b⟩:=r.is i _ e;let⟨p,xs,c,rfl,f,g,d⟩:=b.lst_inv;apply⟨p,xs,c,a,f,g,d⟩
def Rel.wO(r:Rel K O H0 bD s σ H)(h:i∈O)(e:s[i]?=aA (aA (.L8 ks m))):∃p JJ d,σ[i]?=aA (aA (.ref p))/\H p=aA (.L8 JJ)/\JJ.map (·.1)=ks/\JX K H m (JJ.map (·.2)) d/\bD i=p::d:=by
 let⟨v,a,b⟩:=r.is i _ e;let⟨p,xs,d,rfl,c,j,k,g⟩:=b.nS;show⟨p,xs,d,a,?_,j,k,g⟩;let f:=(r.own i h p (by rw[g];apply ar)).2;rcases c with c | ⟨o,c⟩
 ·apply c
 ·rw[c] at f;apply f.elim
def Rel.wQ(r:Rel K O H0 bD s σ H)(h:i∈O)(e:s[i]?=aA (aA (.Mf ks m))):∃p JJ d,σ[i]?=aA (aA (.ref p))/\H p=aA (.Mf JJ)/\JJ.map (·.1)=ks/\JX K H m (JJ.map (·.2)) d/\bD i=p::d:=by
 let⟨v,a,b⟩:=r.is i _ e;let⟨p,xs,d,rfl,c,j,k,g⟩:=b.qa;show⟨p,xs,d,a,?_,j,k,g⟩;let f:=(r.own i h p (by rw[g];apply ar)).2;rcases c with c | ⟨o,c⟩
 ·apply c
 ·rw[c] at f;apply f.elim
def TU{l:List α}{i:Nat}{a:α}(h:l[i]?=aA a):i<la l:=(aQ.mp h).1
def Lo.tm(a:EN (H p)):s8 H (_l.upd H p o):=⟨λb xs h=>by
 rw[a_ (λz=>by rw[z] at h;rw[h] at a;apply a)];apply h,λb o xs h=>by
 rw[a_ (λz=>by rw[z] at h;rw[h] at a;apply a)];apply h,λb o x h=>by
 rw[a_ (λz=>by rw[z] at h;rw[h] at a;apply a)];apply h⟩
def E2.a_(ne:q≠p):E2 H (_l.upd H p o) q:=E2.of λu a=>by rw[_l.a_ ne];apply a
def Rel.pF(r:Rel K O H0 bD s σ H)(c:i∈O){m n:List PV}(e:s[i]?=aA (aA (.lst m))){p:aP}{l b:Gs}{d:List V}(g:bD i=p::l)(w:σ[i]?=aA (aA (.ref p)))
  (h':JX K H n d b) (o:(p::b).Nodup) (k:∀q∈b,q∈l\/((H0 q=aB/\EN (H q))/\∀j,q∉bD j)):Rel K O H0 (Iq bD (la s) i (p::b)) (s.set i (aA (.lst n))) σ (_l.upd H p (.lst d)):=by
 let f:p∈bD i:=by rw[g];apply ar
 let v:=(r.own i c p f).2;let u:=(av.mp o).1;show r.pG c f w (TU e) (Is.lst bh (JX.Aw (Lo.tm v) _ _ _ (λq a=>E2.a_ λz=>u (z▸a)) h')) o (λq a=>?_) (λj t q a z=>?_) cK
 ·rcases aY.mp a with rfl | a
  ·apply⟨(r.own i c q f).1,by rw[bh];apply cK⟩
  ·let ne:q≠p:=λz=>u (z▸a);rw[_l.a_ ne];rcases k q a with h | h
   ·apply r.own i c q (by rw[g];apply aS _ h)
   ·apply h.1
 ·rcases aY.mp a with rfl | a
  ·apply r.p' i c j t q f z
  ·rcases k q a with h | h
   ·apply r.p' i c j t q (by rw[g];apply aS _ h) z
   ·apply h.2 j z
end
def JS(s:ZK)(i:Nat):Option (List PV):=match s[i]? with | some (aA (.lst m))=>aA m | _=>aB
def C5:PV->Option Int
 | .int k=>aA k
 | _=>aB
def MG:PV->Option (List PV)
 | .lst k=>aA k
 | _=>aB
def U4(h:JS s i=aA m):s[i]?=aA (aA (.lst m)):=by
 delta JS at h;split at h
 ·cases h;assumption
 ·cases h
def U5(h:C5 a=aA k):a = .int k:=by
 delta C5 at h;split at h
 ·cases h;rfl
 ·cases h
def ZA(h:MG a=aA k):a = .lst k:=by
 delta MG at h;split at h
 ·cases h;rfl
 ·cases h
def Ic(c:Bool):Option Unit:=if c=aD then aA .unit else aB
def Um(h:Ic c=aA u):c=aD:=by
 delta Ic at h;split at h
 ·assumption
 ·cases h
def KR(i:Nat)(f:XE):XS:=λs=>(f s).bind λl=>(JS s i).bind λm=>(Ic (decide (m.length<=10000))).bind λ_=>aA (.L4 (s.set i (aA (.lst (m++[l])))))
def Bn(i:Nat)(f:XE):XS:=λs=>(f s).bind λl=>(MG l).bind λn=>(JS s i).bind λm=>(Ic (decide (m.length+n.length<=10000))).bind λ_=>aA (.L4 (s.set i (aA (.lst (m++n)))))
def Bw(i:Nat)(fk:XE)(f:XE):XS:=λs=>(fk s).bind λk=>(f s).bind λl=>(C5 k).bind λk=>(JS s i).bind λm=>(Ic (CF m&&MS l&&decide (0<=k/\k<=1000000/\m.length<=10000))).bind λ_=>aA (.L4 (s.set i (aA (.lst (m.take k.toNat++l::m.drop k.toNat)))))
def DJ(i:Nat)(fk:XE)(f:XE):XS:=λs=>(f s).bind λl=>(fk s).bind λk=>(C5 k).bind λk=>(JS s i).bind λm=>(Ic (CF m&&MS l)).bind λ_=>(Kn m.length k).map λj=>.L4 (s.set i (aA (.lst (m.set j l))))
section
variable {X:Cx} {O:N6} {i:Nat} {st:cD} {f fk:XE}
def yr(h:H p=aA (.lst xs)):F2 K "list" (.ref p) H:=.inl ⟨rfl,_,EJ.of h⟩
def O3{s:ZK}{a:Mz}{bD:aaq}{b:Gs}:∀j,j∉[i]->a[j]?=a[j]?/\Kq (Iq bD (la s) i b j) (bD j):=λj c=>⟨rfl,.inl (Z9 (~~~c))⟩
def Wb(h:AV X st (EG (BH X.K "list" ER (KO i) (Dz (Fq X.K f) CJ))))(g:i∈O|>Op):MX X O [i] st (KR i f):=AV.imp h<|by
 ext D L H ⟨P,bD,s,F,r,e,k⟩;let⟨l,I,e⟩:=Zc e;let⟨m,c,e⟩:=Zc e;let⟨_,E,e⟩:=Zc e;let c:=U4 c;let v:=of_decide_eq_true (Um E);cases e;let⟨p,xs,M,u,x,w,n⟩:=r.nt g c;show⟨.ref p,u,yr x,s,l,r.env,I,λy N Q s2 C A o=>?_⟩;show⟨p,xs,y,rfl,rfl,s2 _ _ x,by rw[w.len];apply lt_size (by omega),?_⟩;let J:=r.grow s2;let fr:=λq d j z=>r.oi j q z (o q d).1;show k _ _ _ (J.pF g c n u ((w.mono s2).append (JX.one C)) ?_ λq d=>?_) O3
 ·let t:=r.nd i g;rw[n] at t;apply dq.mpr ⟨t,A,λa G b B z=>fr b B i (by rw[n,<-z];apply G)⟩
 ·rcases aj.mp d with h | h
  ·apply .inl h
  ·apply .inr ⟨⟨AJ.off r.same (o q h).1,(o q h).2⟩,fr q h⟩
def lB(h:AV X st (EG (BH X.K "list" ES (KO i) (Dz (Fq X.K f) CJ))))(o:i∈O|>Op):MX X O [i] st (Bn i f):=AV.imp h<|by
 ext D R H ⟨U,bD,s,N,r,e,k⟩;let⟨l,E,e⟩:=Zc e;let⟨n,M,e⟩:=Zc e;let⟨m,c,e⟩:=Zc e;let⟨_,L,e⟩:=Zc e;rw[ZA M] at E;let c:=U4 c;let B:=of_decide_eq_true (Um L);cases e;let⟨p,xs,S,A,F,C,t⟩:=r.nt o c;show⟨.ref p,A,yr F,s,_,r.env,E,λy T W s2 J G v=>?_⟩;let⟨b,I,fb,rfl,d,x,rfl⟩:=J.lst_inv;let u:=d;show⟨p,b,xs,I,rfl,rfl,s2 _ _ F,u,by rw[C.len,x.len];apply dR (lt_size (by omega)),?_⟩;let Q:=r.grow s2;let fr:=λq g j z=>r.oi j q z (v q (aS _ g)).1;show k _ _ _ (Q.pF o c t A ((C.mono s2).append x) ?_ λq g=>?_) O3
 ·let w:=r.nd i o;rw[t] at w;apply dq.mpr ⟨w,(av.mp G).2,λa P b d z=>fr b d i (by rw[t,<-z];apply P)⟩
 ·rcases aj.mp g with h | h
  ·apply .inl h
  ·apply .inr ⟨⟨AJ.off r.same (v q (aS _ h)).1,(v q (aS _ h)).2⟩,fr q h⟩
def JX.gg(h:JX K H l xs Gh)(a:CF l=aD):JX K H l xs []:=by let:=JX.pure _ _ _ a h;subst this;apply h
def hu(n:Nat)(h:CF l=aD):CF (l.take n)=aD:=by rw[WK,bN] at *;apply λx a=>h x (dt a)
def hv(n:Nat)(h:CF l=aD):CF (l.drop n)=aD:=by rw[WK,bN] at *;apply λx a=>h x (gn a)
def j'(h:AV X st (EG (BH X.K "list" EZ (KO i) (Dz (GY X.K fk) (Dz (GY X.K f) CJ)))))(A:i∈O|>Op):MX X O [i] st (Bw i fk f):=AV.imp h<|by ext D N H ⟨S,bD,s,F,r,e,k⟩;let⟨Q,t,e⟩:=Zc e;let⟨l,L,e⟩:=Zc e;let⟨d,ek,e⟩:=Zc e;let⟨m,c,e⟩:=Zc e;let⟨_,C,e⟩:=Zc e;rw[U5 ek] at t;let c:=U4 c;let u:=Um C;dsimp[af,decide_eq_true_eq] at u;let⟨⟨n,G⟩,k0,k1,w⟩:=u;cases e;let⟨p,xs,P,v,B,x,J⟩:=r.nt A c;show⟨.ref p,v,yr B,λ_=>False,s,_,λ_ z=>z.elim,r.env,t,λz W M s1 E _=>⟨λ_=>False,s,l,λ_ z=>z.elim,r.env.mono s1,L,λy R U s2 o _=>?_⟩⟩;let a:=s1.trans s2;let⟨rfl,_⟩:=E.int_inv;let:=Is.pure _ _ _ G o;subst this;show⟨p,xs,d,y,rfl,rfl,a _ _ B,k0,by omega,by rw[x.len];apply lt_size (by omega),?_⟩;let b:=(x.mono a).gg n;let⟨f1,j,_⟩:=b.take d.toNat;let⟨T,g,_⟩:=b.drop d.toNat;let j:=j.gg (hu _ n);let g:=g.gg (hv _ n);apply k _ _ _ ((r.grow a).pF A c J v (j.append (JX.cons o g)) ⋯ λq I=>by simp at I) O3
def Zam(h:AV X st (J0 (GY X.K f) (BW (KO i) (GY X.K fk) A0)))(u:i∈O|>Op):MX X O [i] st (DJ i fk f):=AV.imp h<|by ext D L H ⟨Q,bD,s,C,r,e,k⟩;let⟨l,A,e⟩:=Zc e;let⟨N,v,e⟩:=Zc e;let⟨B,ek,e⟩:=Zc e;let⟨m,b,e⟩:=Zc e;let⟨_,x,e⟩:=Zc e;rw[U5 ek] at v;let b:=U4 b;let d:=Um x;dsimp[af] at d;let⟨n,o⟩:=d;let⟨j,E,rfl⟩:=map_some e;let⟨p,xs,M,g,I,t,G⟩:=r.nt u b;show⟨λ_=>False,s,l,λ_ z=>z.elim,r.env,A,λy S R s1 c _=>?_⟩;show⟨.ref p,g,λ_=>False,s,_,λ_ z=>z.elim,r.env.mono s1,v,λz P J s2 w _=>?_⟩;let a:=s1.trans s2;let⟨rfl,_⟩:=w.int_inv;let:=Is.pure _ _ _ o c;subst this;show⟨p,xs,B,j,rfl,rfl,a _ _ I,by rw[t.len];apply E,?_⟩;apply k _ _ _ ((r.grow a).pF u b G g (JX.u6 j n o ((t.mono a).gg n) (c.mono s2)) ⋯ λq F=>by simp at F) O3
end
def JX.t_:∀{m:List PV}{xs:List V}{fq:Gs}{j:Nat}{n n':List PV}{q:aP},JX K H m xs fq->m[j]?=aA (.lst n)->xs[j]?=aA (.ref q)->fq.Nodup->EN (H q)->CF n=aD->JX K (_l.upd H q (.lst o)) n' o []->
  JX K (_l.upd H q (.lst o)) (m.set j (.lst n')) xs fq
 | [],_,_,_,_,_,_,_,e,_,_,_,_,_=>by simp at e
 | a::m,xs,fq,0,n,n',q,h,e,ex,nd,mu,GG,h'=>by let⟨x,r,f1,p,rfl,f,d,rfl⟩:=h.inv;simp at e ex;subst e ex;let⟨A,t,s,e,C,b,rfl⟩:=f.lst_inv;cases e;let:=JX.pure _ _ _ GG b;subst this;let i:q∉p:=(av.mp nd).1;apply JX.cons (Is.lst bh h') (JX.Aw (Lo.tm mu) _ _ _ (λz b=>E2.a_ λe=>i (e▸b)) d)
 | a::m,xs,fq,j+1,n,n',q,h,e,ex,nd,mu,GG,h'=>by let⟨x,r,f1,p,rfl,f,d,rfl⟩:=h.inv;simp at e ex;let⟨w,g,k⟩:=dq.mp nd;let⟨y,B,l,v,c⟩:=d.get e;rw[ex] at l;cases l;let⟨A,t,s,u,_,_,rfl⟩:=v.lst_inv;cases u;let i:q∉f1:=λz=>k q z q (c q ar) rfl;apply JX.cons (Is.Aw (Lo.tm mu) _ _ _ (λz b=>E2.a_ λe=>i (e▸b)) f) (JX.t_ d e ex g mu GG h')
def Hg(i:Nat)(fa fb:XE)(f:XE):XS:=λs=>(f s).bind λl=>(fa s).bind λa=>(fb s).bind λb=>(C5 a).bind λa=>(C5 b).bind λb=>(JS s i).bind λm=>(Kn m.length a).bind λj=>(m[j]?).bind λr=>(MG r).bind λn=>
 (Ic (CF n&&MS l)).bind λ_=>(Kn n.length b).map λc=>.L4 (s.set i (aA (.lst (m.set j (.lst (n.set c l))))))
def Rr{O:N6}{i:Nat}{st:cD}{f U fb:XE}(h:AV X st (J0 (GY X.K f) (BW (IW (NA X.K) (KO i) (GY X.K U)) (GY X.K fb) A0)))(x:i∈O|>Op):MX X O [i] st (Hg i U fb f):=AV.imp h<|by
 ext D σ H ⟨H0,bD,s,out,r,e,k⟩;let⟨l,e0,e⟩:=Zc e;let⟨a,Y,e⟩:=Zc e;let⟨b,W,e⟩:=Zc e;let⟨ai,ea,e⟩:=Zc e;let⟨bi,eb,e⟩:=Zc e;let⟨m,F,e⟩:=Zc e;let⟨j,ej,e⟩:=Zc e;let⟨CC,Q,e⟩:=Zc e;let⟨n,er,e⟩:=Zc e;let⟨_,eg,e⟩:=Zc e;rw[U5 ea] at Y;rw[U5 eb] at W;rw[ZA er] at Q;let F:=U4 F;let Ex:=Um eg;dsimp[af] at Ex;let⟨P,pl⟩:=Ex;let⟨c,ec,rfl⟩:=map_some e;let⟨p,xs,fq,Ey,Gn,R,B⟩:=r.nt x F;show⟨λ_=>False,s,l,λ_ z=>z.elim,r.env,e0,λy H1 fy s1 Z _=>?_⟩;show⟨.ref p,Ey,λ_=>False,s,_,λ_ z=>z.elim,r.env.mono s1,Y,λz H2 fz s2 i2 _=>?_⟩;let⟨rfl,_⟩:=i2.int_inv;let g:=s1.trans s2;let⟨q,f1,o,iq,v⟩:=(R.mono g).get Q;let⟨u,J,fz',rfl,L,T,rfl⟩:=id iq.lst_inv;show⟨p,xs,ai,.ref u,rfl,rfl,EJ.of (g _ _ Gn),?_,λ_=>False,s,_,λ_ z=>z.elim,r.env.mono g,W,λw H3 fw I i3 _=>?_⟩
 ·delta AZ;rw[R.len,ej];apply o
 let⟨rfl,_⟩:=i3.int_inv;let d:=g.trans I;let M:=r.grow d;let C:u∈bD i:=by rw[B];apply aS _ (v u ar)
 let S:=(M.own i x u C).2;let E:=I _ _ L;let:=Is.pure _ _ _ pl Z;subst this;show⟨u,J,bi,c,rfl,rfl,E,by rw[T.len];apply ec,?_⟩;let G:=r.nd i x;rw[B] at G;let N:u≠p:=λz=>(av.mp G).1 (z▸v u ar);let t:JX X.K (_l.upd H3 u (.lst (J.set c y))) (n.set c l) (J.set c y) []:=JX.Aw (Lo.tm S) _ _ _ (λq o=>by simp at o) (JX.u6 c P pl ((T.mono I).gg P) (Z.mono (s2.trans I)));let A:=JX.t_ (R.mono d) Q o (av.mp G).2 S P t;show k _ _ _ (M.pG x C Ey (TU F) (Is.lst (by rw[_l.a_ (bU N)];apply d _ _ Gn) A) G (λq o=>?_) (λj hj q o z=>r.p' i x j hj q (by rw[B];apply o) z) cK) O3;show⟨(r.own i x q (by rw[B];apply o)).1,?_⟩;by_cases e:q=u
 ·subst e;rw[bh];apply cK
 ·rw[_l.a_ e];apply(M.own i x q (by rw[B];apply o)).2
def Lh(T:lZ)(f:XE):XS:=λs=>(f s).bind λl=>if MS l=aD then(CS T l s).map .L4 else aB
def Zfw{O:N6}{st:cD}{f:XE}{T:lZ}(h:AV X st (J0 (GY X.K f) (Lj X.K T)))(g:(∀i∈T.slots,i∉O)|>Op):MX X O T.slots st (Lh T f):=AV.imp h<|by
 ext D c H ⟨A,bD,s,m,r,e,k⟩;let⟨l,u,e⟩:=Zc e;split at e
 case isFalse=>cases e
 rename_i o;let⟨C,n,rfl⟩:=map_some e;show⟨λ_=>False,s,l,λ_ z=>z.elim,r.env,u,λv y B s1 b _=>?_⟩;let:=Is.pure _ _ _ o b;subst this;let⟨ls,vs,fs,rfl,q,d,sub,a⟩:=zY b n;let⟨t,x,w⟩:=Rel.Kz (r.grow s1) q d g λj E p F z=>by let:=sub p z;simp at this
 apply a c D.L4 (k t _ y x w)
end _v
namespace _v
open PySem PySem.Spec PyProof.Rows _l
variable {K:aG}
def Im:PV->Option JL
 | .int i=>aA (.inl i)
 | .str x=>aA (.inr x)
 | _=>aB
def De:List PV->Option (List JL)
 | []=>aA []
 | a::r=>(Im a).bind λk=>(De r).map (k::·)
def Io:PV->Option (List JL)
 | .tup l=>De l
 | _=>aB
def F3:JL->PV
 | .inl i=>.int i
 | .inr x=>.str x
def UH(e:Im a=aA k)(h:Is K H a v Gh):v=GS k/\Gh=[]:=by
 cases a with
 | int i=>cases e;apply h.int_inv
 | str x=>cases e;apply h.str_inv
 | _=>cases e
def O7:∀{l:List PV}{ks:List JL}{xs:List V}{Gh:Gs},De l=aA ks->JX K H l xs Gh->xs=ks.map GS/\Gh=[]
 | [],ks,xs,Gh,e,h=>by cases e;simpa only[kK,JX] using h
 | a::r,ks,xs,Gh,e,h=>by let⟨k,b,e⟩:=Zc (show(Im a).bind (λk=>(De r).map (k::·))=aA ks from e);let⟨g,f,rfl⟩:=map_some e;let⟨x,j,f1,i,rfl,d,c,rfl⟩:=h.inv;let⟨rfl,rfl⟩:=UH b d;let⟨rfl,rfl⟩:=O7 f c;apply⟨rfl,rfl⟩
def zH(e:Io a=aA k)(h:Is K H a v Gh):∃b,v = .ref b/\H b=aA (.tup (k.map GS)):=by
 cases a with
 | tup l=>
  let⟨p,xs,rfl,d,c⟩:=h.b_;let⟨rfl,_⟩:=O7 (e) c;apply⟨p,rfl,d⟩
 | _=>cases e
def Zn0(k:JL):Is K H (F3 k) (GS k) []:=by
 cases k with
 | inl i=>apply Is.int i
 | inr x=>apply Is.str x
def Zan:∀(ks:List JL),JX K H (ks.map F3) (ks.map GS) []
 | []=>JX.nil
 | k::r=>JX.cons (f1:=[]) (Zn0 k) (Zan r)
section
variable {κ:Type} [DecidableEq κ]
def C0(ks:List κ)(vs:List PV)(k:κ):Option PV:=((ks.zip vs).find? λz=>decide (z.1=k)).map (·.2)
def Bp(ks:List κ)(k:κ):List κ:=if k∈ks then ks else ks++[k]
def Bo(ks:List κ)(vs:List PV)(k:κ)(v:PV):List PV:=if k∈ks then(ks.zip vs).map λz=>if z.1=k then v else z.2 else vs++[v]
def O6:∀{JJ:List (κ×V)}{l:List PV}{fq:Gs}(k:κ),JX K H l (JJ.map (·.2)) fq->
  (C0 (JJ.map (·.1)) l k=aB/\C6 JJ k=aB)\/∃a x f,C0 (JJ.map (·.1)) l k=aA a/\C6 JJ k=aA x/\Is K H a x f/\∀p∈f,p∈fq
 | [],l,fq,k,h=>.inl ⟨by delta C0;simp,rfl⟩
 | kv::r,[],fq,k,h=>by let:=h.len;simp at this
 | kv::r,a::l,fq,k,h=>by
  let⟨x,m,f1,n,e,g,j,rfl⟩:=h.inv;cases e;by_cases c:kv.1=k
  ·show .inr ⟨a,kv.2,f1,?_,Ra c,g,λp d=>au _ d⟩;delta C0;rw[ak,fU,i9];simp[c]
  ·let i:C0 ((kv::r).map (·.1)) (a::l) k=C0 (r.map (·.1)) l k:=by delta C0;rw[ak,fU,i9];simp[c]
   rw[i,Rc c];rcases O6 (l:=l) k j with z | ⟨b,y,f,z1,z2,z3,z4⟩
   ·apply .inl z
   ·apply .inr ⟨b,y,f,z1,z2,z3,λp d=>bA _ (z4 p d)⟩
def mn{a:List (κ×V)}{k:κ}:(a.any λb=>decide (b.1=k))=aD↔k∈a.map (·.1):=⋯
def RI{a:List (κ×V)}{k:κ}{x:V}:(Fg a k x).map (·.1)=Bp (a.map (·.1)) k:=by
 delta Fg Bp;by_cases h:k∈a.map (·.1)
 ·rw[An (mn.mpr h),An h,bS];apply((aq));ext z _;change(if z.1=k then(z.1,x) else z).1=z.1;split<;>rfl
 ·rw[N4 (λz=>h (mn.mp z)),N4 h,bR];rfl
def wZ{H:Hp}{c:List (κ×V)}{l:List PV}{k:κ}{a:PV}{x:V}(h:JX K H l (c.map (·.2)) [])(g:CF l=aD)(j:Is K H a x [])(q:MS a=aD):JX K H (Bo (c.map (·.1)) l k a) ((Fg c k x).map (·.2)) []:=by
 delta Fg Bo;by_cases d:k∈c.map (·.1)
 ·rw[An (mn.mpr d),An d];clear d
  induction c generalizing l with
  | nil=>
   let:=h.len
   cases l with
   | nil=>apply JX.nil
   | cons _ _=>simp at this
  | cons kv r f=>
   cases l with
   | nil=>have:=h.len;simp at this
   | cons b l=>
    let⟨y,n,f1,o,e,i,m,p⟩:=h.inv;cases e;dsimp[CF,af] at g;let z1:=Is.pure _ _ _ g.1 i;let z2:=JX.pure _ _ _ g.2 m;subst z1 z2;let f:=f m g.2;rw[ak,fU,ak,ak];by_cases e:kv.1=k
    ·rw[An e,An e];apply JX.cons j f
    ·rw[N4 e,N4 e];apply JX.cons i f
 ·rw[N4 (λz=>d (mn.mp z)),N4 d,bR];apply h.append (JX.one j)
end
def C8:PV->PV->Option PV
 | .Mf ks vs,k=>(Im k).bind λk=>C0 ks vs k
 | .L8 ks vs,k=>(Io k).bind λk=>C0 ks vs k
 | _,_=>aB
def BK:PV->PV->Option Bool
 | .Mf ks vs,k=>(Im k).map λk=>(C0 ks vs k).isSome
 | .L8 ks vs,k=>(Io k).map λk=>(C0 ks vs k).isSome
 | _,_=>aB
def zI(r:Is K H d x fd)(s:Is K H k y fk)(e:BK d k=aA b):∃a o,x = .ref a/\CK H a y o/\o.isSome=b/\((C8 d k=aB/\o=aB)\/∃c v f,C8 d k=aA c/\o=aA v/\Is K H c v f/\∀p∈f,p∈fd):=by
 cases d with
 | Mf ks vs=>
  let⟨g,j,rfl⟩:=map_some (e);let⟨p,h,u,rfl,n,rfl,i,rfl⟩:=r.qa;let⟨rfl,_⟩:=UH j s;show⟨p,C6 h g,rfl,.inl ⟨h,g,n,rfl,rfl⟩,?_,?_⟩
  ·rcases O6 g i with⟨z1,z2⟩ | ⟨a,v,f,z1,z2,_⟩<;>rw[z1,z2]<;>rfl
  ·change(C8 (.Mf _ vs) k=aB/\_)\/_;let l:C8 (.Mf (h.map (·.1)) vs) k=C0 (h.map (·.1)) vs g:=by change(Im k).bind _=_;rw[j];rfl
   rw[l];rcases O6 g i with z | ⟨a,v,f,z1,z2,z3,z4⟩
   ·apply .inl z
   ·apply .inr ⟨a,v,f,z1,z2,z3,λq m=>aS _ (z4 q m)⟩
 | L8 ks vs=>
  let⟨g,j,rfl⟩:=map_some (e);let⟨p,h,u,rfl,n,rfl,i,rfl⟩:=r.nS;let⟨b,rfl,t⟩:=zH j s;show⟨p,C6 h g,rfl,.inr ⟨h,g,b,n,rfl,t,rfl⟩,?_,?_⟩
  ·rcases O6 g i with⟨z1,z2⟩ | ⟨a,v,f,z1,z2,_⟩<;>rw[z1,z2]<;>rfl
  ·let l:C8 (.L8 (h.map (·.1)) vs) k=C0 (h.map (·.1)) vs g:=by change(Io k).bind _=_;rw[j];rfl
   rw[l];rcases O6 g i with z | ⟨a,v,f,z1,z2,z3,z4⟩
   ·apply .inl z
   ·apply .inr ⟨a,v,f,z1,z2,z3,λq m=>aS _ (z4 q m)⟩
 | _=>cases e
def Zfx(h:C8 d k=aA c):BK d k=aA aD:=by
 cases d with
 | Mf ks vs=>
  let⟨e,b,a⟩:=Zc (h);change(Im k).map _=_;rw[b];change aA ((C0 ks vs e).isSome)=_;rw[a];rfl
 | L8 ks vs=>
  let⟨e,b,a⟩:=Zc (h);change(Io k).map _=_;rw[b];change aA ((C0 ks vs e).isSome)=_;rw[a];rfl
 | _=>cases h
section
variable {X:Cx} {o i e f:bT} {fd fk fx:XE} {pos apos t8:g6}
def Zao:∀f H Q,GY K (Cy C8 fd fk) f H Q->JD (GY K fd) (GY K fk) f H Q:=by
 ext f H Q ⟨j,s,l,i,env,e,k⟩;let⟨d,q,w,r,b⟩:=VG e;show⟨j,s,d,i,env,w,λx D f1 s1 n t=>⟨j,s,q,λp h=>AJ.mut s1 (i p h),env.mono s1,r,λy o B s2 m C=>?_⟩⟩;let⟨a,A,rfl,u,_,g⟩:=zI (n.mono s2) m (Zfx b);rcases g with⟨z,_⟩ | ⟨c,v,fv,z1,rfl,z3,z4⟩
 ·rw[z] at b;cases b
 ·rw[z1] at b;cases b;apply⟨a,v,rfl,u,k v o fv (s1.trans s2) z3 λp h=>t p (z4 p h)⟩
def d_(b:X.A.units+1<gE)(c:JW X o fd)(a:JW X i fk)(hs:BY i:=by apply λ_ _=>rfl):JW X (.Subscript o i pos) (Cy C8 fd fk):=JY.imp (Ze9 b c a hs) Zao
def FL(neg:Bool)(fk fd:XE):XE:=λs=>(fk s).bind λk=>(fd s).bind λd=>(BK d k).map λb=>.Ap (if neg then !b else b)
def e1:∀c H Q,GY K (FL aD fk fd) c H Q->EX (GY K fk) (GY K fd) c H Q:=by ext c H Q ⟨h,s,l,g,env,e,k⟩;let⟨o,u,e⟩:=Zc e;let⟨d,r,e⟩:=Zc e;let⟨b,q,rfl⟩:=map_some e;show⟨h,s,o,g,env,u,λy A f1 s1 m w=>⟨h,s,d,λp f=>AJ.mut s1 (g p f),env.mono s1,r,λx n v s2 i z=>?_⟩⟩;let⟨a,j,rfl,t,rfl,_⟩:=zI i (m.mono s2) q;apply⟨a,j,rfl,t,k _ n [] (s1.trans s2) (Is.Ap _) λp f=>by simp at f⟩
def bk(c:X.A.units+1<gE)(b:JW X i fk)(e:JW X o fd)(d:dX .NotIn o=aC|>Os):A5 X (.Compare i [.NotIn] [o] pos) (AO (FL aD fk fd)):=CQ.imp (nL (xe c b e) d) λa H Q h=>Q8 e1 a H Q (Zil a H Q h)
end
def BG(d k v:PV):Option PV:=match d with
 | .L8 ks vs=>(Ic (CF vs&&MS v&&decide (ks.length<=10000))).bind λ_=>(Io k).map λk=>.L8 (Bp ks k) (Bo ks vs k v)
 | .Mf ks vs=>(Ic (CF vs&&MS v&&decide (ks.length<=10000))).bind λ_=>(Im k).map λk=>.Mf (Bp ks k) (Bo ks vs k v)
 | _=>aB
def Nh(i:Nat)(fk fv:XE):XS:=λs=>(fv s).bind λv=>(fk s).bind λk=>((s[i]?).join).bind λd=>(BG d k v).map λd=>.L4 (s.set i (aA d))
def Oe{O:N6}{i:Nat}{st:cD}{S fv:XE}(h:AV X st (_l.Nh (KO i) (GY X.K S) (GY X.K fv)))(l:i∈O|>Op):MX X O [i] st (Nh i S fv):=AV.imp h<|by
 ext D σ H ⟨H0,bD,s,out,r,e,k⟩;let⟨v,T,e⟩:=Zc e;let⟨Q,R,e⟩:=Zc e;let⟨d,t,e⟩:=Zc e;let⟨abu,o,rfl⟩:=map_some e;let t:=TR t
 cases d with
 | L8 ks vs=>
  let⟨_,I,o⟩:=Zc (o);let w:=Um I;dsimp[af,decide_eq_true_eq] at w;let⟨⟨m,A⟩,f⟩:=w;let⟨J,M,rfl⟩:=map_some o;let⟨p,L,Y,x,P,rfl,B,C⟩:=r.wO l t;show⟨λ_=>False,s,v,λ_ z=>z.elim,r.env,T,λy H1 fy s1 u _=>⟨.ref p,x,λ_=>False,s,Q,λ_ z=>z.elim,r.env.mono s1,R,λz Z U s2 G _=>?_⟩⟩;let a:=s1.trans s2;let⟨b,rfl,W⟩:=zH M G;let z1:=Is.pure _ _ _ A u;subst z1;let n:=(B.mono a).gg m;let z2:=JX.pure _ _ _ m B;subst z2;let E:=r.grow a;let c:p∈bD i:=by rw[C];apply ar
  let F:=(E.own i l p c).2;show⟨p,_,rfl,.inr ⟨L,J,b,a _ _ P,rfl,W,by rw[<-aJ (·.1)];apply lt_size f,rfl⟩,?_⟩;show k _ _ _ (E.pG l c x (TU t) (Is.L8 bh RI (JX.Aw (Lo.tm F) _ _ _ (λq g=>by simp at g) (wZ n m (u.mono s2) A))) ⋯ (λq g=>?_) (λj N q g z=>r.p' i l j N q (by rw[C];apply g) z) cK) O3;rw[aO.mp g];apply⟨(r.own i l p c).1,by rw[bh];apply cK⟩
 | Mf ks vs=>
  let⟨_,I,o⟩:=Zc (o);let w:=Um I;dsimp[af,decide_eq_true_eq] at w;let⟨⟨m,A⟩,f⟩:=w;let⟨J,M,rfl⟩:=map_some o;let⟨p,L,Y,x,P,rfl,B,C⟩:=r.wQ l t;show⟨λ_=>False,s,v,λ_ z=>z.elim,r.env,T,λy H1 fy s1 u _=>⟨.ref p,x,λ_=>False,s,Q,λ_ z=>z.elim,r.env.mono s1,R,λz Z U s2 G _=>?_⟩⟩;let a:=s1.trans s2;let⟨rfl,_⟩:=UH M G;let z1:=Is.pure _ _ _ A u;subst z1;let n:=(B.mono a).gg m;let z2:=JX.pure _ _ _ m B;subst z2;let E:=r.grow a;let c:p∈bD i:=by rw[C];apply ar
  let F:=(E.own i l p c).2;show⟨p,_,rfl,.inl ⟨L,J,a _ _ P,rfl,by rw[<-aJ (·.1)];apply lt_size f,rfl⟩,?_⟩;show k _ _ _ (E.pG l c x (TU t) (Is.Mf bh RI (JX.Aw (Lo.tm F) _ _ _ (λq g=>by simp at g) (wZ n m (u.mono s2) A))) ⋯ (λq g=>?_) (λj N q g z=>r.p' i l j N q (by rw[C];apply g) z) cK) O3;rw[aO.mp g];apply⟨(r.own i l p c).1,by rw[bh];apply cK⟩
 | _=>cases o
end _v
namespace _v
open PySem PySem.Spec PyProof.Rows _l
variable {K:aG}
section
variable {X:Cx} {a b c d:bT} {fa fb fc fd:XE} {pos:g6}
def VJ(e:X.A.units+64<gE)(d:JW X a fa)(c:JW X b fb):JW X (.Compare a [.Eq] [b] pos) (Cy (J1 aC) fa fb):=yk (Zah e) (yh aC) d c (UY _)
def Zn1(e:X.A.units+64<gE)(d:JW X a fa)(c:JW X b fb):JW X (.Compare a [.NotEq] [b] pos) (Cy (J1 aD) fa fb):=yk (Zai e) (yh aD) d c (UY _)
def UJ(e:X.A.units+64<gE)(d:JW X a fa)(c:JW X b fb):A5 X (.Compare a [.Eq] [b] pos) (AO (Cy (J1 aC) fa fb)):=SE (Zah e) (yh aC) d c (UY _)
def Q4(e:X.A.units+64<gE)(d:JW X a fa)(c:JW X b fb):A5 X (.Compare a [.NotEq] [b] pos) (AO (Cy (J1 aD) fa fb)):=SE (Zai e) (yh aD) d c (UY _)
def zR(f:X.A.units+64<gE)(e:JW X a fa)(c:JW X b fb)(d:dX .In b=aC|>Os):JW X (.Compare a [.In] [b] pos) (Cy (J7 aC) fa fb):=yk (Zaj f) (xV aC) e c d
def mv(f:X.A.units+64<gE)(e:JW X a fa)(c:JW X b fb)(d:dX .In b=aC|>Os):A5 X (.Compare a [.In] [b] pos) (AO (Cy (J7 aC) fa fb)):=SE (Zaj f) (xV aC) e c d
def U6(f:X.A.units+64<gE)(e:JW X a fa)(c:JW X b fb)(d:dX .NotIn b=aC|>Os):A5 X (.Compare a [.NotIn] [b] pos) (AO (Cy (J7 aD) fa fb)):=SE (ij f) (xV aD) e c d
def Jf:PV->Option Bool
 | .Ap c=>aA c
 | _=>aB
def Zaq{a:PV}{k:Bool}(h:Jf a=aA k):a = .Ap k:=by
 delta Jf at h;split at h
 ·cases h;rfl
 ·cases h
def IV(g h:PV->PV->Option PV)(a b c:XE):XE:=λs=>(a s).bind λx=>(b s).bind λy=>((g x y).bind Jf).bind λk=>if k=aD then(c s).bind λz=>h y z else aA (.Ap aC)
def vv{r D:JO}{g h:PV->PV->Option PV}(X:KD K r g)(n:KD K D h):∀i H Q,GY K (IV g h fa fb fc) i H Q->GU r D (GY K fa) (GY K fb) (GY K fc) i H Q:=by
 ext i H Q ⟨o,s,l,d,env,e,k⟩;let⟨u,Y,e⟩:=Zc e;let⟨j,O,e⟩:=Zc e;let⟨b,f,e⟩:=Zc e;let⟨abg,f,P⟩:=Zc f;rw[Zaq P] at f;show⟨o,s,u,d,env,Y,λx H1 f1 s1 G n1=>⟨o,s,j,λp c=>AJ.mut s1 (d p c),env.mono s1,O,λy I E s2 C Z=>?_⟩⟩;show X I x y u j _ f1 E (G.mono s2) C f _ λv J Gh A M n3=>⟨b,M.dV.1,?_⟩;let a:=s1.trans (s2.trans A)
 cases b with
 | false=>
  cases e;apply k _ J [] a (Is.Ap _) λp c=>by simp at c
 | true=>
  let⟨B,N,e⟩:=Zc e;show⟨o,s,B,λp c=>AJ.mut a (d p c),env.mono a,N,λw F R m U T=>?_⟩;show n F y w j B l E R (C.mono (A.trans m)) U e Q λv H5 t W S L=>k v H5 t (a.trans (m.trans W)) S λp c z=>?_;rcases L p c with q | q | q
  ·apply Z p q z
  ·apply T p q z
  ·apply Xt (AJ.mut (a.trans m) (d p z)) q
def Zar(m:MU X (dW op) r)(d:MU X (dW wm) Kd)(k:KD X.K r g)(e:KD X.K Kd h)(i:JW X a fa)(f:JW X b fb)(j:JW X c fc)
  (l:rA [op,wm] [b,c]=aC|>Os):JW X (.Compare a [op,wm] [b,c] pos) (IV g h fa fb fc):=JY.imp (r3 m d i f j l) (vv k e)
def Zas(n:MU X (dW op) r)(d:MU X (dW wm) Kd)(l:KD X.K r g)(e:KD X.K Kd h)(j:JW X a fa)(i:JW X b fb)(k:JW X c fc)
  (m:rA [op,wm] [b,c]=aC|>Os):A5 X (.Compare a [op,wm] [b,c] pos) (AO (IV g h fa fb fc)):=CQ.imp (q2 n d j i k m) λf H Q q=>OL (vv l e) f H Q (YY f H Q q)
end
section
variable {X:Cx} {a b:bT} {fa fb:XE} {pos:g6}
def Am:PV->PV->Option PV
 | .lst m,.lst n=>if m.length+n.length<=10000 then aA (.lst (m++n)) else aB
 | _,_=>aB
def Hd:PV->PV->Option PV
 | .lst m,.lst n=>if m.length+n.length<=10000/\CF m=aD/\CF n=aD then aA (.lst (m++n)) else aB
 | _,_=>aB
def Of(B:JW X a fa)(o:JW X b fb):AU X (.BinOp a .Add b pos) (Cy Hd fa fb):=JY.imp (vA Zkb B o)<|by
 ext G H Q ⟨s,l,env,e,k⟩;let⟨h,i,D,v,e⟩:=VG e;show⟨λ_=>False,s,h,λ_ z=>z.elim,env,D,λx M f1 s1 u _=>⟨λ_=>False,s,i,λ_ z=>z.elim,env.mono s1,v,λy J L s2 t _=>?_⟩⟩
 cases h with
 | lst m=>cases i with
  | lst n=>
   let e:(if m.length+n.length<=10000/\CF m=aD/\CF n=aD then aA (PV.lst (m++n)) else aB)=aA l:=e;split at e
   case isFalse=>cases e
   rename_i f;cases e;let⟨p,xs,I,rfl,F,j,rfl⟩:=u.lst_inv;let⟨E,w,A,rfl,d,c,rfl⟩:=t.lst_inv;show⟨p,E,xs,w,rfl,rfl,s2 _ _ F,d,by rw[j.len,c.len];apply dR (lt_size f.1),λq g=>?_⟩;show k _ _ [q] (s1.trans (s2.trans (AJ.new g _))) (Is.lst bh ((((j.mono s2).gg f.2.1).append (c.gg f.2.2)).mono (AJ.new g _))) ⋯ λr C=>?_;rw[aO.mp C];apply⟨AJ.off (s1.trans s2) g,by rw[bh];apply cK⟩
  | _=>cases e
 | _=>cases e
def Fh:PV->PV->Option PV
 | .lst m,.int k=>if CF m=aD/\-1000000<=k/\k<=1000000/\m.length*k.toNat<=10000 then aA (.lst (aW k.toNat m).flatten) else aB
 | _,_=>aB
def JX.rep(h:JX K H m xs []):∀k:Nat,JX K H (aW k m).flatten (aW k xs).flatten []
 | 0=>JX.nil
 | k+1=>by rw[eM,eM,gk,gk];apply h.append (JX.rep h k)
def xB(u:JW X a fa)(i:JW X b fb):AU X (.BinOp a .Mult b pos) (Cy Fh fa fb):=JY.imp (vA Zkc u i)<|by
 ext B H Q ⟨s,l,env,e,k⟩;let⟨d,g,w,t,e⟩:=VG e;show⟨λ_=>False,s,d,λ_ z=>z.elim,env,w,λx F f1 s1 o _=>⟨λ_=>False,s,g,λ_ z=>z.elim,env.mono s1,t,λy D E s2 j _=>?_⟩⟩
 cases d with
 | lst m=>cases g with
  | int n=>
   let e:(if CF m=aD/\-1000000<=n/\n<=1000000/\m.length*n.toNat<=10000 then aA (PV.lst (aW n.toNat m).flatten) else aB)=aA l:=e;split at e
   case isFalse=>cases e
   rename_i f;cases e;let⟨p,xs,C,rfl,A,h,rfl⟩:=o.lst_inv;show⟨p,n,xs,rfl,j.int_inv.1,s2 _ _ A,(),(),by rw[h.len];apply dR (lt_size f.2.2.2),λq c=>?_⟩;show k _ _ [q] (s1.trans (s2.trans (AJ.new c _))) (Is.lst bh ((JX.rep ((h.mono s2).gg f.1) n.toNat).mono (AJ.new c _))) ⋯ λr v=>?_;rw[aO.mp v];apply⟨AJ.off (s1.trans s2) c,by rw[bh];apply cK⟩
  | _=>cases e
 | _=>cases e
end
def JX.bD:∀{ls:List PV}{vs:List V}{Gh:Gs},JX K H ls vs Gh->∃bD:Nat->List aP,(∀(i:Nat) l,ls[i]?=aA l->∃v,vs[i]?=aA v/\Is K H l v (bD i))/\∀i,ls.length<=i->bD i=[]
 | [],vs,Gh,h=>⟨λ_=>[],λi l e=>by simp at e,λ_ _=>rfl⟩
 | a::ls,vs,Gh,h=>by
  let⟨x,r,f1,j,rfl,f,d,rfl⟩:=h.inv;let⟨bD,g,p2⟩:=d.bD;show⟨λi=>match i with | 0=>f1 | k+1=>bD k,λi l e=>?_,λi c=>?_⟩
  ·cases i with
   | zero=>simp at e;subst e;apply⟨x,rfl,f⟩
   | succ k=>
    let⟨v,a,b⟩:=g k l (~~~e);apply⟨v,by simpa using a,b⟩
  ·cases i with
   | zero=>simp at c
   | succ k=>apply p2 k (~~~c)
def MQ(m:Nat)(ls:List PV):ZK:=ls.map aA++aW (m-la ls) aB
def MB:Out->Option PV
 | .Cj v=>aA v
 | .L4 _=>aA .Ma
 | _=>aB
def CB(m:Nat)(f:XS):List PV->Option PV:=λls=>(f (MQ m ls)).bind MB
def TY(w:∀i∈O,n<=i)(h:EV K (CB N.length f) n vs H Q E):Dc K O W f { L4:=λ_ s=>Q .Ma s,Cj:=Q } (_l.start N vs) H:=by
 let⟨G,ls,x,l,g,e,q⟩:=h;let⟨r,D,t⟩:=Zc e;let⟨bD,F,p2⟩:=g.bD;let k:=g.len
 let o:∀i:Nat,ls.length<=i->∀l,(MQ N.length ls)[i]?≠aA (aA l):=λi g l z=>by
  delta MQ at z;rw[bQ (~~~g),cP] at z;split at z<;>cases z
 let rel:Rel K O H bD (MQ N.length ls) (_l.start N vs) H:=by
  show⟨AJ.refl H,?_,λi a z=>?_,λi u=>?_,λi g=>?_,λi g p m=>?_,λi g j J p m=>?_⟩
  ·delta MQ _l.start;simp[k]
  ·by_cases c:i<ls.length
   ·delta MQ at z;rw[bB (~~~c),ag] at z
    cases q:ls[i]? with
    | none=>rw[q] at z;cases z
    | some b=>
     rw[q] at z;cases z;let⟨v,A,b1⟩:=F i a q;show⟨v,?_,b1⟩;delta _l.start;rw[bB (by simpa [k] using c),ag,A];rfl
   ·apply absurd z (o i () a)
  ·by_cases c:i<ls.length
   ·apply absurd (by delta MQ;rw[bB (~~~c),ag,aF c];rfl) (u ls[i])
   ·apply p2 i ()
  ·rw[p2 i (by let:=w i g;lia)];apply cI
  ·rw[p2 i (by let:=w i g;lia)] at m;simp at m
  ·rw[p2 i (by let:=w i g;lia)] at m;simp at m
 show⟨H,bD,MQ N.length ls,r,rel,D,?_⟩
 cases r with
 | L4 Aq=>
  cases t;apply λI C s y _=>q .Ma s [] y.same Is.Ma cI λp m=>by simp at m
 | Cj v=>
  cases t;apply λv x s B i d n=>q v s x B i d n
 | Gw Aq=>cases t
 | Gq Aq=>cases t
section
variable {P:bO} {w:bX} {mg:JM} {base:bp}
def Zk5{st:cD}{N ps:Gm}{k n:Nat}{O W:N6}(m:Nat)(f:XS)(D:Def K mg x st)(S:Z2 N ps (GV st))
  (e:∀(GS doc pm:aI)(an:Co)(b Gq:aI)(us:Gr),us.length=la ps->jc (cf x x (M9 st) (Kv st) (GV st) .none GS doc pm an b Gq) ⟨us,[]⟩=pure (ps.zip us))
  (g:la ps=n) (j:la N=m) (o:∀i∈O,n<=i)
  (c:∀(d:aP)(b:aI)(A:bg)(a:GB)(s:aR)(H:Hp)(E:Ml),Cm k (A.deeper (j6 x (GV st) s.heap.objs.size d b))->Lb (Ip Mq P w K mg base N x (GV st) d b A a s H E).EA O W (Kv st) f) :
  AG P w K mg base x ps (EV K (CB m f) n) (k+1):=by
 subst j;show D.cal S e (λvs H Q E h=>by rw[g];apply h.1) λd b A a s H vs Q E l h=>⟨_,c d b A a s H E l,TY o h⟩
end
end _v
namespace _v
open PySem PySem.Spec PyProof.Rows _l
variable {K:aG}
theorem Inv.Fw(I:_l.Inv X N5 σ H s)(h:H d=aA (.Er o (.L8 JJ)))(r:∀o u,X.H₀ d≠aA (.Er o u)) :
  _l.Inv X N5 σ (upd H d (.L8 JJ)) s:=by
 let ne:∀b u,H b=aA u->(∀o v,u≠.Er o v)->b≠d:=λb u q n z=>by rw[z,h] at q;apply n _ _ (bM q).symm
 let k:∀b,H b=aB->b≠d:=λb q z=>by rw[z,h] at q;cases q
 let l:AX X.prog X.w (upd H d (.L8 JJ)) s.heap:=λb u q=>by
  let f:∀c y,H c=aA (.own y)->upd H d (.L8 JJ) c=aA (.own y):=λc y z=>by rw[a_ (ne c _ z λ_ _ z=>nomatch z)];apply z
  let g:∀c xs,H c=aA (.tup xs)->upd H d (.L8 JJ) c=aA (.tup xs):=λc y z=>by rw[a_ (ne c _ z λ_ _ z=>nomatch z)];apply z
  by_cases j:b=d
  ·subst j;rw[bh] at q;cases q;let⟨_,x⟩:=(I.L5 b _ h);apply J6.EC x (λ_ _ _ z=>z) (λc z=>f c _ z) g λc u z=>by rw[a_ (λy=>by rw[y,h] at z;cases z)];apply z
  ·rw[a_ j] at q;apply(I.L5 b u q).EC (λ_ _ _ z=>z) (λc z=>f c _ z) g λc u z=>by rw[a_ (λy=>by rw[y,h] at z;cases z)];apply z
 show⟨I.ok,I.os,I.bare,⟨I.base.keep,I.base.slot,λb o q n m=>?_,I.base.there,λb xs q=>?_,λb o u q=>?_,λb ps q=>?_⟩,I.loc,I.cell,?_,λx c e=>?_,λp t=>?_,l,I.len⟩
 ·let z:=I.base.free b o q n m;rw[a_ (k b z)];apply z
 ·let z:=I.base.aad b xs q;rw[a_ (ne b _ z λ_ _ z=>nomatch z)];apply z
 ·let z:=I.base.AE b o u q;let j:b≠d:=λe=>r o u (by rw[<-e];apply q);rw[a_ j];apply z
 ·let⟨i,z⟩:=I.base.Cv b ps q;apply⟨i,by rw[a_ (ne b _ z λ_ _ z=>nomatch z)];apply z⟩
 ·rw[a_ (k _ I.free)];apply I.free
 ·rw[a_ (k _ (I.GH x c e))];apply I.GH x c e
 ·let⟨a,b,c⟩:=I.pin p t;apply⟨a,by rw[a_ (k _ b)];apply b,c⟩
def Fw(d:aP)(JJ:List (List JL×V))(D:J4):J4 where
 L4:=λσ H=>(∃o,H d=aA (.Er o (.L8 JJ)))/\D.L4 σ (upd H d (.L8 JJ))
 Gw:=λσ H=>(∃o,H d=aA (.Er o (.L8 JJ)))/\D.Gw σ (upd H d (.L8 JJ))
 Gq:=λσ H=>(∃o,H d=aA (.Er o (.L8 JJ)))/\D.Gq σ (upd H d (.L8 JJ))
 Cj:=λv H=>(∃o,H d=aA (.Er o (.L8 JJ)))/\D.Cj v (upd H d (.L8 JJ))
def HS(i:Nat)(g:GJ)(Gx:Cq):Cq:=λD σ H=>∃d JJ,σ[i]?=aA (aA (.ref d))/\
 ((H d=aA (.L8 JJ)/\∀o,zz g Gx (Fw d JJ D) σ (Ls d o JJ) (upd H d (.Er o (.L8 JJ))))\/∃o,H d=aA (.Er o (.L8 JJ))/\zz g Gx D σ (Ls d o JJ) H)
def Xn{st:cD}{i:Nat}{g:GJ}{y:Cq}(h:AV X st (FK (EY (KO i)) g y)):AV X st (HS i g y):=by
 ext t s w H D I B;let⟨d,n,x,p⟩:=B;rcases p with⟨l,q⟩ | ⟨o,l,q⟩
 ·let m:∀o u,X.H₀ d≠aA (.Er o u):=λo u z=>by let:=I.base.AE d o u z;rw[l] at this;cases this
  let k:=h t s w H (Fw d n D) I ⟨.ref d,x,d,n,rfl,.inl ⟨l,q⟩⟩;show Z8 k λf C b=>?_
  cases f with
  | next=>
   let⟨a,r,e,⟨o,c⟩,j⟩:=b;apply⟨a,_,Inv.Fw e c m,j⟩
  | brk=>
   let⟨a,r,e,⟨o,c⟩,j⟩:=b;apply⟨a,_,Inv.Fw e c m,j⟩
  | cont=>
   let⟨a,r,e,⟨o,c⟩,j⟩:=b;apply⟨a,_,Inv.Fw e c m,j⟩
  | ret u=>
   let⟨v,a,r,e,A,⟨o,c⟩,j⟩:=b;apply⟨v,a,_,Inv.Fw e c m,A,j⟩
 ·apply h t s w H D I ⟨.ref d,x,d,n,rfl,.inr ⟨o,l,q⟩⟩
def Jk(k:List JL):PV:=.tup (k.map F3)
def v3(e:H1 d=aA (.Er o (.L8 JJ)))(f:¬Rm d):yl K Rm H1 (Ls d o JJ) ((JJ.map (·.1)).map Jk):=by show⟨λc ab=>⟨ab d _ e f,⋯⟩,λc i l ab a=>⟨ab d _ e f,by let:=(aQ.mp a).1;simpa using this⟩,λc i l x j ab a y=>?_⟩;let⟨rfl,b,k,v,g,rfl,h⟩:=y;rw[ag,ag,g] at a;cases a;apply⟨AJ.refl _,[],Is.tup h (Zan k),λp m=>by simp at m⟩
def Iv:PV->Option (List PV)
 | .L8 ks _=>aA (ks.map Jk)
 | _=>aB
def Li(i:Nat)(T:lZ)(fb:XS):XS:=λs=>((s[i]?).join.bind Iv).bind λls=>Mx T fb ls s
def ET.vx(a:ET H p (.L8 xs))(b:ET H p (.L8 L9)):xs=L9:=by rcases a with a | ⟨o,a⟩<;>rcases b with b | ⟨c,b⟩<;>rw[a] at b<;>cases b<;>rfl
def E2.swap(h:ET H d (.L8 JJ))(h':ET H' d (.L8 JJ))(hs:∀b,b≠d->H' b=H b)(p:aP):E2 H H' p:=by
 by_cases a:p=d
 ·subst a;show⟨λxs z=>?_,λk z=>?_,λk z=>?_⟩
  ·rcases h with h | ⟨o,h⟩<;>rw[h] at z<;>cases z
  ·rcases h with h | ⟨o,h⟩<;>rcases z with z | ⟨c,z⟩<;>rw[h] at z<;>cases z
  ·rw[<-ET.vx h z];apply h'
 ·apply E2.of λo z=>by rw[hs p a];apply z
def s8.swap(h:ET H d (.L8 JJ))(hs:∀b,b≠d->H' b=H b):s8 H H':=by
 let ne:∀b u,H b=aA u->(∀k,u≠.L8 k)->(∀o k,u≠.Er o (.L8 k))->b≠d:=λb u q n a z=>by
  rw[z] at q;rcases h with h | ⟨o,h⟩<;>rw[h] at q<;>cases q
  ·apply n _ rfl
  ·apply a _ _ rfl
 apply⟨λb xs z=>by rw[hs b (ne b _ z (λ_ z=>nomatch z) λ_ _ z=>nomatch z)];apply z,λb o xs z=>by rw[hs b (ne b _ z (λ_ z=>nomatch z) λo k z=>by cases z)];apply z,λb o xs z=>by rw[hs b (ne b _ z (λ_ z=>nomatch z) λo k z=>by cases z)];apply z⟩
section
variable {O W:N6} {T:lZ} {fb:XS} {i:Nat}
def WC(r:Rel K O H0 bD s σ H)(y:∀j∈O',j∈O/\j≠i)(e:s[i]?=aA (aA (.L8 ks vs)))
  (ef:Mx T fb (ks.map Jk) s=aA out) (hT:∀j∈T.slots,j∉O')
  (k:∀(F:Hp)(m:Hp->Hp),(∀b,H b≠aB->¬Fb O' bD b->F b≠aB)->AJ H0 (m F)->(∀c,AJ F c->AJ (m F) (m c)/\s8 c (m c)/\(∀p,E2 c (m c) p)/\(∀p,F p=aB->m c p=c p)/\(∀p,p∈bD i->¬Fb O' bD p->H p=m c p))->(∀p,F p=aB->H0 p=aB)->
   ∀va,out=va->match va with
    | .L4 Aq=>∀S g c,Rel K O' F S Aq g c->(∀j,j∉T.slots++W->g[j]?=σ[j]?/\Kq (S j) (bD j))->D.L4 g (m c)
    | .Cj l=>∀v P c,AJ F c->Is K c l v P->P.Nodup->(∀p∈P,F p=aB/\EN (c p))->D.Cj v (m c)
    | _=>True):HS i (Lj K T) (Dc K O' W fb) D σ H:=by
 let⟨v,Ey,aaw⟩:=r.is i _ e;let⟨d,E,fq,rfl,B,rfl,N9,U⟩:=aaw.nS;let Q:¬Fb O' bD d:=λ⟨j,A,f⟩=>r.p' j (y j A).1 i (bU (y j A).2) d f (by rw[U];apply ar);let G:∀p,Fb O' bD p->H0 p=aB/\EN (H p):=λp ⟨j,A,f⟩=>r.own j (y j A).1 p f
 -- AA frame and AA wg at AA yK start,in a heap abw uB from H at d alone
 let start:∀N:Hp,ET N d (.L8 E)->(∀b,b≠d->N b=H b)->Rel K O' (Ia N (Fb O' bD)) bD s σ N:=λN J hs=>by
  show⟨ZO,r.len,λj l q=>?_,r.ud,λj A=>r.nd j (y j A).1,λj A p f=>⟨by delta Ia;rw[An ⟨j,A,f⟩],?_⟩,λj A=>r.p' j (y j A).1⟩
  ·let⟨w,a,b⟩:=r.is j l q;apply⟨w,a,Is.Aw (s8.swap B hs) _ _ _ (λp _=>E2.swap B J hs p) b⟩
  ·let pd:p≠d:=λz=>Q ⟨j,A,z▸f⟩;rw[hs p pd];apply(r.own j (y j A).1 p f).2
 let I:∀(F:Hp)(m:Hp->Hp)(R:J4),(∀g c,AJ F c->D.L4 g (m c)->R.L4 g c)->(∀v c,AJ F c->D.Cj v (m c)->R.Cj v c)->(∀b,H b≠aB->¬Fb O' bD b->F b≠aB)->AJ H0 (m F)->(∀c,AJ F c->AJ (m F) (m c)/\s8 c (m c)/\(∀p,E2 c (m c) p)/\(∀p,F p=aB->m c p=c p)/\(∀p,p∈bD i->¬Fb O' bD p->H p=m c p))->(∀p,F p=aB->H0 p=aB)->(∀Aq,out≠.Gw Aq)->(∀Aq,out≠.Gq Aq)->IJ K O' (T.slots++W) F bD σ R out:=λF m R Es J h3 Mp h5 h6 C Ex=>by
  let kk:=k F m h3 Mp h5 h6 out rfl
  cases out with
  | L4 Aq=>apply λS g c Kd EE=>Es g c Kd.same (kk S g c Kd EE)
  | Cj l=>apply λv P c t i d n=>J v c t (kk v P c t i d n)
  | Gw Aq=>apply absurd rfl (C Aq)
  | Gq Aq=>apply absurd rfl (Ex Aq)
 let x:(∀Aq,out≠.Gw Aq)/\(∀Aq,out≠.Gq Aq):=by
  have:∀(ls:List PV)(s:ZK)(o:Out),Mx T fb ls s=aA o->(∀Aq,o≠.Gw Aq)/\(∀Aq,o≠.Gq Aq):=by
   ext ls
   induction ls with
   | nil=>ext s o h;cases h;apply⟨λ_ z=>(nomatch z),λ_ z=>(nomatch z)⟩
   | cons l Mn N8=>
    ext s o h;let⟨s1,_,h⟩:=Zc h;let⟨o1,_,h⟩:=Zc h
    cases o1 with
    | L4 s2=>apply N8 s2 o h
    | Gq s2=>apply N8 s2 o h
    | Gw s2=>cases h;apply⟨λ_ z=>(nomatch z),λ_ z=>(nomatch z)⟩
    | Cj v=>cases h;apply⟨λ_ z=>(nomatch z),λ_ z=>(nomatch z)⟩
  apply this _ _ _ ef
 rcases B with B | ⟨o,B⟩
 ·show⟨d,E,Ey,.inl ⟨B,λo=>?_⟩⟩;let J:upd H d (.Er o (.L8 E)) d=aA (.Er o (.L8 E)):=bh;let hs:∀b,b≠d->upd H d (.Er o (.L8 E)) b=H b:=λb C=>a_ C;let M:Ia (upd H d (.Er o (.L8 E))) (Fb O' bD) d=aA (.Er o (.L8 E)):=by delta Ia;rw[N4 Q];apply J
  show O0 (start _ (.inr ⟨o,J⟩) hs) (v3 J Q) ef hT (I _ (λX=>upd X d (.L8 E)) (Fw d E D) (λg c t q=>⟨⟨o,t d _ M⟩,q⟩) (λv c t q=>⟨⟨o,t d _ M⟩,q⟩) (λb C Z=>?_) (λb u h=>?_) (λc t=>⟨?_,?_,λp=>?_,λp f=>?_,λp f np=>?_⟩) (λp f=>?_) x.1 x.2)
  ·delta Ia;rw[N4 Z];by_cases e:b=d
   ·subst e;rw[J];simp
   ·rw[hs b e];apply C
  ·by_cases e:b=d
   ·subst e;let:=r.same b u h;rw[B] at this;cases this;apply bh
   ·rw[a_ e];delta Ia;rw[N4 (λz=>by rw[(G b z).1] at h;cases h),hs b e];apply r.same b u h
  ·ext b u h;by_cases e:b=d
   ·subst e;rw[bh] at h ⊢;apply h
   ·rw[a_ e] at h ⊢;apply t b u h
  ·apply s8.swap (.inr ⟨o,t d _ M⟩) λb C=>a_ C
  ·apply E2.swap (.inr ⟨o,t d _ M⟩) (.inl bh) (λb C=>a_ C) p
  ·apply a_ λe=>by rw[e,M] at f;cases f
  ·by_cases e:p=d
   ·subst e;rw[B];apply bh.symm
   ·change H p=upd c d (.L8 E) p;rw[a_ e];let L:=r.oi i p f
    cases q:H p with
    | none=>apply absurd q L
    | some u=>apply(t p u (by delta Ia;rw[N4 np,hs p e];apply q)).symm
  ·cases q:H0 p with
   | none=>rfl
   | some u=>
    exfalso;let Y:p≠d:=λe=>by rw[e,M] at f;cases f
    delta Ia at f;rw[N4 (λz=>by rw[(G p z).1] at q;cases q),hs p Y,r.same p u q] at f;cases f
 ·show⟨d,E,Ey,.inr ⟨o,B,?_⟩⟩;show O0 (start H (.inr ⟨o,B⟩) λ_ _=>rfl) (v3 B Q) ef hT (I _ (λX=>X) D (λg c t q=>q) (λv c t q=>q) (λb C Z=>by delta Ia;rw[N4 Z];apply C) (λb u h=>?_) (λc t=>⟨t,AJ.rf (AJ.refl _),λp=>E2.of λ_ z=>z,λp _=>rfl,λp f np=>?_⟩) (λp f=>?_) x.1 x.2)
  ·delta Ia;rw[N4 (λz=>by rw[(G b z).1] at h;cases h)];apply r.same b u h
  ·let L:=r.oi i p f
   cases q:H p with
   | none=>apply absurd q L
   | some u=>apply(t p u (by delta Ia;rw[N4 np];apply q)).symm
  ·cases q:H0 p with
   | none=>rfl
   | some u=>
    exfalso;delta Ia at f;rw[N4 (λz=>by rw[(G p z).1] at q;cases q),r.same p u q] at f;cases f
end
section
variable {X:Cx} {O O' W:N6} {T:lZ} {fb:XS} {i:Nat} {st:cD}
def YH(h:AV X st (FK (EY (KO i)) (Lj X.K T) (Dc X.K O W fb)))(Q:i∉O|>Op)(M:(∀j∈T.slots,j∉O)|>Op):MX X O (T.slots++W) st (Li i T fb):=AV.imp (Xn h)<|by
 ext D Y H ⟨Z,bD,s,t,r,e,k⟩;let⟨ls,U,e⟩:=Zc e;let⟨d,u,E⟩:=Zc U;let u:=TR u
 cases d with
 | L8 ks vs=>
  cases E;show WC r (λj g=>⟨g,λz=>Q (z▸g)⟩) u e M λF B _ C G A I J=>?_;subst J
  cases t with
  | L4 Aq=>
   ext R w m c S;let⟨n,o,y,x,_⟩:=G m c.same;show k R w (B m) ⟨C.trans n,c.len,λj l q=>?_,c.ud,c.nd,λj g p f=>⟨A p (c.own j g p f).1,by rw[x p (c.own j g p f).1];apply(c.own j g p f).2⟩,c.p'⟩ S;let⟨v,a,b⟩:=c.is j l q;apply⟨v,a,Is.Aw o _ _ _ (λp _=>y p) b⟩
  | Cj l=>
   ext v N m P is L fr;let⟨n,o,y,x,_⟩:=G m P;apply k v N (B m) (C.trans n) (Is.Aw o _ _ _ (λp _=>y p) is) L λp f=>⟨A p (fr p f).1,by rw[x p (fr p f).1];apply(fr p f).2⟩
  | Gw Aq=>trivial
  | Gq Aq=>trivial
 | _=>cases E
def Dh(O:N6):Nat->ZK->ZK
 | _,[]=>[]
 | k,o::r=>(if k∈O then o else match o with | some l=>if MS l=aD then aA l else aB | none=>aB)::Dh O (k+1) r
def SH:∀{s:ZK}{k j:Nat}{l:PV},(Dh O k s)[j]?=aA (aA l)->s[j]?=aA (aA l)/\(k+j∈O\/MS l=aD)
 | [],k,j,l,h=>by simp[Dh] at h
 | o::r,k,0,l,h=>by
  delta Dh at h;dsimp[List.getElem?_cons_zero,mQ] at h;by_cases c:k∈O
  ·rw[An c] at h;apply⟨by simp[h],.inl c⟩
  ·rw[N4 c] at h
   cases o with
   | none=>cases h
   | some a=>
    simp only at h;split at h
    ·cases h;apply⟨rfl,.inr (by assumption)⟩
    ·cases h
 | o::r,k,j+1,l,h=>by delta Dh at h;rw[kD] at h;let⟨a,b⟩:=SH h;apply⟨by simpa using a,by rw[show k+(j+1)=k+1+j by lia];apply b⟩
def O8:∀{s:ZK}{k:Nat},(Dh O k s).length=la s
 | [],_=>rfl
 | o::r,k=>by delta Dh;rw[bH,bH,O8]
def Fm(O:N6):Out->Out
 | .L4 s=>.L4 (Dh O 0 s)
 | o=>o
def KQ(O:N6)(i:Nat)(T:lZ)(fb:XS):XS:=λs=>((s[i]?).join.bind Iv).bind λls=>(Mx T fb ls s).map (Fm O)
open Classical in
def Zat(h:AV X st (FK (EY (KO i)) (Lj X.K T) (Dc X.K O' W fb)))(C:i∈O|>Op)(E:∀j,j∈O'↔(j∈O/\j≠i))(hT:(∀j∈T.slots,j∉O)|>Op)(hW:i∉T.slots++W|>Op):MX X O (T.slots++W) st (KQ O i T fb):=AV.imp (Xn h)<|by
 ext D σ H ⟨H0,bD,s,out,r,e,k⟩;let⟨ls,Mc,e⟩:=Zc e;let⟨d,N,Gy⟩:=Zc Mc;let⟨B,e5,rfl⟩:=map_some e;let N:=TR N
 cases d with
 | L8 ks vs=>
  cases Gy;show WC (O':=O') r (λj f=>(E j).mp f) N e5 (λj f z=>hT j f ((E j).mp z).1) λF Y h3 Mp h5 U va eo=>?_;subst eo
  cases B with
  | L4 Aq=>
   ext w P A t Q;let⟨I,J,S,R,t5⟩:=h5 A t.same;let ki:=Q i hW;let Z:∀p∈bD i,¬Fb O' bD p:=λp c ⟨j,f,z⟩=>r.p' i C j ((E j).mp f).2 p c z;let Fi:∀p∈bD i,F p≠aB:=λp c=>h3 p (r.oi i p c) (Z p c)
   let sub:∀p,p∈w i->p∈bD i:=λp c=>by
    rcases ki.2 with z | z
    ·rw[<-z];apply c
    ·rw[z] at c;simp at c
   let L:∀j∈O',∀p∈w j,F p=aB:=λj f p c=>(t.own j f p c).1;let u:∀j∈O,j≠i->j∈O':=λj f n=>(E j).mpr ⟨f,n⟩
   let get:∀j p,p∈(if(Dh O 0 Aq)[j]?=Aq[j]? then w j else [])->p∈w j/\(Dh O 0 Aq)[j]?=Aq[j]?:=λj p c=>by
    split at c
    ·apply⟨c,by assumption⟩
    ·simp at c
   show k (λj=>if(Dh O 0 Aq)[j]?=Aq[j]? then w j else []) P (Y A) ⟨Mp.trans I,by rw[O8];apply t.len,λj l q=>?_,λj M=>?_,λj f=>?_,λj f p c=>?_,λj f m hm p c z=>?_⟩ λj f=>⟨(Q j f).1,?_⟩
   ·let⟨q1,_⟩:=SH q;let⟨v,a,b⟩:=t.is j l q1;rw[An (q.trans q1.symm)];apply⟨v,a,Is.Aw J _ _ _ (λp _=>S p) b⟩
   ·change(if(Dh O 0 Aq)[j]?=Aq[j]? then w j else [])=[];split
    ·rename_i h;apply t.ud j λl z=>M l (by rw[h];apply z)
    ·rfl
   ·change(if(Dh O 0 Aq)[j]?=Aq[j]? then w j else []).Nodup;split
    ·by_cases e:j=i
     ·subst e;rcases ki.2 with z | z
      ·rw[z];apply r.nd j C
      ·rw[z];apply cI
     ·apply t.nd j (u j f e)
    ·apply cI
   ·let⟨c,_⟩:=get j p c;by_cases e:j=i
    ·subst e;let c:=sub p c;apply⟨(r.own j C p c).1,by rw[<-t5 p c (Z p c)];apply(r.own j C p c).2⟩
    ·let o:=t.own j (u j f e) p c;apply⟨U p o.1,by rw[R p o.1];apply o.2⟩
   ·let⟨c,_⟩:=get j p c;let⟨y,zc⟩:=get m p z;by_cases e:j=i
    ·subst e;let G:=sub p c;by_cases x:m∈O'
     ·apply Fi p G (L m x p y)
     ·let⟨l,v,ql,_,b⟩:=t.at m y;rw[ql] at zc;let⟨_,g⟩:=SH zc;rcases g with g | g
      ·rw[lQ] at g;apply x (u m g hm)
      ·rw[Is.pure _ _ _ g b] at y;simp at y
    ·apply t.p' j (u j f e) m hm p c y
   ·change Kq (if(Dh O 0 Aq)[j]?=Aq[j]? then w j else []) (bD j);split
    ·apply(Q j f).2
    ·apply .inr rfl
  | Cj l=>
   ext v Gh A sm is nd fr;let⟨I,J,S,R,_⟩:=h5 A sm;apply k v Gh (Y A) (Mp.trans I) (Is.Aw J _ _ _ (λp _=>S p) is) nd λp c=>⟨U p (fr p c).1,by rw[R p (fr p c).1];apply(fr p c).2⟩
  | Gw Aq=>trivial
  | Gq Aq=>trivial
 | _=>cases Gy
end
end _v
namespace _v
open PySem PySem.Spec PyProof.Rows _l
variable {K:aG}
section
variable {X:Cx} {O:N6} {Eu elt iter:bT} {ifs:Mk} {scope:jX} {pos:g6} {fi:XL} {T:lZ} {ft:XT} {fe:XE}
def h8(own fr:Gm)(e:N6)(l:X.N.Nodup)(g:X.N[i]?=aA y)(c:X.env.scope.names.lookup y=aA .local)(b:X.calm=aD)(j:La X Eu iter fi)(S:Fs X.N X.env.scope scope own fr e=aD)
  (k:∀cl C s H a,CY (MT X (own++fr) scope cl C s H a) Eu (Lj X.K T)) (m:∀cl C s H a,FA (MT X (own++fr) scope cl C s H a) ifs ft) (f:∀cl C s H a,AU (MT X (own++fr) scope cl C s H a) elt fe)
  (h:(∀i∈T.slots,i<la own)|>Op)
  (d:gO (.ListComp elt [⟨Eu,iter,ifs,0⟩] scope pos) (aA (.Name y py)) u5.line X.env=pure aD|>On)
  (hs:∀x,cw iter X.env x=pure x:=by ext _;rfl):MX X O [i] (.Assign [.Name y py] (.ListComp elt [⟨Eu,iter,ifs,0⟩] scope pos) u5) (Kg i (AS (la own) e fi T ft fe)):=
 AV.imp (sa own fr e l g c b j S k (λcl C s H a=>(show AF (MT X (own++fr) scope cl C s H a) ifs (GK X.K ft) from m cl C s H a)) (λcl C s H a=>(show JY (MT X (own++fr) scope cl C s H a) elt (Fq X.K fe) from f cl C s H a)) d hs) (X2 (xG h))
end
def KS(i:Nat)(fk:XE):XS:=λs=>(Cw i s).bind λa=>((fk s).bind C5).bind λk=>if k=0 then aA (.Cj .Ma) else if k=1 then aA (.Cj a) else aB
def yI(t:JY X e (IW (NA X.K) (DU (Dz (Fy .Ma) (Dz (KO i) CJ))) (GY X.K fk)))(f:i∈O|>Op):MX X O [] (.Return (aA e) pos) (KS i fk):=AV.imp (PI t)<|by
 ext D E H ⟨F,bD,s,A,r,e,k⟩;let⟨a,u,e⟩:=Zc e;let⟨n,d,e⟩:=Zc e;let⟨l,d,C⟩:=Zc d;rw[U5 C] at d;let⟨v,x,B⟩:=r.is i a (Qn u);show⟨v,x,(by change 2<=sizeLine;decide),λp h=>?_⟩;let sn:AJ H (upd H p (.lst [V.Ma,v])):=AJ.new h _;show⟨λ_=>False,s,_,λ_ z=>z.elim,r.env.mono sn,d,λy m G s2 j _=>?_⟩;let c:=s2 _ _ bh;by_cases g:n=0
 ·rw[An g] at e;cases e;apply⟨p,[V.Ma,v],n,V.Ma,rfl,j.int_inv.1,EJ.of c,by rw[g];rfl,k .Ma [] m (r.same.trans (sn.trans s2)) Is.Ma cI λp h=>by simp at h⟩
 ·rw[N4 g] at e;split at e
  ·rename_i w;cases e;let b:=sn.trans s2;apply⟨p,[V.Ma,v],n,v,rfl,j.int_inv.1,EJ.of c,by rw[w];rfl,k v (bD i) m (r.same.trans b) (B.mono b) (r.nd i f) λq o=>⟨(r.own i f q o).1,AJ.mut b (r.own i f q o).2⟩⟩
  ·cases e
section
variable {P:bO} {w:bX} {mg:JM} {base:bp}
def Zk6{st:cD}{N ps:Gm}{k n:Nat}{O W:N6}{d:aP}{e:gj}(m:Nat)(f:XS)(F:uG K x x st d e)(S:Z2 N ps (GV st))
  (g:la ps=n) (j:la N=m) (o:∀i∈O,n<=i)
  (c:∀(d:aP)(b:aI)(A:bg)(a:GB)(s:aR)(H:Hp)(E:Ml),Cm k (A.deeper (j6 x (GV st) s.heap.objs.size d b))->Lb (Ip Mq P w K mg base N x (GV st) d b A a s H E).EA O W (Kv st) f) :
  S7 P w K mg base Mq (k+1) d e ps (EV K (CB m f) n):=by
 subst j;show F.ok S (λvs H Q E h=>by rw[g];apply h.1) λb A a s H vs Q E l h=>⟨_,c d b A a s H E l,?_⟩;apply TY o h
def Zau{st:cD}{x:bJ}{D:List PV->Option PV}{k:Nat}{i:aP}(o:Def K mg "law" st)(j:mg "law" = aA (.ref i))
  (m:∀(GS d h:aI)(g:Co)(c Gq u:aI),jc (cf "law" "law" (M9 st) (Kv st) (GV st) .none GS d h g c Gq) ⟨[u],[]⟩=pure [(x,u)])
  (H:∀(a:bp)(f:aP)(b:gj),K.In a->a.Ns bY mg->uG K "law" "law" st f b->S7 P w K mg a Mq k f b [x] (EV K D 1)) :
  ∃b:gj,(∀(s:aR)(u:aI),pM s b ⟨[u],[]⟩ [(x,u)])/\∀a:bp,K.In a->a.Ns bY mg->S7 P w K mg a Mq k i b [x] (EV K D 1):=by
 let⟨f,b,p,F⟩:=o.ex;let e:=j.symm.trans p;cases e;show⟨b,?_,λa n r=>H a i b n r F⟩;let⟨v,t,GS,d,h,g,c,Gq,q,rfl,y,l⟩:=F.ex;apply λs u=>.of_eq (m GS d h g c Gq u)
end
end _v
namespace _v
open PySem _l
@[simp] def wM(i:Nat)(s:ZK):Cw i s=(s[i]?).join:=rfl
@[simp] def zo(l:PV)(s:ZK):AL l s=aA l:=rfl
@[simp] def Og(g:PV->PV->Option PV)(a b:XE)(s:ZK):Cy g a b s=(a s).bind λx=>(b s).bind λy=>g x y:=rfl
@[simp] def xO(g:PV->Option PV)(a:XE)(s:ZK):A6 g a s=(a s).bind g:=rfl
@[simp] def Zav(f:XE)(s:ZK):AN f s=(f s).bind λl=>if MS l=aD then aA l else aB:=rfl
@[simp] def xN(s:ZK):A2 [] s=aA []:=rfl
@[simp] def Zt(f:XE)(fs:List XE)(s:ZK):A2 (f::fs) s=(f s).bind λx=>(A2 fs s).map (x::·):=rfl
@[simp] def Wc(D:List PV->Option PV)(fs:List XE)(s:ZK):AK D fs s=(A2 fs s).bind D:=rfl
@[simp] def Rt(fs:List XE)(s:ZK):EM fs s=(A2 fs s).map .tup:=rfl
@[simp] def ya(fs:List XE)(s:ZK):Mv fs s=(A2 fs s).map .lst:=rfl
@[simp] def wR(g:PV->Option Int->Option Int->Option PV)(a:XE)(lo N9:XO)(s:ZK):MW g a lo N9 s=(a s).bind λx=>(lo s).bind λl=>(N9 s).bind λu=>g x l u:=rfl
@[simp] def Xm(s:ZK):CP s=aA aB:=rfl
@[simp] def S'(g:M_)(i j:Int):Bm g (.int i) (.int j)=aA (.int (g i j)):=rfl
@[simp] def U'(g:Int->Int->Bool)(i j:Int):Bg g (.int i) (.int j)=aA (.Ap (g i j)):=rfl
@[simp] def Zk7(C:L1)[∀i j,Decidable (C i j)](g:M_)(i j:Int):A9 C g (.int i) (.int j)=if C i j then aA (.int (g i j)) else aB:=rfl
@[simp] def zh(l:List PV)(i:Int):JZ (.tup l) (.int i)=AZ l i:=rfl
@[simp] def zi(l:List PV)(i:Int):JZ (.lst l) (.int i)=AZ l i:=rfl
@[simp] def zj(l:List PV)(i:Int):JZ (.cst l) (.int i)=AZ l i:=rfl
@[simp] def Zk8(f:XE)(s:ZK):AO f s=(f s).bind Jf:=by
 delta AO
 cases f s with
 | none=>rfl
 | some a=>cases a<;>rfl
@[simp] def zq(b:Bool):Jf (.Ap b)=aA b:=rfl
@[simp] def Zaw(a b:XT)(s:ZK):KJ a b s=(a s).bind λc=>if c=aD then b s else aA aC:=rfl
@[simp] def Zf1(a b:XT)(s:ZK):Ky a b s=(a s).bind λc=>if c=aD then aA aD else b s:=rfl
@[simp] def Zax(a:XT)(s:ZK):Kt a s=(a s).map not:=rfl
@[simp] def Zay(a b:XE)(s:ZK):Fp a b s=(AO a s).bind λc=>if c=aD then b s else aA (.Ap aC):=rfl
@[simp] def xP(a b:XE)(s:ZK):D5 a b s=(AO a s).bind λc=>if c=aD then aA (.Ap aD) else b s:=rfl
@[simp] def wN(a:XE)(s:ZK):DK a s=(AO a s).map λc=>.Ap !c:=rfl
@[simp] def Ya(c:XT)(a b:XE)(s:ZK):CW c a b s=(c s).bind λk=>if k=aD then a s else b s:=rfl
@[simp] def Zaz(neg:Bool)(a:XE)(s:ZK):C9 neg a s=(a s).bind (DT neg):=rfl
@[simp] def vK(s:ZK):GX s=aA (.L4 s):=rfl
@[simp] def yb(f g:XS)(s:ZK):GP f g s=(f s).bind λo=>match o with | .L4 Aq=>g Aq | r=>aA r:=rfl
@[simp] def TZ(c:XT)(f g:XS)(s:ZK):EI c f g s=(c s).bind λk=>if k=aD then f s else g s:=rfl
@[simp] def Za0(f:XE)(s:ZK):AQ f s=(f s).map .Cj:=rfl
@[simp] def Za1(i:Nat)(f:XE)(s:ZK):Kg i f s=(f s).map λl=>.L4 (s.set i (aA l)):=rfl
@[simp] def xv(v:PV):MB (.Cj v)=aA v:=rfl
@[simp] def vO(i:Int):MS (.int i)=aD:=rfl
@[simp] def wh(i:Bool):MS (.Ap i)=aD:=rfl
@[simp] def vM(i:bJ):MS (.str i)=aD:=rfl
@[simp] def vN:MS .Ma=aD:=rfl
@[simp] def vL(l:List PV):MS (.tup l)=CF l:=by rw[MS]
@[simp] def vQ:CF []=aD:=rfl
@[simp] def u_(a:PV)(l:List PV):CF (a::l)=(MS a&&CF l):=rfl
def Qu{l:List α}{f:α->PV}(h:∀a∈l,MS (f a)=aD):CF (l.map f)=aD:=by rw[WK,lO,bN];apply h
@[simp] def wj(l:Gj):CF (l.map PV.int)=aD:=Y3 l
abbrev pP(l:Gj):PV:=.tup (iL l)
abbrev wP(W:N7):PV:=.tup (W.map pP)
@[simp] def xS(W:N7):CF (W.map pP)=aD:=Qu λa _=>⋯
def Za2{k:Nat}{a:PV}(h:l[k]?=aA a):AZ l (k:Int)=aA a:=Wy h
def O9(h:k<l.length):(iL l)[k]?=aA (.int (Cz l k)):=by simp[Cz,aF h]
def YX{k:Nat}(h:k<l.length):AZ (iL l) (k:Int)=aA (.int (Cz l k)):=Wy (O9 h)
def Uq{k:Nat}(h:k<W.length):AZ (W.map pP) (k:Int)=aA (pP (Kl W k)):=by show Wy ?_;rw[ag,OI h];rfl
@[simp] def Zk9(l:Gj):Nd [.tup (l.map PV.int)]=aA (.int l.sum):=by simp[Nd,Fo,Z5 l]
@[simp] def Za3(l:Gj):Nd [.lst (l.map PV.int)]=aA (.int l.sum):=by simp[Nd,Fo,Z5 l]
@[simp] def Za4(l:L0):G8 [.lst (l.map PV.Ap)]=aA (.Ap (l.all id)):=by simp[G8,Fo,Ss l]
@[simp] def Za5(l:List PV):CD [.tup l]=aA (.int (la l)):=rfl
@[simp] def Za6(l:List PV):CD [.lst l]=aA (.int (la l)):=rfl
@[simp] def zg(l:List PV):CD [.cst l]=aA (.int (la l)):=rfl
@[simp] def wF(l:List PV):Ii [.lst l]=aA (.tup l):=rfl
@[simp] def wD(l:List PV):Ii [.tup l]=aA (.tup l):=rfl
@[simp] def Za7(l:List PV):MD [.tup l]=if CF l=aD then aA (.lst l) else aB:=rfl
@[simp] def Za8(l:List PV):MD [.lst l]=if CF l=aD then aA (.lst l) else aB:=rfl
@[simp] def wG(i j:Int):IT [.int i,.int j]=aA (.int (if j<i then j else i)):=rfl
@[simp] def wH(i j:Int):E6 [.int i,.int j]=aA (.int (if j>i then j else i)):=rfl
@[simp] def xM(c:Bool):IH [.Ap c]=aA (.int (if c then 1 else 0)):=rfl
@[simp] def xK(c:Int):IH [.int c]=aA (.int c):=rfl
@[simp] def wK(i:Int):Ja [.int i,.ty "int"]=aA (.Ap aD):=rfl
@[simp] def wL(i:Int):Ja [.int i,.ty "bool"]=aA (.Ap aC):=rfl
@[simp] def wI(l:List PV):Ja [.tup l,.ty "tuple"]=aA (.Ap aD):=rfl
@[simp] def wJ(l:List PV):Ja [.lst l,.ty "list"]=aA (.Ap aD):=rfl
def ZC(n:Nat)(i j:Int):C1 (n+1) (.int i) (.int j)=aD:=rfl
def U7{f:α->PV}{g:β->PV}{p:PV->PV->Bool}(h:∀a b,p (f a) (g b)=aD):∀(l:List α)(m:List β),((l.map f).zip (m.map g)).all (λz=>p z.1 z.2)=aD
 | [],_=>⋯
 | _::_,[]=>⋯
 | a::l,b::m=>by rw[ak,ak,fU,ka,U7 h l m,h a b];rfl
def Zf2(n:Nat)(l m:Gj):C1 (n+2) (pP l) (pP m)=aD:=U7 (λa b=>ZC n a b) l m
def Zf3(n:Nat)(l m:Gj):C1 (n+2) (.lst (iL l)) (.lst (iL m))=aD:=U7 (λa b=>ZC n a b) l m
def Za9:iL l=iL m↔l=m:=by
 constructor
 ·ext h;apply(List.map_inj_right (λa b e=>PV.int.inj e)).mp h
 ·ext h;rw[h]
def Zla:pP l=pP m↔l=m:=by rw[PV.tup.injEq];apply Za9
@[simp] def Zba(neg:Bool)(i j:Int):J1 neg (.int i) (.int j)=aA (.Ap (if neg then !decide (i=j) else decide (i=j))):=by
 delta J1;rw[An (ZC 7 i j)];congr 2;cases neg<;>simp
@[simp] def zk(neg:Bool)(l m:Gj):J1 neg (.tup (l.map PV.int)) (.tup (m.map PV.int))=aA (.Ap (if neg then !decide (l=m) else decide (l=m))):=by delta J1;rw[An (Zf2 6 l m)];have:decide ((PV.tup (l.map PV.int)) = .tup (m.map PV.int))=decide (l=m):=decide_eq_decide.mpr Zla;rw[this]
@[simp] def Zbb(neg:Bool)(l m:Gj):J1 neg (.lst (l.map PV.int)) (.lst (m.map PV.int))=aA (.Ap (if neg then !decide (l=m) else decide (l=m))):=by delta J1;rw[An (Zf3 6 l m)];have:decide ((PV.lst (l.map PV.int)) = .lst (m.map PV.int))=decide (l=m):=decide_eq_decide.mpr (by rw[PV.lst.injEq];apply Za9);rw[this]
def Wt:∀{ls:List α},(∀a∈ls,∃s1,CS T (q a) s0=aA s1/\ft s1=aA aD/\fe s1=aA (g a))->Dj T ft fe s0 (ls.map q)=aA (ls.map g)
 | [],_=>rfl
 | a::r,h=>by let⟨s1,f,e,i⟩:=h a ar;let c:=Wt (ls:=r) λb d=>h b (aS _ d);rw[ak,ak];delta Dj;rw[f];dsimp[aZ,e,if_true,i,c,dz]
def Ru:∀{ls:List α},(∀a∈ls,∃s1,CS T (q a) s0=aA s1/\ft s1=aA (c a)/\(c a=aD->fe s1=aA (g a)))->Dj T ft fe s0 (ls.map q)=aA ((ls.filter c).map g)
 | [],_=>rfl
 | a::r,h=>by
  let⟨s1,i,f,j⟩:=h a ar;let d:=Ru (ls:=r) λb e=>h b (aS _ e);rw[ak];delta Dj;rw[i];dsimp[aZ,f]
  cases Ex:c a with
  | true=>simp[j Ex,d,Ex]
  | false=>simp[d,Ex]
def ZP(ls:List α)(q g:α->PV)(b:fi s=aA (ls.map q))(c:la ls<=10000)
  (h:∀a∈ls,∃s1,CS T (q a) (CT n ix s)=aA s1/\ft s1=aA aD/\fe s1=aA (g a)):AS n ix fi T ft fe s=aA (.lst (ls.map g)):=by
 delta AS;rw[b];dsimp[aZ,aJ,An c,Wt h,dz]
def WD(ls:List α)(q g:α->PV)(c:α->Bool)(b:fi s=aA (ls.map q))(d:la ls<=10000)
  (h:∀a∈ls,∃s1,CS T (q a) (CT n ix s)=aA s1/\ft s1=aA (c a)/\(c a=aD->fe s1=aA (g a))):AS n ix fi T ft fe s=aA (.lst ((ls.filter c).map g)):=by
 delta AS;rw[b];dsimp[aZ,aJ,An d,Ru h,dz]
def U8:∀{ls:List PV}{s:ZK}(Jv:Nat->ZK->Prop),Jv 0 s->(∀(i:Nat) l st,ls[i]?=aA l->Jv i st->∃s1 s2,CS T l st=aA s1/\fb s1=aA (.L4 s2)/\Jv (i+1) s2)->
  ∃f,Mx T fb ls s=aA (.L4 f)/\Jv (la ls) f
 | [],s,Jv,h0,_=>⟨s,rfl,h0⟩
 | l::r,s,Jv,h0,h=>by let⟨s1,s2,a,b,c⟩:=h 0 l s rfl h0;let⟨f,d,e⟩:=U8 (ls:=r) (s:=s2) (λi=>Jv (i+1)) c λi j st k g=>h (i+1) j st (~~~k) g;show⟨f,?_,e⟩;delta Mx;rw[a];dsimp[aZ,b];apply d
def Zbc(h:(KG n)[i]?=aA l):i<n/\l = .int (i:Int):=by let a:=(aQ.mp h).1;delta KG at a h;rw[aJ,bZ] at a;rw[ag,eO a] at h;apply⟨a,(bM h).symm⟩
def YJ(h:(Dm lo n)[i]?=aA l):i<n/\l = .int (lo+(i:Int)):=by let a:=(aQ.mp h).1;delta Dm at a h;rw[aJ,bZ] at a;rw[ag,eO a] at h;apply⟨a,(bM h).symm⟩
@[simp] def Zbd(n:Nat):(KG n).length=n:=by delta KG;simp
@[simp] def T4(lo:Int)(n:Nat):(Dm lo n).length=n:=by delta Dm;simp
@[simp] def v5(i:Nat)(l:PV)(s:ZK):CS (.one i) l s=aA (s.set i (aA l)):=rfl
def cb(i j:Nat)(a b:PV)(s:ZK):CS (.many [i,j]) (.tup [a,b]) s=aA ((s.set i (aA a)).set j (aA b)):=rfl
def Wj(m:List PV):KP m=(aL (la m)).map λ(i:Nat)=>.tup [.int (i:Int),m.getD i .Ma]:=by
 apply((gA));ext i;rw[ag];by_cases h:i<la m
 ·have:(KP m)[i]?=aA (.tup [.int (i:Int),m[i]]):=by delta KP;simp
  rw[this,eO h];simp[aF h]
 ·rw[cT (by rw[Y6];lia),cT (~~~h)];rfl
def SI(m n:List PV)(h:la n=la m):Nc m n=(aL (la m)).map λ(i:Nat)=>.tup [m.getD i .Ma,n.getD i .Ma]:=by
 apply((gA));ext i;rw[ag];by_cases a:i<la m
 ·have:(Nc m n)[i]?=aA (.tup [m[i],n[i]]):=by delta Nc;rw[ag,mE (z:=(m[i],n[i])) |>.mpr ⟨aF a,aF ()⟩];rfl
  rw[this,eO a];simp[aF a,aF (show i<la n by lia)]
 ·rw[cT (by rw[qw];lia),cT (~~~a)];rfl
def Ur(l:Gj)(i:Nat)(h:i<la l):(iL l).getD i .Ma = .int (Cz l i):=by rw[aK,O9 h];rfl
def Zbe(W:N7)(i:Nat)(h:i<la W):(W.map pP).getD i .Ma=pP (Kl W i):=by rw[aK,ag,OI h];rfl
@[simp] def Zf4(f:XE)(s:ZK):Ib [f] s=(f s).bind λa=>(C5 a).bind λj=>if -1000000<=j/\j<=1000000 then aA (KG j.toNat) else aB:=by
 delta Ib
 cases h:f s with
 | none=>simp[h]
 | some a=>cases a<;>simp[h,C5]
@[simp] def Zf5(f g:XE)(s:ZK):C3 [f,g] s=(f s).bind λa=>(g s).bind λb=>(C5 a).bind λi=>(C5 b).bind λj=>if -1000000<=i/\i<=1000000/\-1000000<=j/\j<=1000000 then aA (Dm i (j-i).toNat) else aB:=by
 delta C3
 cases h:f s with
 | none=>simp[h]
 | some a=>cases Md:g s with
  | none=>simp[h,Md]
  | some b=>cases a<;>cases b<;>simp[h,Md,C5]
@[simp] def Rv(i:Int):C5 (.int i)=aA i:=rfl
@[simp] def Tj(i:List PV):MG (.lst i)=aA i:=rfl
@[simp] def vH(b:Bool)(f:XE)(s:ZK):Lf b [f] s=(f s).bind λl=>(CM b l).map KP:=by
 delta Lf;cases h:f s<;>simp[h]
@[simp] def v8(b1 b2:Bool)(f g:XE)(s:ZK):KI b1 b2 [f,g] s=(f s).bind λl=>(g s).bind λr=>(CM b1 l).bind λm=>(CM b2 r).map λn=>Nc m n:=by
 delta KI;cases h:f s<;>cases Md:g s<;>simp[h,Md]
@[simp] def yB(l:List PV):CM aC (.tup l)=aA l:=rfl
@[simp] def yA(l:List PV):CM aD (.lst l)=aA l:=rfl
@[simp] def yC(l:List PV):CM aD (.cst l)=aA l:=rfl
@[simp] def v_(f:XE)(s:ZK):G6 f s=(f s).bind Bi:=rfl
@[simp] def asS_l(l:List PV):Bi (.lst l)=aA l:=rfl
@[simp] def asS_c(l:List PV):Bi (.cst l)=aA l:=rfl
def yj(h:f s=aA (.tup l)):KW f s=aA l:=by delta KW;rw[h]
@[simp] def Zbf(O:N6)(fi:XL)(T:lZ)(fb:XS)(s:ZK):GZ O fi T fb s=(fi (IA O s)).bind λls=>Mx T fb ls s:=rfl
@[simp] def vG(s:ZK):MV s=aA aD:=rfl
def WL(h:f s=aA (.int (n:Int)))(a:n<=10000):Ib [f] s=aA (KG n):=by rw[Zf4,h];dsimp[aZ,Rv];rw[An ⟨(),()⟩,dk]
def Qv(h:f s=aA (.int i))(h':g s=aA (.int j))(a : -10000<=i/\i<=10000)(b : -10000<=j/\j<=10000):C3 [f,g] s=aA (Dm i (j-i).toNat):=by rw[Zf5,h,h'];dsimp[aZ,Rv];rw[An ⟨(),(),(),()⟩]
def Zbg(a : -10000<=i)(h:i<=10000):Dy i j:=by
 show .inl ?_;let e:(2^64:Int)=18446744073709551616:=∅
 rw[e];lia
def T1(h:c=aD):Ic c=aA .unit:=by delta Ic;rw[An h]
def Su(h:f s=aA (.lst n))(b:JS s i=aA m)(a:m.length+n.length<=10000):Bn i f s=aA (.L4 (s.set i (aA (.lst (m++n))))):=by delta Bn;rw[h];dsimp[aZ,Tj,b,T1 (decide_eq_true a)]
def Q3(h:f s=aA l)(b:JS s i=aA m)(a:m.length<=10000):KR i f s=aA (.L4 (s.set i (aA (.lst (m++[l]))))):=by delta KR;rw[h];dsimp[aZ,b,T1 (decide_eq_true a)]
def hb(d:fk s=aA (.int k))(h:f s=aA l)(n:JS s i=aA m)(b:CF m=aD)(j:MS l=aD)(a:0<=k)(e:k<=1000000)(g:m.length<=10000) :
  Bw i fk f s=aA (.L4 (s.set i (aA (.lst (m.take k.toNat++l::m.drop k.toNat))))):=by
 delta Bw;rw[d,h];let c:(CF m&&MS l&&decide (0<=k/\k<=1000000/\m.length<=10000))=aD:=by rw[b,j,decide_eq_true ⟨a,e,g⟩];rfl
 dsimp[aZ,Rv,n,T1 c]
def eN(h:f s=aA l)(b:fk s=aA (.int k))(g:JS s i=aA m)(a:CF m=aD)(e:MS l=aD)(d:Kn m.length k=aA j) :
  DJ i fk f s=aA (.L4 (s.set i (aA (.lst (m.set j l))))):=by
 delta DJ;rw[b,h];let c:(CF m&&MS l)=aD:=by rw[a,e];rfl
 dsimp[aZ,Rv,g,T1 c,d,dz]
def ha(h:f s=aA l)(p:fa s=aA (.int a))(d:fb s=aA (.int b))(t:JS s i=aA m)(k:Kn m.length a=aA j)(o:m[j]?=aA (.lst n))(r:CF n=aD)(e:MS l=aD)(q:Kn n.length b=aA c) :
  Hg i fa fb f s=aA (.L4 (s.set i (aA (.lst (m.set j (.lst (n.set c l))))))):=by
 delta Hg;rw[h,p,d];let g:(CF n&&MS l)=aD:=by rw[r,e];rfl
 dsimp[aZ,Rv,Tj,t,k,o,T1 g,q,dz]
def VC(h:k<n):Kn n (k:Int)=aA k:=by delta Kn;rw[An (),An ()];rfl
def PE(a:0<j)(h:j<=10000):Kk i j:=⟨a,()⟩
end _v
namespace _v
open PySem PySem.Spec PyProof.Rows _l
variable {K:aG}
def HR(K:aG):JO:=λx y H Q=>∃a b xs L9,x = .ref a/\y = .ref b/\CG K H a xs/\CG K H b L9/\xs.length+L9.length<=sizeLine/\
 (xs=[]->Q (.ref b) H)/\(L9=[]->Q (.ref a) H)/\∀p,H p=aB->Q (.ref p) (upd H p (.tup (xs++L9)))
def Yt:MU X (gS .Add) (HR X.K):=by
 ext N s O H x y v u Q I p o h;let⟨a,b,xs,C,rfl,rfl,q,k,z,F,D,G⟩:=h;by_cases g:xs=[]
 ·cases p;cases o;let⟨E,A,M,_⟩:=I.tuple q;let⟨c,P,p2,_⟩:=I.tuple k;let⟨⟨w,dd,r,L⟩,m,B,n,t⟩:=id M;let⟨⟨l,f,data2,i⟩,d,e,J,j⟩:=id p2;subst B t e j
  apply qW ⟨_,m,rfl⟩ ⟨_,d,rfl⟩ nA p7 kH kA (jd _ _)
   (tuple_addW0 a b E.toArray c.toArray n J dd f L i (by simp[A.k_.mpr g])) ⟨m,d,.ref b,H,I,rfl,F g⟩
 ·apply Ze4 _ _ _ _ _ _ _ _ _ I p o ⟨a,b,xs,C,rfl,rfl,q,k,g,z,D,λ_=>G⟩
def E1:PV->PV->Option PV
 | .tup m,.tup n=>if m.length+n.length<=10000 then aA (.tup (m++n)) else aB
 | _,_=>aB
def Yu:KD K (HR K) E1:=λH x y a b l j fb o h e Q k=>by
 cases a with
 | tup m=>cases b with
  | tup n=>
   let e:(if m.length+n.length<=10000 then aA (PV.tup (m++n)) else aB)=aA l:=e;split at e
   case isFalse=>cases e
   rename_i s;cases e;let⟨p,xs,rfl,v,g⟩:=o.b_;let⟨u,t,rfl,f,c⟩:=h.b_;show⟨p,u,xs,t,rfl,rfl,CG.of v,CG.of f,by rw[g.len,c.len];apply dR (lt_size s),λz=>?_,λz=>?_,λq i=>?_⟩
   ·let:=bV.mp (by rw[<-g.len,z];rfl);subst this;apply k _ _ fb (AJ.refl _) h λr d=>.inr (.inl d)
   ·let:=bV.mp (by rw[<-c.len,z];rfl);subst this;rw[bx] at k;apply k _ _ j (AJ.refl _) o λr d=>.inl d
   ·apply k _ _ (j++fb) (AJ.new i _) (Is.tup bh ((g.append c).mono (AJ.new i _))) λr d=>(aj.mp d).elim .inl λz=>.inr (.inl z)
  | _=>cases e
 | _=>cases e
end _v
namespace _v
open PySem
open PySem.Sem (wp)
open PySem.Builtin
def Qw:fillsNumberSlot (.type "tuple") "mul" = pure aC:=rfl
def R7:seqRepeat? (.type "tuple")=pure (aA (.builtin "tuple.__mul__")):=rfl
def Pw(a:Int)(t:si)(l:aP)(b:GD)(n:Nat)(dd:Co)(c:aau) :
  Meets (kM.«int.__rmul__» ⟨[.int a t,.ref l],[]⟩) (λ_ R s=>s.heap.get? l=aA { cls:=.type "tuple",dict:=dd,data:=.seq b n,slots:=c }/\R (.ok (.ret aI.notImplemented)) s):=
 .of_wp λprog w A R s h=>by let⟨f,g,d,tk,os⟩:=s;let⟨e,h⟩:=h;wp_walk;apply⟨_,rfl,h⟩
def W7(l:aP)(a:GD)(n:Nat)(dd:Co)(o:aau)(x:Int)(u:si)(p:1<x)(t:x<2^63)(c:a.isEmpty=aC)(i:a.size*x.toNat<=sizeLine)
  (b:GD) (f:nR (λk j=>k++j) #[] (aW x.toNat a)=b) (q:b.size<=sizeLine) :
  Meets (kM.«tuple.__mul__» ⟨[.ref l,.int x u],[]⟩) (λ_ R s=>s.heap.get? l=aA { cls:=.type "tuple",dict:=dd,data:=.seq a n,slots:=o }/\R (.ok (.ret (cZ s.heap.objs.size))) { s with heap:=s.heap.push { cls:=jH "tuple",data:=Data.seq b },toks:=s.toks }):=
 .of_wp λprog w A R s h=>by
  let⟨v,g,d,tk,os⟩:=s;let⟨r,h⟩:=h;let e:a.size*x.toNat<=2^40:=by rw[dh] at i;lia
  let m:(a.size:Int)*x=((a.size*x.toNat:Nat):Int):=by rw[Int.natCast_mul,j7 ()]
  wp_walk
  show jn (by simp;lia) ?_
  wp_walk
  show jn (by simp[c];lia) ?_
  wp_walk
  show jn (by simp[c];lia) ?_
  wp_walk
  show jn (decide_eq_false ()) ?_
  wp_walk
  show jn (decide_eq_false (by rw[m];delta Tuple.tupleTooMany;dsimp[decide_eq_true_eq];lia)) ?_
  wp_walk
  rw[f];apply⟨_,rfl,h⟩
def XN(l:aP)(a:GD)(n:Nat)(dd:Co)(b:aau)(u:si) :
  Meets (kM.«tuple.__mul__» ⟨[.ref l,.int 1 u],[]⟩) (λ_ R s=>s.heap.get? l=aA { cls:=.type "tuple",dict:=dd,data:=.seq a n,slots:=b }/\R (.ok (.ret (cZ l))) s):=
 .of_wp λprog w A R s h=>by
  let⟨e,g,d,tk,os⟩:=s;let⟨c,h⟩:=h
  wp_walk
  apply⟨_,rfl,h⟩
end _v
namespace _v
open PySem PySem.Spec PyProof.Rows _l
def HQ(K:aG):JO:=λx y H Q=>∃a k xs,x = .ref a/\y = .int k/\CG K H a xs/\xs≠[]/\1<=k/\k<2^62/\xs.length*k.toNat<=sizeLine/\
 (k=1->Q (.ref a) H)/\∀p,H p=aB->Q (.ref p) (upd H p (.tup (aW k.toNat xs).flatten))
def Z7:MU X (gS .Mult) (HQ X.K):=by
 ext R s S H x y v u Q I J C h;let⟨a,k,xs,rfl,rfl,M,L,T,W,f,E,N⟩:=h;cases J;let⟨t,rfl⟩:=C;let⟨c,g,P,_⟩:=I.tuple M;let⟨⟨w,dd,m,j⟩,d,z,n,p⟩:=id P;subst z p;let l:=g.length
 show mC rfl ⟨_,d,rfl⟩ (λA=>nQ A k t) Qw F.fills_int_mul F.slot_int_rmul R7 F.slot_int_index.lookup
  (iT F.slot_int_rmul (nQ s k t) F.entry_int_rmul (F.args_int_rmul_2 _ _) (Pw k t a c.toArray n dd j) ⟨d,rfl,⟨_,d,rfl⟩,?_⟩)
 by_cases O:k=1
 ·subst O;apply iT F.slot_tuple_mul ⟨_,d,rfl⟩ F.entry_tuple_mul (F.args_tuple_mul_2 _ _) (XN a c.toArray n dd j t) ⟨d,.ref a,H,I,rfl,E rfl⟩
 ·let i:c.toArray.isEmpty=aC:=by
   cases c with
   | nil=>apply absurd (g.k_.mp rfl) L
   | cons _ _=>rfl
  let r:nR (λD B=>D++B) #[] (aW k.toNat c.toArray)=(aW k.toNat c).flatten.toArray:=by let:=Qh c k.toNat [];apply this
  let G:(aW k.toNat c).flatten.length<=sizeLine:=by rw[Zm,qY,<-l];apply f
  show iT F.slot_tuple_mul ⟨_,d,rfl⟩ F.entry_tuple_mul (F.args_tuple_mul_2 _ _) (W7 a c.toArray n dd j k t () () i (by rw[aT,<-l];apply f) _ r (by rw[aT];apply G)) ⟨d,?_⟩;show⟨.ref s.heap.objs.size,_,I.laid (λb U q=>aH _ q) (aU _) ?_,rfl,N _ (I.L5.fresh (aU _))⟩;apply⟨⟨by rw[Zm,qY];apply f,λo e=>Qe e⟩,_,g.rep k.toNat,pQ _ _⟩
def Ni:PV->PV->Option PV
 | .tup m,.int k=>if CF m=aD/\m≠[]/\1<=k/\k<=1000000/\m.length*k.toNat<=10000 then aA (.tup (aW k.toNat m).flatten) else aB
 | _,_=>aB
def ZG{K:aG}:KD K (HQ K) Ni:=λH x y a b l j fb h i e Q k=>by
 cases a with
 | tup m=>cases b with
  | int n=>
   delta Ni at e;simp only at e;split at e
   case isFalse=>cases e
   rename_i c;cases e;let⟨p,xs,rfl,s,d⟩:=h.b_;show⟨p,n,xs,rfl,i.int_inv.1,CG.of s,λz=>c.2.1 (bV.mp (by rw[<-d.len,z];rfl)),c.2.2.1,(),by rw[d.len];apply dR (lt_size c.2.2.2.2),λz=>?_,λq g=>?_⟩
   ·subst z;let o:(aW (cX 1) m).flatten=m:=⋯
    rw[o] at k;apply k _ _ j (AJ.refl _) h λr f=>.inl f
   ·apply k _ _ [] (AJ.new g _) (Is.tup bh ((JX.rep (d.gg c.1) n.toNat).mono (AJ.new g _))) λr f=>by simp at f
  | _=>cases e
 | _=>cases e
end _v
namespace _p
open PySem _l _v
def Ll:XS:=(AQ (AN (AK Nd [Cy JZ (Cw 0) (Cw 1)])))
def BP:=CB 2 Ll
def Hm:=CB 5 (GP (Kg 1 (Mv []))
  (GP (GZ [1] (Lf aC [Cw 0]) (.many [2,3]) (GZ [1] (C3 [Cy YD (Cw 2) (AL (.int 1)),AK CD [Cw 0]]) (.one 4) (Bn 1 (AS 1 [2,4] (Ib [Cy JZ (Cw 3) (Cw 4)]) (.one 0) MV (AN (EM [Cw 1,Cw 2,Cw 0]))))))
  (AQ (Cw 1))))
def Aa:XS:=(AQ (AN (AK Nd [AS 2 [1,2] (Lf aC [Cy JZ (Cw 0) (Cw 2)]) (.many [0,1]) MV (Cy CU (Cw 1) (Cy Vc (Cy JZ (Cw 2) (Cw 0)) (Cy JZ (Cw 2) (Cw 3))))])))
def Nj:=CB 3 Aa
def F7:XS:=(AQ (AN (AK Ii [AS 2 [0,2] (Lf aC [Cw 1]) (.many [0,1]) MV (Cy YD (Cw 1) (AK Nj [Cw 2,Cw 3,Cw 0]))])))
def IC:=CB 3 F7
def B9:XS:=(AQ (AN (AK Ii [AS 2 [] (KI aC aC [Cw 0,Cw 1]) (.many [0,1]) MV (Cy YD (Cw 0) (Cw 1))])))
def Nk:=CB 2 B9
def Dq:=CB 2 (AQ (AN (AK Ii [AS 2 [] (KI aC aC [Cw 0,Cw 1]) (.many [0,1]) MV (Cy Vc (Cw 0) (Cw 1))])))
def ID:XS:=(AQ (AN (Cy JZ (Cy Hd (MW FZ (Cw 0) (AY (Cw 1)) (AY (Cy YD (Cw 1) (AL (.int 1))))) (Mv [AL (.int 0)])) (AL (.int 0)))))
def M8:=CB 2 ID
def Ln:XS:=(AQ (AN (Fp (AK Ja [Cw 0,AL (.ty "int")]) (DK (AK Ja [Cw 0,AL (.ty "bool")])))))
def FU:=CB 1 Ln
def BO:=CB 9 (GP (Kg 3 (Mv []))
  (GP (GZ [3,5] (Ib [Cw 2]) (.one 4) (GP (Bw 3 (Cy XG (Cw 1) (Cy YD (Cw 4) (AL (.int 1)))) (Cw 4))
  (Kg 1 (AN (Cy WU (Cw 1) (Cy YD (Cw 4) (AL (.int 1))))))))
  (GP (Kg 5 (AL (.L8 [] [])))
  (GP (Li 0 (.many [6,7]) (GP (Kg 8 (AN (EM [AK IT [Cy JZ (Cw 3) (Cw 6),Cy JZ (Cw 3) (Cw 7)],AK E6 [Cy JZ (Cw 3) (Cw 6),Cy JZ (Cw 3) (Cw 7)]])))
  (Nh 5 (Cw 8) (Cy C8 (Cw 0) (EM [Cw 6,Cw 7])))))
  (AQ (Cw 5))))))
def DF:=CB 10 (GP (Kg 4 (AL (.L8 [] [])))
  (GP (Kg 5 (Mv [AN (AL (.int 0))]))
  (GP (GZ [4,5] (Ib [Cw 1]) (.one 6) (GZ [4,5] (C3 [Cy YD (Cw 6) (AL (.int 1)),Cw 1]) (.one 7) (GP (Kg 8 (AN (AK IT [Cy CU (Cy XG (Cw 0) (AL (.int 2))) (Cy YD (AL (.int 1)) (Cy XG (Cy WU (Cw 0) (AL (.int 2))) (Cw 3))),Cw 2])))
  (GP (Kg 0 (AN (Cy JZ (Mv [Cy WU (Cw 0) (AL (.int 2)),Cy WU (Cy WU (Cw 0) (AL (.int 2))) (Cw 3)]) (Cy XG (Cw 0) (AL (.int 2))))))
  (EI (AO (Cy E3 (Cw 8) (AL (.int 0)))) (GP (Nh 4 (EM [Cw 6,Cw 7]) (Cw 8))
  (Kg 2 (AN (Cy Vc (Cw 2) (Cw 8))))) GX)))))
  (GP (GZ [4,5] (Ib [Cw 1]) (.one 9) (KQ [4,5] 4 (.many [6,7]) (GP (EI (KJ (AO (Cy (J7 aC) (Cw 6) (Cw 5))) (AO (Cy (J7 aD) (Cw 7) (Cw 5)))) (KR 5 (AN (Cw 7))) GX)
  (EI (KJ (AO (Cy (J7 aC) (Cw 7) (Cw 5))) (AO (Cy (J7 aD) (Cw 6) (Cw 5)))) (KR 5 (AN (Cw 6))) GX))))
  (KS 4 (AK IH [Cy (J1 aC) (AK CD [Cw 5]) (Cw 1)]))))))
def LR:=CB 5 (GP (Kg 2 (AS 1 [1] (Ib [Cw 1]) (.one 0) MV (Cy Fh (Mv [AL (.int 0)]) (Cw 1))))
  (GP (Li 0 (.many [3,4]) (GP (Hg 2 (Cw 3) (Cw 4) (Cy C8 (Cw 0) (EM [Cw 3,Cw 4])))
  (Hg 2 (Cw 4) (Cw 3) (Cy C8 (Cw 0) (EM [Cw 3,Cw 4])))))
  (AQ (AN (AK Ii [AS 1 [] (G6 (Cw 2)) (.one 0) MV (AK Ii [Cw 0])])))))
def ME:=CB 2 (AQ (AN (Fp (AK Ja [Cw 0,AL (.ty "tuple")]) (Fp (Cy (J1 aC) (AK CD [Cw 0]) (Cw 1)) (AK G8 [AS 1 [] (KW (Cw 0)) (.one 0) MV (AK FU [Cw 0])])))))
end _p
namespace _v
open PySem PySem.Spec PyProof.Rows _l
def Bk(f:XE):XL:=λs=>match G6 f s with
 | some m=>aA m
 | none=>KW f s
def Zn2(q:f s=aA (.lst l)):Bk f s=aA l:=by delta Bk G6;rw[q];rfl
def M4:List Int->Int
 | []=>0
 | [x]=>x
 | x::y::r=>if M4 (y::r)<x then M4 (y::r) else x
def Qx:∀{l:Gj},l≠[]->M4 l∈l/\∀x∈l,M4 l<=x
 | [],h=>absurd rfl h
 | [x],_=>by simp[M4]
 | x::y::r,_=>by
  let⟨a,b⟩:=Qx (l:=y::r) ⋯;delta M4;split
  ·rename_i h;show⟨aS _ a,λz c=>?_⟩;rcases aY.mp c with rfl | c
   ·lia
   ·apply b z c
  ·rename_i h;show⟨⋯,λz c=>?_⟩;rcases aY.mp c with rfl | c
   ·lia
   ·let:=b z c;lia
def zt(h:m∈l)(g:∀x∈l,m<=x):M4 l=m:=by
 let⟨a,b⟩:=Qx (l:=l) (by ext z;subst z;simp at h);let:=b m h;let:=g _ a
 lia
def SM(val:Ka):∀k,jo (λi j=>decide (val i<val j)) k<=k/\∀j,j<=k->val (jo (λi j=>decide (val i<val j)) k)<=val j
 | 0=>⟨aU _,λj c=>by rw[Nat.le_zero.mp c];apply cz _⟩
 | k+1=>by
  let⟨a,b⟩:=SM val k;delta jo;split
  ·rename_i h;let h:=of_decide_eq_true h;show⟨aU _,λj c=>?_⟩;by_cases e:j=k+1
   ·subst e;apply cz _
   ·let:=b j ();lia
  ·rename_i h;let h:¬_:=λz=>h (decide_eq_true z);show⟨(),λj c=>?_⟩;by_cases e:j=k+1
   ·subst e;lia
   ·apply b j ()
def ML(f:List Int->Int)(K:aG):List V->Hp->Me->Prop:=λxs H Q=>∃(b:Bool) (p:aP) (ns:Gj),xs=[.ref p]/\ns≠[]/\Mr b K H p (ns.map V.int)/\Q (.int (f ns)) H
section
variable {X:Cx}
def TA(D:X.calm=aD):Ie X (.builtin "min") (ML M4 X.K):=by
 ext T s U H xs S Q I r h;let⟨b,p,ns,rfl,w,G,q⟩:=h;let⟨u,rfl,M⟩:=Vy r;cases M;let⟨n,y,a,W⟩:=I.CM G;let C:=let⟨_,e⟩:=a.has;aV e;let l:=y.length;rw[aJ] at l;let m:=j8.mpr w
 let d:∀(i:Nat)(v:aI),n.toArray[i]?=aA v->∃t,v=fT (ns.getD i 0) t:=λi v k=>by
  let k:n[i]?=aA v:=by simpa using k
  let L:i<ns.length:=by rw[l];apply(aQ.mp k).1
  let⟨u,z,P⟩:=y.get (i:=i) (x:=.int ns[i]) ⋯;rw[k] at z;cases z;let⟨t,rfl⟩:=P;show⟨t,?_⟩;rw[aK,aF L];rfl
 show call_min_walk (Ym a ?_);show⟨_,_,_,_,_,_,λi j=>decide (ns.getD i 0<ns.getD j 0),rfl,Walks.CM (A:=X.A.in1) b (I.ok.hd D) s.heap.objs.size p (bC C) n.toArray,⟨J8.new (aX _ rfl),a.at λo e=>aH _ e⟩,λc g=>?_,by rw[aT,<-l];apply m,su (λi=>ns.getD i 0) d,λv h' tk k R=>?_⟩
 ·change c<(s.heap.push _).objs.size;rw[dH];rcases aY.mp g with rfl | g
  ·apply iK _
  ·rw[aO.mp g];apply fN C
 ·let⟨t,rfl⟩:=d _ _ k;let⟨E,B⟩:=SM (λi=>ns.getD i 0) (n.toArray.size-1);rw[aT,<-l] at E B
  let e:M4 ns=ns.getD (jo (λi j=>decide (ns.getD i 0<ns.getD j 0)) (n.toArray.size-1)) 0:=by
   rw[aT,<-l];show zt ?_ λx O=>?_
   ·rw[aK,aF ()];apply bw _
   ·let⟨j,N,F⟩:=cW O;let:=B j ();rw[aK (i:=j),aF N,F] at this;apply this
  show⟨.int (M4 ns),H,I.kept (λc o f=>R c o ?_ (aH _ f)),⟨t,by rw[e]⟩,q⟩;ext J;rw[aO.mp J] at f;apply absurd (aV f) (cR _)
end
def Ds(f:List Int->Int):List PV->Option PV
 | [l]=>(Fo l).bind λm=>(J9 m).bind λns=>if ns=[] then aB else aA (.int (f ns))
 | _=>aB
abbrev Ziu:List PV->Option PV:=Ds M4
def Zf6{K:aG}(f:List Int->Int):Ir K (ML f K) (Ds f):=λH vs ls l t h e Q k=>by
 delta Ds at e;split at e
 ·let⟨m,q,n⟩:=Zc e;let⟨ns,j,c⟩:=Zc n;split at c
  ·cases c
  ·rename_i a;cases c;let⟨v,rfl,i⟩:=h.c0;let⟨p,xs,s,rfl,d,o,hs⟩:=Ug i q;let r:=Yn j;subst r;let⟨rfl,rfl⟩:=o.iL;let⟨b,g⟩:=VT d;apply⟨b,p,ns,rfl,a,g,k _ H [] (AJ.refl H) (Is.int _) λp d=>by simp at d⟩
 ·cases e
def Zf7{K:aG}:Ir K (ML M4 K) Ziu:=Zf6 M4
def Zf8(f:List Int->Int)(h:l≠[]):Ds f [pP l]=aA (.int (f l)):=by change(J9 (iL l)).bind _=_;rw[Z5];dsimp[aZ];rw[N4 h]
noncomputable def sortI(l:Gj):List Int:=l.mergeSort λa b=>decide (a<=b)
def sortI_perm(l:Gj):(sortI l).Perm l:=pV l _
def WG(l:Gj):(sortI l).Pairwise (·<=·):=by let:=nB (le:=λa b:Int=>decide (a<=b)) (λa b c e d=>by dsimp[decide_eq_true_eq] at *;lia) (λa b=>by dsimp[jq,decide_eq_true_eq];lia) l;apply this.imp λh=>of_decide_eq_true h
def iz(e:m.Perm l)(hs:m.Pairwise (·<=·)):m=sortI l:=
 m4 (λa b _ _ d c=>Int.le_antisymm d c) hs (WG l) (e.trans (sortI_perm l).symm)
def Us:∀{us:Gr}{ns:Gj},jA us ns->Gp (ns.map V.int) us
 | _,_,.nil=>.nil
 | _,_,.cons n t h=>.cons ⟨t,rfl⟩ (Us h)
def Hb:XS:=λ_=>aB
def U9{O W:N6}{st:cD}:MX X O W st Hb:=by ext a s b H D I h;let⟨_,_,_,_,_,q,_⟩:=h;cases q
def PU:∀(us:Gr)(k:Nat),(∀(i:Nat)(v:aI),us[i]?=aA v->∃t,v=fT ((k+i:Nat):Int) t)->Gp ((aL (la us)).map λi=>V.int ((k+i:Nat):Int)) us
 | [],k,_=>.nil
 | u::us,k,h=>by
  let⟨t,rfl⟩:=h 0 u rfl;rw[bH,iV,ak,bS];show .cons ⟨t,rfl⟩ ?_;let:=PU us (k+1) λi v a=>by let⟨t,e⟩:=h (i+1) v (~~~a);apply⟨t,by rw[e];congr 2;lia⟩
  show Eq.mp (congrArg (λl=>Gp l us) (aq λi _=>?_)) this;change V.int _=V.int _;congr 2;lia
def HZ(Et:Az):TE:=λσ H Q=>Et σ H λvs H1=>∃j:Nat,vs=[.int (j:Int)]/\j<=10000/\∀l,H1 l=aB->Q (.ref l) (upd H1 l (.lst ((aL j).map λ(i:Nat)=>V.int (i:Int))))
section
variable {X:Cx} {a:bT} {Et:Az} {p p2 pos g5:g6}
def Y1(C:X.calm=aD)(m:Gl X "list")(k:X.mg "list" = aB)(f:Gl X "range")(u:X.mg "range" = aB)(J:MY X [a] Et)(hs:aN [a] X.env=[(aC,eval a X.env)]|>On)
  (x:aN [.Call (.Name "range" p2) [a] [] g5] X.env=(aC,eval (.Call (.Name "range" p2) [a] [] g5) X.env)::aN [] X.env|>On) (g:(ck pos (aN [] X.env)).any (·.1)=aC|>On) :
  JY X (.Call (.Name "list" p) [.Call (.Name "range" p2) [a] [] g5] [] pos) (HZ Et):=by
 ext y s z H Q I h;show cU (Xv I m k rfl ?_);show cJ ?_ x g;show jw ?_;show sy (Xv I f u sI (cJ (Z8 (J g5 y s z H _ I h) λM s1 ⟨vs,O,E,B,F⟩=>?_) hs rfl));let⟨j,e,N,q⟩:=F;subst e
 cases B with
 | cons r Mn=>
  cases Mn;let⟨t,rfl⟩:=r;show call_range_1 (kF ?_);let GC:sizeLine=2^24:=rfl;show call_list_range (n:=j) (I.ok.hd C) (tI ..) (small_one () () () ()) (by rw[rangeSize_one];split<;>lia) () λh' tk c G L A d=>?_;let w:=E.kept (t':=s1.toks+1+1) (h':=s1.heap.push { cls:=.type "range",data:=.fields #[.int 0 s1.toks,.int (j:Int) t,.int 1 (s1.toks+1)] }) λb o e=>aH _ e;show⟨.ref _,_,w.laid L (aU _) (show J6 X.prog X.w _ _ _ (.lst ((aL j).map λ(i:Nat)=>V.int (i:Int))) from⟨by simp;lia,c.toList,G,?_,?_⟩),rfl,q _ (w.L5.fresh (aU _))⟩
  ·let:=PU c.toList 0 λi v D=>by let⟨t',e⟩:=d.2 i v (~~~D);apply⟨t',by rw[e];congr 1;lia⟩
   rw[bW,d.1] at this;show Eq.mp (congrArg (λl=>Gp l c.toList) (aq λi _=>?_)) this;congr 2;lia
  ·rw[ko];apply A
end
def K5:PV->Option PV
 | .int k=>if 0<=k/\k<=10000 then aA (.lst (iL ((aL k.toNat).map λ(i:Nat)=>(i:Int)))) else aB
 | _=>aB
def QP(t:X.calm=aD)(g:Gl X "list")(f:X.mg "list" = aB)(c:Gl X "range")(h:X.mg "range" = aB)(v:JW X a fa)(hs:aN [a] X.env=[(aC,eval a X.env)]|>On)
  (m:aN [.Call (.Name "range" p2) [a] [] g5] X.env=(aC,eval (.Call (.Name "range" p2) [a] [] g5) X.env)::aN [] X.env|>On) (d:(ck pos (aN [] X.env)).any (·.1)=aC|>On) :
  AU X (.Call (.Name "list" p) [.Call (.Name "range" p2) [a] [] g5] [] pos) (A6 K5 fa):=
 JY.imp (Y1 t g f c h (Y4 v Ue hs) hs m d)<|by
  ext B H Q ⟨s,l,env,e,k⟩;let⟨x,A,b⟩:=Zc e;show⟨λ_=>False,s,[x],λ_ z=>z.elim,env,by change(fa s).bind _=_;rw[A];rfl,λvs D C s1 o _=>?_⟩;let⟨w,rfl,n⟩:=o.c0
  cases x with
  | int kk=>
   delta K5 at b;simp only at b;split at b
   case isFalse=>cases b
   rename_i E;cases b;show⟨kk.toNat,by rw[n.int_inv.1];congr 2;lia,(),λq j=>?_⟩;let u:(aL kk.toNat).map (λ(i:Nat)=>V.int (i:Int))=((aL kk.toNat).map λ(i:Nat)=>(i:Int)).map V.int:=by rw[bS];rfl
   rw[u];show k _ _ [q] (s1.trans (AJ.new j _)) (Is.lst bh (JX.ofInts _)) ⋯ λr y=>?_;rw[aO.mp y];apply⟨AJ.off s1 j,by rw[bh];apply cK⟩
  | _=>cases b
variable {K:aG}
def Jc(i j:Int):Prop:=i.natAbs.log2<67108863/\j.natAbs.log2<67108863
def IE(i j:Int):Prop:=j≠0/\j.natAbs.log2<9000
instance (i j:Int):Decidable (Jc i j):=by delta Jc;infer_instance
instance (i j:Int):Decidable (IE i j):=by delta IE;infer_instance
def qb(i:Int):j9 i<=i.natAbs.log2+1:=by
 delta j9;split
 ·apply dM _
 ·apply aU _
def Jc.ok(h:Jc i j):IntMulOk i j:=by
 delta IntMulOk kM.Int.intTooBig;let c:=qb i;let a:=qb j;let d:=h.1;let b:=h.2
 have:decide (((j9 i:Int)+(j9 j:Int))>(bitsLine:Int))=aC:=decide_eq_false (by
  let e:(bitsLine:Int)=134217728:=rfl;rw[e];lia)
 rw[this];simp
section
variable {X:Cx} {a b:bT} {fa fb:XE} {pos:g6}
def Zf9:MU X (gS .Mult) (IP Jc λi j=>.int (i*j)):=vR λ_ _ _ _ _ _ _ a q=>mul_int q a.ok
def Zbk:MU X (gS .FloorDiv) (IP IE λi j=>.int (i.fdiv j)):=vR λ_ _ _ _ _ _ _ a q=>floordiv_int a.1 q (.inl (PyProof.noPylong_of_log2 a.2))
abbrev zO:=A9 Jc (· * ·)
abbrev zN:=A9 IE Int.fdiv
def Vm(d:JW X a fa)(c:JW X b fb):JW X (.BinOp a .Mult b pos) (Cy zO fa fb):=Yv Zf9 (xk _ _) d c
def n7(d:JW X a fa)(c:JW X b fb):JW X (.BinOp a .FloorDiv b pos) (Cy zN fa fb):=Yv Zbk (xk _ _) d c
end
def Vf:∀{ns:Gj}{n:Int},n∈ns->n.natAbs.log2<=nC (ns.map .int)
 | m::r,n,h=>by
  rw[ak];dsimp[nC,PySem.W.WData.weight];rcases aY.mp h with rfl | h
  ·by_cases a:n=0
   ·subst a;have:Nat.log2 (Int.natAbs 0)=0:=by decide +kernel
    lia
   ·rw[N4 (~~~a)];lia
  ·let:=Vf h
   lia
end _v
namespace _v
open PySem PySem.Spec PyProof.Rows _l
variable {K:aG}
section
variable {X:Cx} {e st:bT} {JN:TE} {ts:TO} {pos p2:g6} {fa:XE}
def JX.rev:∀{l:List PV}{xs:List V},JX K H l xs []->JX K H l.reverse xs.reverse []
 | [],xs,h=>by dsimp[JX] at h;rw[h.1];apply JX.nil
 | a::r,xs,h=>by let⟨x,t,f1,b,rfl,e,c,d⟩:=h.inv;obtain⟨rfl,rfl⟩:f1=[]/\b=[]:=List.append_eq_nil_iff.mp d.symm;rw[jB,jB];apply JX.append (JX.rev c) (JX.one e)
end
end _v
namespace _v
open PySem PySem.Spec PyProof.Rows _l
def F8(i:Nat)(f0:XE):XS:=λs=>(f0 s).bind λl0=>match s[i]? with
 | some (aA l)=>if MS l0=aD then aA (.Cj (.tup [l0,l])) else aB
 | _=>aB
def Zbo(f:JY X e (JA (Dz (GY X.K f0) (Dz (KO i) CJ))))(b:i∈O|>Op):MX X O [] (.Return (aA e) pos) (F8 i f0):=AV.imp (PI f)<|by
 ext D y H ⟨A,bD,s,n,r,e,k⟩;let⟨u,g,e⟩:=Zc e;split at e
 case h_2=>cases e
 rename_i l w;split at e
 case isFalse=>cases e
 rename_i x;cases e;let⟨v,m,o⟩:=r.is i _ w;show⟨λ_=>False,s,u,λ_ z=>z.elim,r.env,g,λt c f1 s1 a _=>?_⟩;let:=Is.pure _ _ _ x a;subst this;show⟨v,m,(by change 2<=sizeLine;decide),λq p=>?_⟩;let sn:AJ c (upd c q (.tup [t,v])):=AJ.new p _;let d:=r.grow s1;show k _ (bD i) _ (d.same.trans sn) (Is.tup bh ?_) (r.nd i b) λz h=>?_
 ·let j:=JX.cons (a.mono sn) (JX.one ((o.mono s1).mono sn));simpa using j
 ·let:=d.own i b z h;apply⟨this.1,AJ.mut sn this.2⟩
end _v
namespace _p
open PySem _l _v
def FT:=CB 3 (AQ (AN (AK Nd [AS 1 [0,1] (Bk (Cw 2)) (.one 0) MV (Cy JZ (Cy JZ (Cw 1) (Cw 2)) (Cw 0))])))
def Hj:=CB 5 (GP (GZ [] (Lf aC [Cw 1]) (.many [3,4]) (EI (KJ (AO (Cy (J7 aD) (Cw 3) (Cw 2))) (AO (Cy CV (Cw 4) (AK FT [Cw 0,Cw 3,Cw 2])))) (AQ (AN (Cw 3))) GX))
  (AQ (AN (AL .Ma))))
def Nw:=CB 5 (GP (Kg 3 (Mv [AN (Cw 2)]))
  (GP (Kg 4 (AK Hj [Cw 0,Cw 1,Cw 3]))
  (GP (K9 (AO (C9 aD (Cw 4))) (GP (KR 3 (AN (Cw 4)))
  (Kg 4 (AK Hj [Cw 0,Cw 1,Cw 3]))))
  (AQ (Cw 3)))))
def Jj:=CB 2 (AQ (AS 2 [1] (Lf aC [Cw 0]) (.many [0,1]) (KJ (AO (Cy (J1 aD) (Cw 0) (Cw 2))) (AO (Cy CV (Cw 1) (AL (.int 0))))) (AN (Cw 0))))
def LS:=CB 4 (AQ (AN (AK Ii [AS 2 [3,1,2,0] (KI aC aC [Cw 0,Cw 1]) (.many [0,1]) MV (Cy zN (Cy Vc (Cy zO (Cy JZ (Cw 3) (Cw 4)) (Cw 0)) (Cy zO (Cy JZ (Cw 5) (Cw 4)) (Cw 1))) (Cw 2))])))
def IG:XS:=(GP (Kg 1 (AK MD [Cw 0]))
  (GP (Kg 2 (AN (AL (.int 1))))
  (GP (GZ [1] (Ib [AK CD [Cw 0]]) (.one 3) (GP (Kg 4 (AN (Cy JZ (Cw 1) (Cw 3))))
  (GP (Kg 1 (AS 2 [3,4,2] (Lf aD [Cw 1]) (.many [0,1]) MV (AN (CW (AO (Cy (J1 aC) (Cw 0) (Cw 2))) (Cw 1) (AK LS [Cw 1,Cw 3,Cw 2,Cw 4])))))
  (Kg 2 (AN (Cy JZ (Cw 4) (Cw 3)))))))
  (F8 1 (Cw 2)))))
def Bt:=CB 5 IG
def Jw:=CB 3 (GP (Kg 2 (AK Bt [AS 2 [] (KI aC aC [Cw 0,Cw 1]) (.many [0,1]) MV (Cy E1 (Cw 0) (EM [Cw 1]))]))
  (AQ (AS 1 [2] (G6 (Cy JZ (Cw 2) (AL (.int 1)))) (.one 0) MV (AN (Cy zN (Cy JZ (Cw 0) (A6 K4 (AL (.int 1)))) (Cy JZ (Cw 1) (AL (.int 0))))))))
def Nn:=CB 3 (AQ (AN (AK Ii [AS 1 [1,0] (G6 (Cw 2)) (.one 0) MV (CW (AO (Cy (J1 aC) (Cw 0) (Cw 1))) (AK BP [Cw 2,Cw 1]) (A6 K4 (Cy JZ (Cy JZ (Cw 2) (Cw 1)) (Cw 0))))])))
def MH:=CB 3 (GP (Kg 2 (AS 1 [1] (Ib [AK CD [Cw 0]]) (.one 0) (AO (Cy (J1 aD) (Cw 0) (Cw 1))) (AN (Cw 0))))
  (AQ (AN (AK Ii [AS 1 [0,2] (G6 (Cw 2)) (.one 0) MV (AK Nn [Cw 1,Cw 0,Cw 2])]))))
def HC:=CB 5 (GP (Kg 3 (AN (Cy E1 (MW G7 (Cw 1) CP (AY (Cw 2))) (MW G7 (Cw 1) (AY (Cy YD (Cw 2) (AL (.int 1)))) CP))))
  (GP (Kg 4 (AK Jw [AK MH [Cw 0,Cw 2],Cw 3]))
  (GP (Bw 4 (Cw 2) (AL (.int 0)))
  (AQ (AN (AK Ii [Cw 4]))))))
def B3:=CB 2 (AQ (AN (AK Ii [AS 1 [1] (Ib [AK CD [Cw 0]]) (.one 0) MV (CW (AO (Cy (J7 aC) (Cw 0) (Cw 1))) (A6 K4 (AL (.int 1))) (AL (.int 0)))])))
def Dv:XS:=(GP (Kg 1 (AN (AK Ziu [Cw 0])))
  (AQ (AN (AK Ii [AS 1 [1] (KW (Cw 0)) (.one 0) MV (Cy Vc (Cw 0) (Cw 1))]))))
def MJ:=CB 2 Dv
def FV:=CB 7 (GP (Kg 3 (AK HC [Cw 0,Cw 1,Cw 2]))
  (GP (Kg 4 (AK IC [Cw 0,Cw 1,Cw 3]))
  (GP (Kg 5 (AK Jj [Cw 4,Cw 2]))
  (GP (K9 (AO (Cy E3 (AK CD [Cw 5]) (AL (.int 0)))) (GP (Kg 6 (AK B3 [Cw 0,Cw 5]))
  (GP (Kg 3 (AK Nk [Cw 3,Cw 6]))
  (GP (Kg 4 (AK IC [Cw 0,Cw 4,Cw 6]))
  (Kg 5 (AK Jj [Cw 4,Cw 2]))))))
  (AQ (EM [AK MJ [Cw 3],AN (Cw 4),AK Nw [Cw 0,Cw 4,Cw 2]]))))))
end _p
namespace _l
open PySem PySem.Spec PyProof.Rows
abbrev WJ:=aP->fE->List (List JL×V)->It
end _l
namespace _v
open PySem PySem.W PyProof.Rows
def M7(r:Ka)(n:Nat){α:Type}:KasT α->(α->Prop)->Prop
 | .ret a,Q=>Q a
 | .ask i j k,Q=>i<n/\j<n/\M7 r n (k (decide (r i<r j))) Q
def WN:∀{t:KasT α},M7 r n t (λa=>M7 r n (g a) Q)->M7 r n (t.bind g) Q
 | .ret a,h=>h
 | .ask i j k,h=>⟨h.1,h.2.1,WN h.2.2⟩
def Xy{n:Nat}{b:Type}{Q c:b->Prop}(d:∀a,Q a->c a):∀{t:KasT b},M7 r n t Q->M7 r n t c
 | .ret a,h=>d a h
 | .ask i j k,h=>⟨h.1,h.2.1,Xy d h.2.2⟩
def T8{n:Nat}{c:Type}{b:Nat->Nat->(Bool->aR->Prop)->aR->Prop}{Q:c->Prop}{d:c->aR->Prop}{s:aR}
  (e:∀i j,i<n->j<n->∀C:Bool->aR->Prop,C (decide (r i<r j)) s->b i j C s) (f:∀a,Q a->d a s):∀{t:KasT c},M7 r n t Q->t.kasWp b d s
 | .ret a,h=>f a h
 | .ask i j k,h=>e i j h.1 h.2.1 _ (T8 e f h.2.2)
section
variable {r:Ka} {n:Nat}
noncomputable def Y2(p:aaa)(i:Nat):Nat:=p.getD i 0
structure Pm(n:Nat)(p:aaa):Prop where
 GC:p.size=n
 lt:∀i,i<n->Y2 p i<n
 inj:∀i j,i<n->j<n->Y2 p i=Y2 p j->i=j
def Lg(r:Ka)(p:aaa)(m:Nat):Prop:=∀i j,i<j->j<m->r (Y2 p i)<r (Y2 p j)
def Dn(r:Ka)(p:aaa)(m:Nat):Prop:=∀i j,i<j->j<m->r (Y2 p j)<r (Y2 p i)
def Xa(p:aaa)(i:Nat):Y2 p i=(p[i]?).getD 0:=by delta Y2;apply Array.getD_eq_getD_getElem?
def Pm.ne(h:Pm n p)(d:∀i j,i<n->j<n->r i=r j->i=j)(b:i<n)(c:j<n)(a:i≠j):r (Y2 p i)≠r (Y2 p j):=λz=>a (h.inj i j b c (d _ _ (h.lt i b) (h.lt j c) z))
def Lg.snoc(h:Lg r p m)(d:1<=m)(b:r (Y2 p (m-1))<r (Y2 p m)):Lg r p (m+1):=λi j a c=>by
 by_cases q:j<m
 ·apply h i j a q
 ·have:j=m:=()
  subst this;by_cases z:i=j-1
  ·subst z;apply b
  ·let:=h i (j-1) () ()
   lia
def Dn.snoc(h:Dn r p m)(d:1<=m)(b:r (Y2 p m)<r (Y2 p (m-1))):Dn r p (m+1):=λi j a c=>by
 by_cases q:j<m
 ·apply h i j a q
 ·have:j=m:=()
  subst this;by_cases z:i=j-1
  ·subst z;apply b
  ·let:=h i (j-1) () ()
   lia
def Zp{p:aaa}(b:Pm n p)(c:∀i j,i<n->j<n->r i=r j->i=j):∀(f m:Nat),1<=m->m+f=n->Lg r p m->M7 r n (kas_asc p f m) λa=>m<=a/\a<=n/\Lg r p a/\(a=n\/r (Y2 p a)<r (Y2 p (a-1)))
 | 0,m,Es,hm,Ax=>⟨aU _,(),Ax,.inl ()⟩
 | f+1,m,Es,hm,Ax=>by
  show⟨b.lt m (),b.lt (m-1) (),?_⟩;change M7 r n (if decide (r (Y2 p m)<r (Y2 p (m-1)))=aD then tO m else kas_asc p f (m+1)) _;by_cases q:r (Y2 p m)<r (Y2 p (m-1))
  ·rw[An (decide_eq_true q)];apply⟨aU _,(),Ax,.inr q⟩
  ·rw[N4 (by rw[decide_eq_false q];apply br)];let ne:=b.ne c (show m<n by lia) (show m-1<n by lia) ();apply Xy (λa h=>⟨(),h.2⟩) (Zp b c f (m+1) () () (Ax.snoc Es ()))
def SN{p:aaa}(a:Pm n p)(b:∀i j,i<n->j<n->r i=r j->i=j):∀(f m:Nat),1<=m->m+f=n->Dn r p m->M7 r n (kas_desc f p m 0) λx=>x.1=p/\x.2.2=0/\m<=x.2.1/\x.2.1<=n/\Dn r p x.2.1
 | 0,m,Es,hm,Ax=>⟨rfl,rfl,aU _,by change m<=n;lia,Ax⟩
 | f+1,m,Es,hm,Ax=>by
  show⟨a.lt m (),a.lt (m-1) (),?_⟩;let ne:=a.ne b (show m<n by lia) (show m-1<n by lia) ();by_cases q:r (Y2 p m)<r (Y2 p (m-1))
  ·change M7 r n (if decide (r (Y2 p m)<r (Y2 p (m-1)))=aD then(if 0>0 then _ else kas_desc f p (m+1) 0) else _) _;rw[An (decide_eq_true q),N4 ()];apply Xy (λx h=>⟨h.1,h.2.1,(),h.2.2.2⟩) (SN a b f (m+1) () () (Ax.snoc Es q))
  ·let c:r (Y2 p (m-1))<r (Y2 p m):=()
   change M7 r n (if decide (r (Y2 p m)<r (Y2 p (m-1)))=aD then _ else KasT.ask (p.getD (m-1) 0) (p.getD m 0) λd=>if d=aD then .ret (p,m,0) else kas_desc f p (m+1) (0+1)) _;rw[N4 (by rw[decide_eq_false q];apply br)];show⟨a.lt (m-1) (),a.lt m (),?_⟩;change M7 r n (if decide (r (Y2 p (m-1))<r (Y2 p m))=aD then tO (p,m,0) else _) _;rw[An (decide_eq_true c)];apply⟨rfl,rfl,aU _,by change m<=n;lia,Ax⟩
def Sw(a:m<=p.size)(i:Nat):Y2 (kas_rev p 0 m) i=if i<m then Y2 p (m-1-i) else Y2 p i:=by
 rw[Xa];delta kas_rev;rw[getElem?_mirror_all a];by_cases q:i<m
 ·rw[An ⟨dM _,q⟩,An q,Xa,lQ]
 ·rw[N4 (),N4 q,Xa]
def Pm.rev(h:Pm n p)(d:m<=n):Pm n (kas_rev p 0 m):=by
 let e:=λi=>Sw (by rw[h.GC];apply d) i;show⟨by rw[kas_rev_size];apply h.GC,λi b=>?_,λi j b c a=>?_⟩
 ·rw[e];split
  ·apply h.lt _ ()
  ·apply h.lt _ b
 ·rw[e,e] at a;split at a
  ·split at a
   ·let:=h.inj _ _ () () a;lia
   ·let:=h.inj _ _ () () a;lia
  ·split at a
   ·let:=h.inj _ _ () () a;lia
   ·apply h.inj _ _ b c a
def Dn.rev(h:Pm n p)(d:m<=n)(a:Dn r p m):Lg r (kas_rev p 0 m) m:=λi j c b=>by let e:=λi=>Sw (by rw[h.GC];apply d) i;rw[e,e,An b,An ()];apply a _ _ () ()
def BS(r:Ka)(n:Nat)(x:Nat×Array Nat):Prop:=1<=x.1/\x.1<=n/\Pm n x.2/\Lg r x.2 x.1
def VK(a:Pm n p)(e:∀i j,i<n->j<n->r i=r j->i=j){m:Nat}(d:1<=m)(b:m<=n)(c:Dn r p m):M7 r n (kas_tail3 m n p) (BS r n):=by show WN (Xy (λf h=>?_) (Zp (a.rev b) e (n-m) m d () (Dn.rev a b c)));apply⟨(),h.2.1,a.rev b,h.2.2.1⟩
def Sn{p:aaa}(b:Pm n p)(c:∀i j,i<n->j<n->r i=r j->i=j)(m:2<=n)(d:r (Y2 p 1)<r (Y2 p 0)):M7 r n (kas_descPart 1 n p) (BS r n):=by
 let e:Dn r p 2:=λi j g l=>by
  have:i=0:=()
  have:j=1:=()
  subst i j;apply d
 show WN (Xy (λx h=>?_) (SN b c (n-(1+1)) (1+1) () () e));let⟨rfl,f,o,k,a⟩:=h;rw[f];apply VK b c () k a
def XK{p:aaa}(a:Pm n p)(f:∀i j,i<n->j<n->r i=r j->i=j)(s:1<=n):M7 r n (kas_count n p) (BS r n):=by
 show WN (Xy (λm h=>?_) (Zp a f (n-1) 1 () () λi j l o=>()));let⟨k,e,d,b⟩:=h;by_cases q:m=n
 ·rw[An (by simp[q])];apply⟨k,e,a,d⟩
 ·rw[N4 (by simp[q])];let c:=by apply b.resolve_left q
  by_cases g:m>1
  ·rw[An g];show⟨a.lt 0 (),a.lt (m-1) (),?_⟩;change M7 r n (if decide (r (Y2 p 0)<r (Y2 p (m-1)))=aD then tO (m,p) else _) _;rw[An (decide_eq_true (d 0 (m-1) () ()))];apply⟨k,e,a,d⟩
  ·rw[N4 g];have:m=1:=()
   subst this;apply Sn a f () c
def Qz(e:Pm n p)(s:∀i j,i<n->j<n->r i=r j->i=j)(g:k<n)(o:Lg r p k):∀(f a b:Nat),a<=b->b<=k->b-a<=f->(∀i,i<a->r (Y2 p i)<r (Y2 p k))->(∀i,b<=i->i<k->r (Y2 p k)<r (Y2 p i))->
   M7 r n (rJ p k f a b) λl=>l<=k/\(∀i,i<l->r (Y2 p i)<r (Y2 p k))/\∀i,l<=i->i<k->r (Y2 p k)<r (Y2 p i)
 | 0,a,b,hab,Ck,hf,lo,N9=>⟨(),lo,λi h=>N9 i ()⟩
 | f+1,a,b,hab,Ck,hf,lo,N9=>by
  delta rJ;by_cases q:a ≥ b
  ·rw[An q];apply⟨(),lo,λi h=>N9 i ()⟩
  ·rw[N4 q];let d:(a+b)/2<k:=()
   show⟨e.lt k g,e.lt _ (),?_⟩;change M7 r n (if decide (r (Y2 p k)<r (Y2 p ((a+b)/2)))=aD then rJ p k f a ((a+b)/2) else rJ p k f ((a+b)/2+1) b) _;generalize u:(a+b)/2=m at d;by_cases c:r (Y2 p k)<r (Y2 p m)
   ·rw[An (decide_eq_true c)];show Qz e s g o f a m () () () lo λi v t=>?_;by_cases z:i=m
    ·subst z;apply c
    ·let:=o m i () t;lia
   ·rw[N4 (by rw[decide_eq_false c];apply br)];let ne:=e.ne s g (show m<n by lia) ();show Qz e s g o f (m+1) b () Ck () (λi v=>?_) N9;by_cases z:i=m
    ·subst z;lia
    ·let:=o i m () d;lia
def XM(a:k<p.size)(b:l<=k)(i:Nat):Y2 (bubble p k (k-l)) i=if i=l then Y2 p k else if l<i/\i<=k then Y2 p (i-1) else Y2 p i:=by
 rw[Xa,getElem?_bubble a (k-l) ()];let e:k-(k-l)=l:=()
 rw[e];by_cases q:i=l
 ·rw[An q,An q,Xa]
 ·rw[N4 q,N4 q];by_cases z:l<i/\i<=k
  ·rw[An z,An z,Xa]
  ·rw[N4 z,N4 z,Xa]
def Z1(o:∀i j,i<n->j<n->r i=r j->i=j):∀(f:Nat)(p:aaa)(k:Nat),Pm n p->k+f=n->Lg r p k->M7 r n (kas_bin f p k) λt=>Pm n t/\Lg r t n
 | 0,p,k,Gn,hk,Ax=>by
  let e:k=n:=()
  subst e;apply⟨Gn,Ax⟩
 | f+1,p,k,Gn,hk,Ax=>by
  delta kas_bin;let c:k<n:=()
  show WN (Xy (λl h=>?_) (Qz Gn o c Ax k 0 k () () () (λi h=>()) λi w x=>()));let⟨u,lo,v⟩:=h;let e:=λi=>XM (p:=p) (k:=k) (l:=l) (by rw[Gn.GC];apply c) u i;show Z1 o f _ (k+1) ⟨by rw[bubble_size];apply Gn.GC,λi b=>?_,λi j b m a=>?_⟩ () λi j a m=>?_
  ·rw[e];split
   ·apply Gn.lt _ c
   ·split
    ·apply Gn.lt _ ()
    ·apply Gn.lt _ b
  ·rw[e,e] at a;split at a
   ·split at a
    ·lia
    ·split at a
     ·let:=Gn.inj _ _ () () a;lia
     ·let:=Gn.inj _ _ () () a;lia
   ·split at a
    ·split at a
     ·let:=Gn.inj _ _ () () a;lia
     ·split at a
      ·let:=Gn.inj _ _ () () a;lia
      ·let:=Gn.inj _ _ () () a;lia
    ·split at a
     ·let:=Gn.inj _ _ () () a;lia
     ·split at a
      ·let:=Gn.inj _ _ () () a;lia
      ·apply Gn.inj _ _ b m a
  ·rw[e,e];by_cases g:i=l
   ·rw[An g,N4 (),An ()];apply v _ () ()
   ·rw[N4 g];by_cases s:j=l
    ·rw[An s,N4 ()];apply lo _ ()
    ·rw[N4 s];by_cases d:l<i/\i<=k
     ·rw[An d,An ()];apply Ax _ _ () ()
     ·rw[N4 d];by_cases q:l<j/\j<=k
      ·rw[An q];apply Ax _ _ () ()
      ·rw[N4 q];apply Ax _ _ a ()
def zP(n:Nat):Pm n (jV (aL n)):=by
 let e:∀i,i<n->Y2 (jV (aL n)) i=i:=λi a=>by rw[Xa];simp[a]
 show⟨⋯,λi a=>by rw[e i a];apply a,λi j a b h=>?_⟩;rw[e i a,e j b] at h;apply h
def Zbp(c:∀i j,i<n->j<n->r i=r j->i=j)(e:1<=n):M7 r n (kas_sort n) λp=>Pm n p/\Lg r p n:=by
 show WN (Xy (λx h=>?_) (XK (zP n) c e));let⟨f,g,b,a⟩:=h;let d:max x.1 1=x.1:=()
 by_cases q:x.1<n
 ·rw[An q,d];apply Z1 c (n-x.1) x.2 x.1 b () a
 ·rw[N4 q];have:x.1=n:=()
  rw[this] at a;apply⟨b,a⟩
end
section
variable {prog:bO} {w:bX} {A:bg} {E:Gu} {s:aR}
def PD(d:qS s.heap l vs.toArray)
  (h:Q vs { s with heap:=(s.heap.push (fA "list" #[] 0)).update s.heap.objs.size (eK (·++vs.toArray)) }) (e:vs.length<=sizeLine:=by size_fits) :
  az (model prog w) A (collect (.ref l)) Q E s:=by
 let⟨o,f,c,n,b⟩:=id d;show aE (wpAny_runValue (fR entry_proto_collect' ?_));show aE (kc (aM ⟨qF _ ⋯,fR entry_list_iadd' ?_⟩));change az _ _ (kM.List.listExtendWith (.ref s.heap.objs.size) (.ref l) (.ref s.heap.objs.size)) _ _ { s with heap:=s.heap.push (fA "list" #[] 0) };let a:(s.heap.push (fA "list" #[] 0)).get? l=aA o:=aH _ f;show aE (kJ ⟨o,a,c⟩ ?_);rw[An ⋯];show aE (qd a b ?_);show aE (qd (aX _ rfl) rfl ?_);show aE (m5 (aX _ rfl) rfl ?_ (dM _) (by change(#[]++vs.toArray).size<=sizeLine+1;dsimp[Array.size_append,aT,oE];lia));show aM ?_
 change az (model prog w) A (do
   let o <-load s.heap.objs.size
   match o.data with
   | .seq xs _=>pure xs.toList
   | _=>unsupported "internal:collect") Q E { s with heap:=(s.heap.push (fA "list" #[] 0)).update s.heap.objs.size (eK (·++vs.toArray)) }
 show aE (wpAny_load (get?_update_seq (aX _ rfl) _) ?_);change az _ _ (pure ((#[]:GD)++vs.toArray).toList) Q E _;rw[show((#[]:GD)++vs.toArray).toList=vs by simp];apply aM h
def vU(k:qS s.heap l vs.toArray)(g:jA vs ns)(e:vs.length<64)
  (h:∀(b:GD)(a:Gj),jA b.toList a->a.Perm ns->a.Pairwise (·<=·)->Q (.ref (s.heap.objs.size+1)) { s with heap:=sortedAll s.heap vs b }) :
  az (model prog w) A (call (.builtin "sorted") [.ref l]) Q E s:=by
 show jY rZ qf qg (qh _) ?_;show aE (aM ?_);show aE (PD k ?_ (by rw[dh];lia));show aE (kc ?_ (by rw[dh];lia));let d:((s.heap.push (fA "list" #[] 0)).update s.heap.objs.size (eK (·++vs.toArray))).objs.size=s.heap.objs.size+1:=by rw[nE,qG]
 let c:(((s.heap.push (fA "list" #[] 0)).update s.heap.objs.size (eK (·++vs.toArray))).push (fA "list" vs.toArray 0)).get? (s.heap.objs.size+1)=aA (fA "list" vs.toArray 0):=by rw[<-d];apply aX _ rfl
 rw[d];show aE (cg (bu om ⟨_,c,rfl⟩ oJ (list_sort_tree c g e λb a f j i=>⟨_,rfl,?_⟩) (ot _)));apply aM ⟨_,rfl,h b a f j i⟩
def Ws(v:s.heap.get? a=aA (fA "list" vs.toArray n))(y:vs.length<64)
  (S:∀i j,i<vs.length->j<vs.length->r i=r j->i=j)
  (T:2<=vs.length->∀h':bp,(∀b o,b≠a->s.heap.get? b=aA o->h'.get? b=aA o)->∀Q:SortKind->aR->Prop,Q κ { s with heap:=h' }->az (model prog w) A (keyKind' vs.toArray) Q (λ_ _=>False) { s with heap:=h' })
  (M:∀h':bp,(∀b o,b≠a->s.heap.get? b=aA o->h'.get? b=aA o)->∀i j,i<vs.length->j<vs.length->∀C:Bool->aR->Prop,C (decide (r i<r j)) { s with heap:=h' }->kas_ask prog w A κ vs i j C { s with heap:=h' })
  (h:∀p:Array Nat,Pm vs.length p->Lg r p vs.length->P (.done (.ret .none)) { s with heap:=sortedHeap s.heap a vs (jV (p.toList.map λi=>vs.getD i ee)) }) :
  az (model prog w) A (kM.«list.sort» ⟨[.ref a],[]⟩) P E s:=by
 let F:a<s.heap.objs.size:=aV v;rw[list_sort_plain];show aE (qd v rfl ?_);show aE (m5 v rfl ?_ (by rw[aT,dh];lia) (dM _));obtain⟨B,t⟩:∃B,(s.heap.update a (eK λ_=>#[])).get? a=aA (fA "list" #[] B):=⟨_,get?_update_seq v (λ_=>#[])⟩;show aE (r8 t rfl ?_);show aE (wpAny_newTuple ?_ (by change vs.length<=_;rw[dh];lia));show aE (kc ?_ (dM _));show cg ?_;let d:(((s.heap.update a (eK λ_=>#[])).push (fA "tuple" vs.toArray 0)).push (fA "list" #[] 0)).get? a=aA (fA "list" #[] B):=by rw[qj _ _ _ (by rw[qG,nE];apply bC (fN F)),qj _ _ _ (by rw[nE];apply bC F)];apply t
 let keep:∀b o,b≠a->s.heap.get? b=aA o->(((s.heap.update a (eK λ_=>#[])).push (fA "tuple" vs.toArray 0)).push (fA "list" #[] 0)).get? b=aA o:=λb o I q=>
  aH _ (aH _ (by rw[bp.get?_update_ne _ _ _ _ I];apply q))
 change az (model prog w) A _ P E { s with heap:=((s.heap.update a (eK λ_=>#[])).push (fA "tuple" vs.toArray 0)).push (fA "list" #[] 0) }
 dsimp only
 by_cases k:vs.toArray.size<2
 ·rw[An k,An k];show aE (aM ?_);rw[StateT.run_pure];show aE (aM ?_)
  dsimp only
  show aE (r8 d rfl ?_);show aE (m5 d rfl ?_ (hsz2:=by rw[Array.size_map];change(pairsOf vs).size<=_;rw[pairsOf_size,dh];lia));dsimp[bne_self_eq_false,qH,if_false];let l:=h (jV (aL vs.length)) (zP _) λi j O Y=>by rw[aT] at k;lia
  let e:((vs.toArray.zip vs.toArray).map (·.2))=jV ((jV (aL vs.length)).toList.map λi=>vs.getD i ee):=by
   apply((rD.mp));apply((iN))
   ·simp
   ·ext i L k;let R:i<vs.length:=by simpa using L
    simp[R]
  show aM ?_;change P _ { s with heap:=(((s.heap.update a (eK λ_=>#[])).push (fA "tuple" vs.toArray 0)).push (fA "list" #[] 0)).update a (eK λ_=>(vs.toArray.zip vs.toArray).map (·.2)) };rw[e];apply l
 ·rw[N4 k,N4 k];let u:2<=vs.length:=by rw[aT] at k;lia
  show aE (bq (T u _ keep (λg f=>g=κ/\f={ s with heap:=((s.heap.update a (eK λ_=>#[])).push (fA "tuple" vs.toArray 0)).push (fA "list" #[] 0) }) ⟨rfl,rfl⟩) ?_ λ_ _ x=>x.elim);ext g f ⟨rfl,rfl⟩
  show aE (bq (kat_run (κ:=g) (Q:=λc f=>∃p:Array Nat,arrOf c=p.map (kas_item (vs.toArray.zip vs.toArray))/\failedOf c=aB/\f={ s with heap:=((s.heap.update a (eK λ_=>#[])).push (fA "tuple" vs.toArray 0)).push (fA "list" #[] 0) }/\Pm vs.length p/\Lg r p vs.length)
   (G:=λp f=>f={ s with heap:=((s.heap.update a (eK λ_=>#[])).push (fA "tuple" vs.toArray 0)).push (fA "list" #[] 0) }/\Pm vs.length p/\Lg r p vs.length)
   rfl u y (λW c f X N J U=>⟨W,N,J,U⟩) (T8 (M _ keep) (λp l=>⟨rfl,l⟩) (Zbp S ()))) ?_ λ_ _ e=>e)
  ext⟨⟨⟩,c⟩ f ⟨p,D,H,rfl,l,z⟩
  dsimp only
  let m:=kat_snds rfl D;rw[m];show aE (r8 d rfl ?_);show aE (m5 d rfl ?_ (dM _) (by rw[aT,aJ,bW,l.GC,dh];lia));rw[H];dsimp[bne_self_eq_false,qH,if_false];apply aM (h p l z)
end
end _v
namespace _v
open PySem PySem.W PyProof.Rows _l
def E_:List JL->Option (Int×Int)
 | [.inl x,.inl y]=>aA (x,y)
 | _=>aB
def Zbq(f:α->aI)(l:List α)(d:α)(a:i<la l):(l.map f).getD i ee=f (l.getD i d):=by simp[a]
def Td:∀{l m:N6},l.Nodup->(∀x∈l,x∈m)->la m<=la l->l.Perm m
 | [],m,_,_,Kb=>by have:m=[]:=bV.mp (~~~Kb);subst this;apply .nil
 | x::l,m,nd,sub,Kb=>by
  let a:=av.mp nd;let b:=sub x ⋯;let d:=ou b;show List.Perm.trans ?_ d.symm;show .cons x (Td a.2 (λy c=>?_) ?_)
  ·let ne:y≠x:=λz=>a.1 (z▸c);apply(gp ne).mpr (sub y (by simp[c]))
  ·rw[iB b];dsimp[bH] at Kb;lia
def Ziv(b:Pm n p):∀j∈p.toList,j<n:=λj c=>by
 let⟨i,a,e⟩:=cW c;rw[bW,b.GC] at a;let:=b.lt i a;rw[Xa] at this;let d:p[i]?=aA j:=by rw[<-di,<-e];simp[b.GC,a]
 rw[d] at this;apply this
def tT{l:List α}{d:α}{p:aaa}(a:Pm (la l) p):(p.toList.map λi=>l.getD i d).Perm l:=by
 let g:p.toList.Nodup:=by
  show fS.mpr λi j b c k e=>?_;rw[bW,a.GC] at b c
  let:=a.inj i j b c (by
   rw[Xa,Xa];dsimp[jN] at e;simp[a.GC,b,c,e])
  lia
 let sub:p.toList.Perm (aL (la l)):=Td g (λx h=>ao.mpr (Ziv a x h)) (by simp[a.GC])
 let e:(aL (la l)).map (λi=>l.getD i d)=l:=by
  apply((iN))
  ·simp
  ·ext i m f;simp[f]
 let:=sub.map λi=>l.getD i d
 rwa [e] at this
def Ow:∀cs:List aP,Gp (cs.map V.ref) (cs.map cZ)
 | []=>.nil
 | c::cs=>.cons rfl (Ow cs)
def IK(K:aG):List V->Hp->Me->Prop:=λxs H Q=>∃p ns,xs=[.ref p]/\CG K H p (ns.map V.int)/\ns.length<64/\∀l,H l=aB->Q (.ref l) (upd H l (.lst ((sortI ns).map V.int)))
def Rx:Ie X (.builtin "sorted") (IK X.K):=by
 ext y s z H xs x Q I r h;let⟨p,ns,rfl,m,A,q⟩:=h;let⟨u,rfl,v⟩:=Vy r;cases v;let⟨w,g,n,f⟩:=I.tuple m;let c:=g.length;rw[aJ] at c f;show vU n (V8 g) () λa t l k j=>?_;let⟨e,i⟩:=sortedAll_at s.heap w a;let d:=iz k j;subst d;show⟨.ref (s.heap.objs.size+1),_,I.laid (λb o=>sortedAll_old) (kg _) (show J6 X.prog X.w _ _ _ (.lst ((sortI ns).map V.int)) from⟨?_,a.toList,e,Us l,?_⟩),rfl,q _ (I.L5.fresh (kg _))⟩
 ·rw[aJ,(sortI_perm ns).length_eq];apply f
 ·rw[ko];apply i
def Hn:List PV->Option PV
 | [.tup l]=>(J9 l).bind λns=>if ns.length<64 then aA (.lst (iL (sortI ns))) else aB
 | _=>aB
def Q5{K:aG}:Bj K (IK K) Hn:=λH vs ls l m h e Q k=>by
 delta Hn at e;split at e
 ·let⟨ns,f,a⟩:=Zc e;split at a
  ·cases a;let⟨v,rfl,i⟩:=h.c0;let g:=Yn f;subst g;let⟨p,xs,rfl,j,c⟩:=i.b_;let⟨rfl,rfl⟩:=c.iL;show⟨p,ns,rfl,.inl (.inl j),by assumption,λq b=>k _ _ [q] (AJ.new b _) (Is.lst bh (JX.ofInts _)) ⋯ λr d=>?_⟩;rw[aO.mp d];apply⟨b,by rw[bh];apply cK⟩
  ·cases a
 ·cases e
end _v
namespace _v
open PySem PySem.Spec PyProof.Rows _l
variable {K:aG}
instance (x:bJ) (n:Int):Decidable (MulOk x n):=by delta MulOk;infer_instance
end _v
namespace _v
open PySem PySem.Spec PyProof.Rows _l
variable {K:aG}
structure IL(K:aG)(mg:JM)(x:bJ)(st:cD)(dv:Int):Prop where
 ex:∃(f T:aP) (t:si) (o:fE) (n:Nat) (Cp:aI) (AB:Co) (GS doc pm:aI) (an:Co) (tX Gq:aI) (yG:aau),mg x=aA (.ref f)/\
  K.lookup f=aA ⟨Cp,AB,.func (cf x x (M9 st) (Kv st) (GV st) (.ref T) GS doc pm an tX Gq),yG⟩/\dS K tX x=aD/\fK K (.ref f)=aD/\K.lookup T=aA o/\o.data = .seq #[.int dv t] n
def defD_mk{mg:JM}{x:bJ}{st:cD}{q:Int}{t:si}{f T:aP}{o:fE}{n:Nat}{p:aI}{m i:Co}{e:aau}{GS g j b Gq:aI}(X:K.In h)(G:h.Ns bY mg)
  (a:dm K bY x=aA (aA (.ref f))) (l:K.lookup f=aA ⟨p,m,.func (cf x x (M9 st) (Kv st) (GV st) (.ref T) GS g j i b Gq),e⟩)
  (c:dS K b x=aD) (k:fK K (.ref f)=aD) (lt:K.lookup T=aA o) (d:o.data = .seq #[.int q t] n):IL K mg x st q:=
 ⟨f,T,t,o,n,p,m,GS,g,j,i,b,Gq,e,k9 X G a,l,c,k,lt,d⟩
structure Be(P:bO)(w:bX)(K:aG)(mg:JM)(base:bp)(x:bJ)(ps:Gm)(sp:Sp)(k:Nat)(dv:Int):Prop where
 ex:∃f fd t,mg x=aA (.ref f)/\fK K (.ref f)=aD/\Binds K fd ps [.int dv t]/\S7 P w K mg base Mq k f fd ps sp
section
variable {P:bO} {w:bX} {mg:JM} {base:bp}
def Wk{st:cD}{N ps:Gm}{k n:Nat}{O W:N6}{j:Int}(m:Nat)(f:XS)(D:IL K mg x st j)(S:Z2 N ps (GV st))
  (B:∀(T:aP)(t:si)(GS d r:aI)(p:Co)(b Gq:aI)(e:Gr),e.length+1=la ps->∃q:Option (Array aI)->Sem (List (bJ×aI)),
   jc (cf x x (M9 st) (Kv st) (GV st) (.ref T) GS d r p b Gq) ⟨e,[]⟩=pS (.ref T) >>= q/\q (aA #[.int j t])=pure (ps.zip (e++[.int j t])))
  (F:la ps=n) (I:la N=m) (U:∀i∈O,n<=i)
  (c:∀(g:aP)(b:aI)(A:bg)(a:GB)(s:aR)(H:Hp)(E:Ml),Cm k (A.deeper (j6 x (GV st) s.heap.objs.size g b))->Lb (Ip Mq P w K mg base N x (GV st) g b A a s H E).EA O W (Kv st) f) :
  Be P w K mg base x ps (EV K (CB m f) n) (k+1) j:=by
 subst I;let⟨g,T,t,o,Z,Cp,Y,GS,d,r,p,b,Gq,J,u,R,l,z,lt,y⟩:=D.ex;show⟨g,_,t,u,z,λs e X G=>?_,XQ R l S (λvs H Q E h=>by rw[F];apply h.1) λA a s H vs Q E L v=>⟨_,(c g b A a s H E L).EA,TY U v⟩⟩;let⟨q,C,M⟩:=B T t GS d r p b Gq e (~~~G);apply rg X rfl lt y C M
end
section
variable {X:Cx} {x:bJ} {ps:Gm} {k:Nat} {e:bT} {Gi:Mk} {fs:List XE} {p pos:g6} {dv:Int}
def WE(C:Be X.prog X.w X.K X.mg X.base x ps (EV X.K D n) k dv)(I:Cm k X.A)(G:Gl X x)(g:Kr X (e::Gi) fs)(A:la fs+1=n|>On)
  (i:(x==("__debug__" : bJ))=aC|>Op) (r:aN (e::Gi) X.env=(aC,eval e X.env)::aN Gi X.env|>On) (h:(ck pos (aN Gi X.env)).any (·.1)=aC|>On) :
  AU X (.Call (.Name x p) (e::Gi) [] pos) (AK (λls=>D (ls++[.int dv])) fs):=by
 let⟨f,M,t,a,b,c,d⟩:=C.ex;show JY.imp (VY d I G a b c (dvs:=[.int dv]) (.cons ⟨t,rfl⟩ .nil) Zij g i r h) ?_;ext J H Q ⟨s,l,env,e,q⟩;let⟨ls,m,F⟩:=Zc e;show⟨λ_=>False,s,ls,λ_ z=>z.elim,env,m,λvs N E s1 j L=>?_⟩;apply⟨by rw[ah,j.len,Xu m,<-A];rfl,ls++[.int dv],E++[],l,j.append (JX.one (Is.int _)),F,λv B w s2 y u o=>q v B w (s1.trans s2) y u λa g=>⟨AJ.off s1 (o a g).1,(o a g).2⟩⟩
end
end _v
namespace _v
open PySem
def Iu(xs:aaa):Prop:=xs.toList.Pairwise (· < ·)
def Ry{xs:aaa}{i:Nat}(h:i<xs.size)(d:Nat):xs.getD i d=xs[i]:=by delta nX;rw[dif_pos h];rfl
def Iu.at(h:Iu xs)(b:i<k)(a:k<xs.size)(d:Nat):xs.getD i d<xs.getD k d:=by let:=fS.mp h i k (by simp;lia) (~~~a) b;dsimp[jN] at this;delta nX;rw[dif_pos a,dif_pos (show i<xs.size by lia)];apply this
def ur(h:Iu xs):∀(fuel lo N9:Nat),lo<=N9->N9<=xs.size->N9-lo<=fuel->(∀i,i<lo->xs.getD i j<j)->(∀i,N9<=i->i<xs.size->j<=xs.getD i j)->
  jD xs j fuel lo N9<=xs.size/\(∀i,i<jD xs j fuel lo N9->xs.getD i j<j)/\∀i,jD xs j fuel lo N9<=i->i<xs.size->j<=xs.getD i j
 | 0,lo,N9,Es,Md,h3,Mp,h5=>by delta jD;apply⟨(),Mp,λi a=>h5 i ()⟩
 | fuel+1,lo,N9,Es,Md,h3,Mp,h5=>by
  delta jD;by_cases q:lo<N9
  ·rw[An q];simp only;by_cases p:xs.getD ((lo+N9)/2) j<j
   ·rw[An p];show ur h fuel _ N9 () Md () (λi a=>?_) h5;by_cases e:i=(lo+N9)/2
    ·rw[e];apply p
    ·let:=h.at (show i<(lo+N9)/2 by lia) (show(lo+N9)/2<xs.size by lia) j
     lia
   ·rw[N4 p];show ur h fuel lo _ () () () Mp (λi a hs=>?_);by_cases e:i=(lo+N9)/2
    ·rw[e];lia
    ·let:=h.at (show(lo+N9)/2<i by lia) hs j
     lia
  ·rw[N4 q];apply⟨(),Mp,λi a=>h5 i ()⟩
def SO(h:Iu xs)(j:Nat):cC xs j<=xs.size/\(∀i,i<cC xs j->xs.getD i j<j)/\∀i,cC xs j<=i->i<xs.size->j<=xs.getD i j:=
 ur h xs.size 0 xs.size (dM _) (aU _) () (λi a=>()) (λi c b=>())
def tS(h:Iu xs):cC xs 0=0:=by
 let a:=SO h 0;by_cases q:cC xs 0=0
 ·apply q
 ·let:=a.2.1 0 ()
  lia
def O_{xs:aaa}(h:Iu xs){i:Nat}(a:i<xs.size):cC xs (xs[i]+1)=i+1:=by
 let b:=SO h (xs[i]+1);let c:=λd=>Ry a d
 let g:i<cC xs (xs[i]+1):=by
  by_cases q:cC xs (xs[i]+1)<=i
  ·let:=b.2.2 i q a;rw[c] at this;lia
  ·lia
 by_cases q:cC xs (xs[i]+1)=i+1
 ·apply q
 ·let f:=b.2.1 (i+1) ();let e:=h.at (show i<i+1 by lia) (show i+1<xs.size by lia) (xs[i]+1);rw[c] at e
  lia
def P_(n:Nat):Iu (Array.range n):=by delta Iu;rw[Array.toList_range];apply nY
def Zbr{xs:aaa}(h:Iu xs){j:Nat}(g:¬xs[cC xs j]?=aA j):Iu (gq xs (cC xs j) j):=by
 let e:=SO h j;generalize cC xs j=p at e g;delta Iu gq;dsimp[gG,mK,oz];rw[dw,dw];let k:=h;let drop:(xs.toList.extract p xs.size)=xs.toList.drop p:=by apply cN ⋯
 rw[drop];let lt:∀a∈xs.toList.take p,a<j:=λa d=>by let⟨i,f,rfl⟩:=cW d;rw[bK] at f;let:=e.2.1 i ();delta nX at this;rw[dif_pos (show i<xs.size by lia)] at this;simpa using this
 let l:∀a∈xs.toList.drop p,j<a:=λa d=>by
  let⟨i,f,rfl⟩:=cW d;let hs:p+i<xs.size:=by simp at f;lia
  rw[List.getElem_drop];let o:¬xs[p]=j:=λz=>g (by rw[cV (),z]);let n:j<=xs[p]:=by let:=e.2.2 p (aU _) ();delta nX at this;rw[dif_pos (show p<xs.size by lia)] at this;apply this
  by_cases z:i=0
  ·subst z;dsimp[nV,jN]
   lia
  ·let m:=h.at (show p<p+i by lia) hs 0;rw[Ry hs,Ry (show p<xs.size by lia)] at m;dsimp[jN]
   lia
 show⟨⟨k.sublist (fm _ _),⋯,λa d b c=>?_⟩,k.sublist (List.drop_sublist _ _),λa d b c=>?_⟩
 ·rw[aO.mp c];apply lt a d
 ·rcases aj.mp d with q | q
  ·let:=lt a q;let:=l b c;lia
  ·rw[aO.mp q];apply l b c
structure KH(led:Bool)(t:gH):Prop where
 rise:Iu t.place
 uA:t.dummies = #[]
 led:t.led=led
def sG(led:Bool):KH led (sR 0 0 led):=⟨by delta Iu sR;simp,rfl,rfl⟩
def Vl(h:KH led t)(n:Nat):KH led (t.standIn n):=⟨P_ n,rfl,h.led⟩
def uX(b:t.dummies = #[]):∀(fuel:Nat)(p:sS),p.dummy=aB->∀j d,gu t f h fuel p=aA (.empty j d)->d=aB/\¬t.place[cC t.place j]?=aA j
 | 0,p,Gn,j,d,e=>by simp[gu] at e
 | fuel+1,p,Gn,j,d,e=>by
  delta gu at e;let c:fZ t.dummies p.j=aC:=by rw[b];delta fZ;simp
  let a:(t.advance p).dummy=aB:=by
   delta rK;split
   ·apply Gn
   ·apply Gn
  cases hs:t.slot p.j with
  | empty=>
   rw[hs] at e;dsimp[mQ,sv] at e;let⟨rfl,rfl⟩:=e;show⟨Gn,λz=>?_⟩;delta m6 at hs;simp only at hs;rw[z] at hs;simp at hs
  | dummy=>
   exfalso;delta m6 at hs;simp only at hs;rw[c] at hs;split at hs<;>simp at hs
  | live i=>
   rw[hs] at e;simp only at e;split at e
   ·cases e
   ·apply uX b fuel _ a j d e
def Zga{t:gH}(a:t.dummies = #[]){h:Int}{j:Nat}{b:Bool}(e:t.freeSlot h=aA (j,b)):b=aC/\¬t.place[cC t.place j]?=aA j:=by
 delta mR at e;split at e
 ·rename_i c d g;let:=uX a _ _ rfl c d g;let⟨rfl,f⟩:=this;let⟨rfl,rfl⟩:=e;apply⟨rfl,f⟩
 ·cases e
def Zgb(h:KH led t)(b:¬t.place[cC t.place j]?=aA j):KH led (t.put j).1:=by
 show⟨Zbr h.rise b,?_,h.led⟩;change(if fZ t.dummies j=aD then _ else t.dummies) = #[];let a:fZ t.dummies j=aC:=by rw[h.uA];delta fZ;simp
 rw[a];apply h.uA
def Q_{led:Bool}{t:gH}(h:KH led t)(c:aai)(hs:Int)(x:aI):KH led (tH t c hs x).2.1:=by
 delta tH
 cases e:t.freeSlot hs with
 | none=>apply Vl h _
 | some jb=>
  let⟨j,b⟩:=jb;let:=Zga h.uA e;let a:=Zgb h this.2;change KH led ((t.put j).1.orStandIn _);delta qI;split
  ·apply a
  ·apply Vl a _
def q'(h:KH led t)(d:aai)(n:Nat):KH led (sT t d n).2.1:=by
 delta sT
 cases e:t.relaid (d.map (·.1)) n with
 | none=>apply Vl h _
 | some to=>
  let⟨t',o⟩:=to;simp only;split
  ·change KH led t';delta gH.relaid pw at e;dsimp[pW,Option.bind_eq_some_iff] at e;let⟨k,_,rfl,_⟩:=e;show⟨?_,rfl,h.led⟩;rw[List.map_filterMap];show List.Pairwise.filterMap _ (λa i g b f j c=>?_) nY;simp at f c
   lia
  ·apply Vl h _
end _v
namespace _v
open PySem PySem.Spec PyProof.Rows
section
variable {prog:bO} {w:bX} {A:bg} {E:Gu} {s:aR}
def KY(w:bX):Bool:=!w.params.followText "set-order"
def Na(w:bX):fE:={ cls:=.type "set",dict:=aB,data:=.set #[] 0 (.fresh 0 0 (KY w)) }
def Zbs(v:aI)(h:Q (.ref s.heap.objs.size) { s with heap:=s.heap.push (Na w) }) :
  jT (model prog w) A (.call (.builtin "set.__new__") ⟨[.type "set",v],[]⟩) (wants Q E) s:=by
 show codeAny_of_tree ?_;show aE (mM (F.newCall_set_1 v) (aM ⟨jf F.plain_set_new _,fR F.entry_set_new ?_⟩));let a:=sub_set_self;cases s
 wp_walk
 show nF (aM ?_);apply aE (wpAny_alloc (aM (aM h)))
end
def WM:∀{us:Gr}{ns:Gj},jA us ns->la us=la ns
 | _,_,.nil=>rfl
 | _,_,.cons n t h=>by simp[WM h]
end _v
namespace _v
open PySem PySem.W PyProof.Rows _l
def Q6:∀{l:List α}{p:Nat}(h:p<la l),(l[p]::l.eraseIdx p).Perm l
 | a::l,0,h=>kO _
 | a::l,p+1,h=>by let:=Q6 (l:=l) (p:=p) (~~~h);dsimp[List.getElem_cons_succ,List.eraseIdx_cons_succ];apply(List.Perm.swap _ _ _).trans (this.cons a)
def Vo(next:Ez):∀(fuel k:Nat)(left:List α)(out:Array α),left.length=fuel->∃l,(rM.go next fuel k left out).toList=out.toList++l/\l.Perm left
 | 0,k,left,out,h=>⟨[],by delta rM.go;simp,by rw[bV.mp h]⟩
 | fuel+1,k,left,out,h=>by
  let a:next k%la left<la left:=sV _ ()
  let⟨l,b,c⟩:=Vo next fuel (k+1) (left.eraseIdx (next k%la left)) (out.push left[next k%la left]) (by rw[List.length_eraseIdx_of_lt a];lia)
  show⟨left[next k%la left]::l,?_,?_⟩
  ·delta rM.go;rw[aF a];simp only;rw[b];simp
  ·apply(c.cons _).trans (Q6 a)
def w2(next:Ez)(xs:Array α):(rM next xs).toList.Perm xs.toList:=by
 let⟨l,a,b⟩:=Vo next xs.size 0 xs.toList #[] rfl
 delta rM;rw[a];simpa using b
def C4(w:bX)(a:aP)(ep:Nat)(Gi:aai):Array (Int×aI):=if w.params.followText "set-order" = aD then rM (w.params.setOrder a ep) Gi else Gi
def SK(w:bX)(a:aP)(ep:Nat)(b:aai):(C4 w a ep b).toList.Perm b.toList:=by
 delta C4;split
 ·apply w2 _ _
 ·apply kO _
def Rz(w:bX)(a:aP)(ep:Nat)(b:aai):(C4 w a ep b).size=b.size:=by let:=(SK w a ep b).length_eq;simpa using this
def JT(w:bX)(t:gH)(i:Nat):Nat:=if w.params.followText "set-order" = aD then 0 else match i with
 | 0=>0
 | j+1=>t.place.getD j 0+1
def MC(h:bp)(it a:aP)(st i n ep:Nat):Prop:=∃o,h.get? it=aA o/\o.cls = .type "set_iterator"/\o.data = .fields #[.int st 0,.int i 0,.ref a,.int n 0,.int ep 0]
def c_:Slot "set_iterator" "__next__" "set_iterator.__next__":=
 .of rfl rfl rfl rfl
  (by first | apply .inl rfl | apply .inr rfl) rfl
def VR:entryFor table "set_iterator.__next__" = aA kM.«set_iterator.__next__»:=entryFor_of_tree rfl
def UK(a:aI):argsOk "set_iterator.__next__" ⟨[a],[]⟩:=rfl
def UL:Slot "set_iterator" "__iter__" "set_iterator.__iter__":=
 .of rfl rfl rfl rfl
  (by first | apply .inl rfl | apply .inr rfl) rfl
def P0(a:aI):argsOk "set_iterator.__iter__" ⟨[a],[]⟩:=rfl
def Wn:entryFor table "set.__iter__" = aA kM.«frozenset.__iter__»:=
 entryFor_alias (id':="frozenset.__iter__") rfl rfl (by decide +kernel) rfl
section
variable {prog:bO} {w:bX} {A:bg} {E:Gu} {s:aR} {it a:aP} {i ep:Nat} {o:fE} {Gi:aai} {t:gH} {ks:N6}
def MC.typeIs{st i n ep:Nat}(x:MC s.heap it a st i n ep):s.TypeIs (.ref it) "set_iterator":=let⟨o,c,b,_⟩:=x;⟨o,c,b⟩
def MC.at{st i n ep:Nat}(x:MC h it a st i n ep)(e:∀o,h.get? it=aA o->h'.get? it=aA o):MC h' it a st i n ep:=let⟨o,b,r⟩:=x;⟨o,e _ b,r⟩
def QB(h:Q (w.params.followText "set-order") s):az (model prog w) A setsByText Q E s:=aE (nF (aM h))
def Ri{st i n ep:Nat}{Q:Gu}(c:MC s.heap it a st i n ep)(h:Q (.ref it) s):az (model prog w) A (nM (.ref it)) Q E s:=by
 obtain⟨b,d⟩:∃b,entryFor table "set_iterator.__iter__" = aA b/\∀(A:bg)(E:Gu)(s:aR)(v:aI)(Q:PySem.Fin->aR->Prop),Q (.done (.ret v)) s->az (model prog w) A (b ⟨[v],[]⟩) Q E s:=
  ⟨kM.«dict_keyiterator.__iter__»,entryFor_alias (id':="dict_keyiterator.__iter__") rfl rfl (by decide +kernel) rfl,λA E s v Q h=>by apply aM h⟩
 show kN c.typeIs UL (bu UL c.typeIs d.1 (d.2 _ _ _ _ _ ?_) (P0 _));apply⟨_,rfl,"set_iterator",_,c.typeIs,c_.lookup,h⟩
def Zbt(c:s.TypeIs (.ref a) "set")(h:Q aC s):az (model prog w) A (kM.List.listLengthHint (.ref a)) Q E s:=by
 show aE (wpAny_specialOf c PySem.F.slot_set_len.lookup ?_);generalize b:("set.__len__" : String)=id0
 wp_delta
 subst b;show aE (kZ c rfl ?_);show aE (kJ c ?_);apply aM h
end
def FF:aI->Int
 | .int n _=>n
 | _=>0
def Si:∀{us:Gr},(∀v∈us,∃n t,v=fT n t)->jA us (us.map FF)
 | [],_=>.nil
 | u::us,h=>by let⟨n,t,rfl⟩:=h u ⋯;apply .cons n t (Si λv a=>h v (by simp[a]))
def YB(ns:N6):(ns.map λ(k:Nat)=>V.int (k:Int))=(ns.map λ(k:Nat)=>(k:Int)).map V.int:=by rw[bS];rfl
end _v
namespace _x
open PySem PySem.Spec PyProof.Rows _l
structure lN(fs ch:Gs)(h h':bp):Prop where
 keep:∀b o,h.get? b=aA o->b∉ch->b∉fs->h'.get? b=aA o
 slot:∀b o,h.get? b=aA o->b∉ch->b∈fs->∃MO,h'.get? b=aA { o with slots:=MO }
 there:∀b o,h.get? b=aA o->∃JR,h'.get? b=aA JR
def lN.trans(x:lN fs ch h Es)(y:lN fs ch Es Md):lN fs ch h Md:=
 ⟨λb o e c a=>y.keep b o (x.keep b o e c a) c a,λb o e c a=>by
  let⟨j,d⟩:=x.slot b o e c a;let⟨f,g⟩:=y.slot b _ d c a
  apply⟨f,g⟩,λb o e=>by
  let⟨i,d⟩:=x.there b o e;apply y.there b i d⟩
def lN.mono(x:lN fs ch h h')(hs:∀b∈ch,b∈ch'):lN fs ch' h h':=
 ⟨λb o e c a=>x.keep b o e (λz=>c (hs b z)) a,λb o e c a=>x.slot b o e (λz=>c (hs b z)) a,x.there⟩
def lN.field(g:h.get? a=aA o)(d:o.data = .fields vs):lN fs [a] h (h.update a (fY f)):=
  ⟨λb u e c _=>by rw[bj _ _ (λz=>c (by rw[z];apply .head _))];apply e,
   λb u e c _=>⟨u.slots,by rw[bj _ _ (λz=>c (by rw[z];apply .head _))];apply e⟩,
   λb u e=>by
    by_cases q:a=b
    · subst q;apply⟨_,cS _ g (eV (cM d f))⟩
    · apply⟨u,by rw[bj _ _ q];apply e⟩⟩
theorem lN.ED(x:lN fs ch h h')(g:h.FunFrames base l)(f:∀b∈ch,∀o,h.get? b=aA o->∃vs,o.data = .fields vs):h'.FunFrames base l:=
 g.of_keeps λb o e d=>by
  let c:b∉ch:=λz=>by let⟨vs,q⟩:=f b z o e;apply d vs q
  by_cases a:b∈fs
  ·let⟨i,q⟩:=x.slot b o e c a;apply⟨_,q,rfl⟩
  ·apply⟨o,x.keep b o e c a,rfl⟩
section
variable {M:Model} {A:bg} {E:Gu} {s:aR}
def Yb
  (m:A.frames=aA (env::outer)) (u:s.heap.FunFrames base (env::outer)) (v:env.frame=aA L)
  (t:s.heap.get? e=aA oe) (j:oe.data = .fields vs) (r:1<vs.size)
  (h:∀h' T,s.heap.objs.size<=T->h'.get? e=aA (oe.mapFields (·.setIfInBounds 1 (.ref T)))->(∃oT ts,h'.get? T=aA oT/\oT.data = .fields ts/\ts[3]?=aA (fJ L))->lN ((env::outer).filterMap (·.frame)) [e] s.heap h'->Q .unit { s with heap:=h' }) :
  az M A (do let a <-frameOf env;let g <-entryPlaceOf L xI;let b <-EntryCells.newEntry head a .none (fJ L) .none g;setField (.ref e) 1 b) Q E s:=by
 let i:e∉(env::outer).filterMap (·.frame):=λx=>by let⟨_,o,k,p⟩:=u.mem x;rw[t] at k;injection k with k;subst k;apply p vs j
 show aE (wpAny_frameOf_fun m u v λh₁ c=>?_);show aE (wpAny_entryPlaceOf λg l=>?_);show aE (cA ?_ (l.sizeOk5 _ _ _ _ _));let f:=(c.2.1 e i).trans t;let d:=aH { cls:=.type "traceback",dict:=aB,data:=.fields ([head,.ref L,.none,fJ L,.none]++(if g.isEmpty then aW 6 ee else g)).toArray } f;let n:=c.1;let B:=cS (fY (·.setIfInBounds 1 (cZ h₁.objs.size))) d (eV (cM j _))
 let p2:=(bj (h₁.push { cls:=.type "traceback",dict:=aB,data:=.fields ([head,.ref L,.none,fJ L,.none]++(if g.isEmpty then aW 6 ee else g)).toArray })
  (fY (·.setIfInBounds 1 (cZ h₁.objs.size))) (bC (aV f))).trans (aX h₁ rfl)
 let y:lN ((env::outer).filterMap (·.frame)) [e] s.heap ((h₁.push { cls:=.type "traceback",dict:=aB,data:=.fields ([head,.ref L,.none,fJ L,.none]++(if g.isEmpty then aW 6 ee else g)).toArray }).update e (fY (·.setIfInBounds 1 (cZ h₁.objs.size)))):=
  lN.trans ⟨λb o q _ w=>(c.2.1 b w).trans q,λb o q _ _=>c.2.2 b o q,λb o q=>by let⟨C,z⟩:=c.2.2 b o q;apply⟨_,z⟩⟩ (lN.trans ⟨λb o q _ _=>aH _ q,λb o q _ _=>⟨o.slots,aH _ q⟩,λb o q=>⟨o,aH _ q⟩⟩ (lN.field d j))
 show fM d j r (h _ h₁.objs.size () B ⟨_,_,p2,rfl,?_⟩ y);simp
def Jr(h:bp)(e:aP)(cls:aI)(dd:Co):Prop:=∃oe vs,h.get? e=aA oe/\oe.cls=cls/\oe.dict=dd/\oe.data = .fields vs/\vs[1]?=aA .none
def Nf(h:bp)(e:aP)(cls:aI)(dd:Co)(T:aP)(fl:aI):Prop:=
 ∃oe vs oT ts,h.get? e=aA oe/\oe.cls=cls/\oe.dict=dd/\oe.data = .fields vs/\vs[1]?=aA (.ref T)/\T≠e/\h.get? T=aA oT/\oT.data = .fields ts/\ts[3]?=aA fl
def Tf(o:fE)(f:Array aI->Array aI):(o.mapFields f).dict=o.dict:=by
 delta fY;split<;>rfl
variable {base:bp} {env:oW} {outer:GB} {L e T:aP} {cls fl:aI} {dd:Co} {Q:Unit->aR->Prop}
def Zn3(d:A.frames=aA (env::outer))(l:s.heap.FunFrames base (env::outer))(g:env.frame=aA L)(x:Jr s.heap e cls dd)
  (h:∀h' T,s.heap.objs.size<=T->Nf h' e cls dd T (fJ L)->lN ((env::outer).filterMap (·.frame)) [e] s.heap h'->Q .unit { s with heap:=h' }):az M A (nG (.ref e) env) Q E s:=by
 let⟨r,vs,c,k,f,b,i⟩:=x;delta nG;dsimp[g];show aE (cY c b i ?_);let a:=(dI.mp i).1;show Yb d l g c b a λh' T j q ⟨m,ts,p2,n,o⟩ p=>h h' T j ⟨_,_,m,ts,q,(gm _ _).trans k,(Tf _ _).trans f,cM b _,by simp[a],?_,p2,n,o⟩ p;apply gL (ay (aV c) j)
def Ziw(l:A.frames=aA (env::outer))(D:s.heap.FunFrames base (env::outer))(v:env.frame=aA L)(x:Nf s.heap e cls dd T .none)
  (h:∀h' i,s.heap.objs.size<=i->Nf h' e cls dd i (fJ L)->lN ((env::outer).filterMap (·.frame)) [e,T] s.heap h'->Q .unit { s with heap:=h' }):az M A (nG (.ref e) env) Q E s:=by
 let⟨N,vs,J,ts,k,C,t,j,w,u,g,c,y⟩:=x;delta nG;dsimp[v];show aE (cY k j w ?_);show aE (cY g c y ?_);show aE (fM g c (dI.mp y).1 ?_);let f:=(dI.mp w).1;let B:lN ((env::outer).filterMap (·.frame)) [T] s.heap (s.heap.update T (fY (·.setIfInBounds 3 ee))):=lN.field g c;let m:=B.ED D (λb d o q=>by rw[aO.mp d,g] at q;cases q;apply⟨_,c⟩);let r:=(bj s.heap (fY (·.setIfInBounds 3 ee)) u).trans k;let z:(s.heap.update T (fY (·.setIfInBounds 3 ee))).objs.size=s.heap.objs.size:=⋯
 show Yb l m v r j f λh' i a I ⟨n,p,p2,F,G⟩ H=>h h' i (by rw[<-z];apply a) ⟨_,_,n,p,I,(gm _ _).trans C,(Tf _ _).trans t,cM j _,by simp[f],?_,p2,F,G⟩ ?_
 ·let a:=a;rw[z] at a;apply gL (ay (aV k) a)
 ·apply(B.mono λb d=>by simp[d]).trans (H.mono λb d=>by simp at d;simp[d])
def Qf(x:Nf s.heap e cls dd T fl)(h:∀h',Nf h' e cls dd T .none->lN fs [T] s.heap h'->h'.objs.size=s.heap.objs.size->Q .unit { s with heap:=h' }):az M A (setFlight (.ref e) aB) Q E s:=by let⟨k,vs,n,ts,i,m,d,g,j,b,f,a,l⟩:=x;let c:=(dI.mp l).1;show aE (cY i g j ?_);show fM f a c (h _ ⟨k,vs,_,_,(bj _ _ b).trans i,m,d,g,j,b,cS _ f (eV (cM a _)),cM a _,by simp[c]⟩ (lN.field f a) ⋯)
def Zbw(d:A.frames=aA (env::outer))(m:s.heap.FunFrames base (env::outer))(a:env.frame=aA L)(x:Jr s.heap e cls dd)
  (h:∀h' T,s.heap.objs.size<=T->Nf h' e cls dd T .none->lN ((env::outer).filterMap (·.frame)) [e] s.heap h'->Q .unit { s with heap:=h' }):az M A (leaving env (.ref e)) Q E s:=by
 show aE (Zn3 d m a x λv T k r j=>?_);show Qf r (fs:=(env::outer).filterMap (·.frame)) λu p f _=>h u T k p ?_;let l:∀b o,s.heap.get? b=aA o->b≠T:=λb o q z=>by subst z;apply cR _ (ay (aV q) k)
 apply⟨λb o q c a=>f.keep b o (j.keep b o q c a) (~~~l b o q) a,λb o q c a=>by
  let⟨w,g⟩:=j.slot b o q c a;let⟨i,t⟩:=f.slot b _ g (~~~l b o q) a
  apply⟨i,t⟩,λb o q=>by
  let⟨n,g⟩:=j.there b o q;apply f.there b n g⟩
def Zbx(f:A.frames=aA (env::outer))(n:s.heap.FunFrames base (env::outer))(a:env.frame=aA L)(x:Nf s.heap e cls dd T .none)
  (h:∀h' c,s.heap.objs.size<=c->Nf h' e cls dd c .none->lN ((env::outer).filterMap (·.frame)) [e,T] s.heap h'->Q .unit { s with heap:=h' }):az M A (leaving env (.ref e)) Q E s:=by
 show aE (Ziw f n a x λw c l t k=>?_);show Qf t (fs:=(env::outer).filterMap (·.frame)) λv r g _=>h v c l r ?_;let m:∀b o,s.heap.get? b=aA o->b≠c:=λb o q z=>by subst z;apply cR _ (ay (aV q) l)
 apply⟨λb o q d a=>g.keep b o (k.keep b o q d a) (~~~m b o q) a,λb o q d a=>by
  let⟨y,i⟩:=k.slot b o q d a;let⟨j,u⟩:=g.slot b _ i (~~~m b o q) a
  apply⟨j,u⟩,λb o q=>by
  let⟨p,i⟩:=k.there b o q;apply g.there b p i⟩
end
section
variable {P:bO} {w:bX} {fs ch:Gs} {H:Hp} {h h':bp}
def Oj(x:AX P w H h)(e:lN fs ch h h')(j:∀b∈ch,H b=aB)(g:∀b∈fs,H b=aB):AX P w H h':=λa o d=>
 (x a o d).EC (λb u i q=>by
  let c:∃f,H b=aA f:=by
   rcases i with z | z
   ·apply⟨o,by rw[z];apply d⟩
   ·apply⟨_,z⟩
  let⟨f,c⟩:=c;apply e.keep b u q (λz=>by rw[j b z] at c;cases c) (λz=>by rw[g b z] at c;cases c)) (λ_ q=>q) (λ_ _ q=>q) λ_ _ q=>q
end
def Fl(H':Hp)(h0 h:bp)(e:aP)(cls:aI)(dd:Co):Prop:=∃T,Nf h e cls dd T .none/\H' e=aB/\H' T=aB/\h0.get? e=aB/\h0.get? T=aB
def Nr(P:bO)(w:bX):uH:=λouter H s E v Aq=>
 ∃e cls dd H',v = .ref e/\Aq.os=s.os/\mI Aq.gens/\Au (Mu outer) [] H H' s.heap Aq.heap/\AX P w H' Aq.heap/\Fl H' s.heap Aq.heap e cls dd/\E cls dd H'
section
variable {X:Cx} {N5:JK} {σ:_l.St} {H:Hp} {s:aR} {e:aP} {cls:aI} {dd:Co} {E:Ml}
structure IU(X:Cx)(E:Ml):Prop where
 aao:X.stack=X.env::X.outer
 fr:X.env.frame=aA X.env.locals
 ex:X.ex=[]
 Ar:X.Ar=λv Aq=>az (model X.prog X.w) X.A (leaving X.env v) (λ_ u7=>Nr X.prog X.w X.outer X.H₀ X.s₀ E v u7) (λaar u7=>Nr X.prog X.w X.outer X.H₀ X.s₀ E aar u7) Aq
def VH(D:IU X E)(I:Inv X N5 σ H s)(r:X.s₀.heap.get? T=aB)(l:X.s₀.heap.get? e=aB)(t:H e=aB)(i:H T=aB)(k:∀b∈ch,H b=aB/\X.s₀.heap.get? b=aB)(x:Nf h' e cls dd T .none)
  (g:lN ((X.env::X.outer).filterMap (·.frame)) ch s.heap h') (q:E cls dd H):Nr X.prog X.w X.outer X.H₀ X.s₀ E (.ref e) { s with heap:=h' }:=by
 let m:=λb a=>by let:=I.abo b;rw[D.aao] at this;apply this a
 show⟨e,cls,dd,H,rfl,I.os,I.bare,?_,Oj I.L5 g (λb a=>(k b a).1) m,⟨T,x,t,i,l,r⟩,q⟩;let d:=I.base;let lt:∀b o,X.s₀.heap.get? b=aA o->b∉ch:=λb o z a=>by rw[(k b a).2] at z;cases z
 let EF:∀b o,X.s₀.heap.get? b=aA o->b≠X.env.locals:=λb o z a=>by subst a;apply cR _ (ay (aV z) I.ok.above)
 let f:∀b o,X.s₀.heap.get? b=aA o->(b∈(X.env::X.outer).filterMap (·.frame)↔b∈Mu X.outer):=λb o z=>by rw[m7 D.fr,aY];apply⟨λh=>h.elim (λq=>absurd q (EF b o z)) λq=>q,.inr⟩
 let c:∀b:aP,b∉X.ex:=λb z=>by rw[D.ex] at z;simp at z
 show⟨λb o z n a _=>?_,λb o z n a _=>?_,λb o z n _=>d.free b o z n (c b),λb o z _=>?_,d.aad,d.AE,d.Cv⟩
 ·apply g.keep b o (d.keep b o z n a (c b)) (lt b o z) (λq=>a ((f b o z).mp q))
 ·let⟨u,z1⟩:=d.slot b o z n a (c b);let⟨j,z2⟩:=g.slot b _ z1 (lt b o z) ((f b o z).mpr a);apply⟨j,z2⟩
 ·let⟨p,z1⟩:=d.there b o z (c b);apply g.there b p z1
def Zlf(D:IU X E)(I:Inv X N5 σ H s)(x:Jr s.heap e cls dd)(d:X.s₀.heap.get? e=aB)(f:H e=aB)(q:E cls dd H):X.Ar (.ref e) s:=by rw[D.Ar];let a:=I.stack;rw[D.aao] at a;let c:=I.ok.frames;rw[D.aao] at c;show Zbw c a D.fr x λh' T g h j=>?_;apply VH D I (jI (cG I.GC g)) d f (I.L5.fresh g) (λb i=>by rw[aO.mp i];apply⟨f,d⟩) h j q
def Zgc(D:IU X E)(B:∀a dd k,E' a dd k->E a dd k):Km (Nr X.prog X.w) X E':=λG J H s v L I C=>by
 let⟨e,a,dd,k,rfl,m,A,u,l,⟨T,x,t,j,n,y⟩,q⟩:=C;let f:=I.abp m u l A λb i=>nomatch i;rw[D.Ar];let g:=f.stack;rw[D.aao] at g;let d:=f.ok.frames;rw[D.aao] at d;show Zbx d g D.fr x λh' N h w F=>?_
 let c:∀b:aP,s.heap.get? b=aB->X.s₀.heap.get? b=aB:=λb z=>by
  cases r:X.s₀.heap.get? b with
  | none=>rfl
  | some o=>
   let⟨M,p⟩:=I.base.there b o r (by rw[D.ex];simp);rw[z] at p;cases p
 apply VH D f (jI (cG f.GC h)) (c e n) t (f.L5.fresh h) (λb i=>by
  rcases aY.mp i with z | z
  ·rw[z];apply⟨t,c e n⟩
  ·rw[aO.mp z];apply⟨j,c T y⟩) w F (B _ _ _ q)
def RA{w:bX}{K:aG}{mg:JM}{d:bp}{N:Gm}{c:bJ}{a:jX}{f:aP}{e:aI}{A:bg}{b:GB}{s:aR}{H:Hp}{E:Ml} :
  IU (Ip (Nr P w) P w K mg d N c a f e A b s H E) E:=⟨rfl,rfl,rfl,rfl⟩
end
def Zlg{K:aG}{h:bp}{C:aP}{b:Gr}{a:L_}(X:K.In h)(q:ip K C b a=aD) :
  ∃e N nm g bs hdct sn sub ab col dd k0 k1 k2 k3 k5 mN,h.get? C=aA (kq nm g C N bs e hdct sn sub ab col dd k0 k1 k2 k3 k5 a)/\h.Ns N mN/\mN "__init__" = aB/\OwnTail h b e:=by
 delta ip at q;split at q
 ·rename_i dd o j p;split at q
  ·rename_i t e k0 k1 k2 k3 n k5 r hs;dsimp[af,beq_iff_eq,jE] at q;let⟨⟨⟨⟨⟨rfl,rfl⟩,d⟩,s⟩,c⟩,f⟩:=q;let⟨nm,bs,m,ns,g,k,sn,sub,ab,col,Ku⟩:=o;subst r d;let i:j = #[k0,k1,k2,k3,aA (.builtin n),k5]:=by let⟨l⟩:=j;simp only at hs;rw[hs]
   subst i;apply⟨e,ns,nm,g,bs,k,sn,sub,ab,col,dd,k0,k1,k2,k3,k5,_,X _ _ p,.of_isNs (PySem.W.isNs_of_in X c),PySem.W.nsMap_none_of_in X c f,PySem.W.tail_of_in X s⟩
  ·cases q
 ·cases q
def z'(x:J6 P w H h a o):∃b,h.get? a=aA b:=by
 cases o with
 | lst xs=>let⟨_,_,_,_,e⟩:=x;apply⟨_,e⟩
 | tup xs=>let⟨_,_,_,p⟩:=x;let⟨b,e,_⟩:=p;apply⟨_,e⟩
 | Mf JJ=>let⟨_,_,_,_,o,_,_,e,_⟩:=x;apply⟨_,e⟩
 | L8 JJ=>let⟨_,_,_,_,o,_,_,e,_⟩:=x;apply⟨_,e⟩
 | set S n=>let⟨o,_,_,_,e,_⟩:=x;apply⟨_,e⟩
 | ins C Mm fs=>let⟨_,_,_,e,_⟩:=x;apply⟨_,e⟩
 | own y=>apply x
 | abk fs=>let⟨_,⟨_,_,_,e,_⟩,_⟩:=x;apply⟨_,e⟩
 | abl lo N9=>let⟨_,_,_,e⟩:=x;apply⟨_,e⟩
 | Er b u=>apply⟨_,x.1⟩
 | aaj ps=>let⟨_,_,_,_,e,_⟩:=x;apply⟨_,e⟩
 | met f y=>apply⟨_,x⟩
 | ext φ=>apply x.2.1
section
variable {X:Cx} {E:Ml} {C:aP} {uo:Gr} {B newId lG:L_} {x:bJ} {np t8 pos:g6} {a:bT} {Et:TE}
def Vk(F:qk B newId lG uo)(O:ip X.K C uo newId=aD)(R:Gl X x)(f:X.mg x=aA (.ref C))(c:X.calm=aD)(A:IU X E)(T:JY X a Et)
  (p:(x==("__debug__" : bJ))=aC|>Op) (l:aN [a] X.env=(aC,eval a X.env)::aN [] X.env|>On):AV X (.Raise (aA (.Call (.Name x np) [a] [] t8)) aB pos) (λ_ m H=>Et m H λv k=>[v].length=1/\E (.ref C) aB k):=by
 ext G s m H D I h;let Y:=I.ok.mod.aav;let⟨y,N,nm,w,bs,hdct,sn,sub,ab,col,dd,k0,k1,k2,k3,k5,M,U,S,n,u⟩:=Zlg Y O;show wpAny_Raise_call_subT (nm:=nm) (q:=w) (N:=N) (bs:=bs) (hdct:=hdct) (sn:=sn) (sub:=sub) (ab:=ab) (col:=col) (dd:=dd) (k0:=k0) (k1:=k1) (k2:=k2) (k3:=k3) (k5:=k5) F (u.hasType F.hasBase) (I.ok.hd c) (by rw[l];rfl) n (Wx I R f ⟨rfl,?_⟩ p);let Q:=ZQ T YN (hs:=l)
 let j:az (model X.prog X.w) X.A (spliced (ck t8 (aN [a] X.env))) (λg b=>g.length<=sizeLine/\b.heap.get? C=aA (kq nm w C N bs y hdct sn sub ab col dd k0 k1 k2 k3 k5 newId)/\b.heap.Ns N M/\OwnTail b.heap uo y/\
    ∀h' e,bp.MadeExcOf b.heap h' e (.ref C) g->X.Ar (.ref e) { b with heap:=h' }) X.Ar s:=by
  show Z8 (Q t8 G s m H (λvs k=>vs.length=1/\E (.ref C) aB k) I h) ?_;ext g b ⟨vs,k,d,r,J,q⟩;let L:g.length=1:=by rw[<-r.length];apply J
  show⟨by rw[L];decide,d.Gw _ _ U,S.keeps d.Gw,u.keeps d.Gw,λh' e f=>?_⟩;let I2:=d.kept (t':=b.toks) f.keeps;let⟨t,W,_,_⟩:=f.there;show Zlf A I2 ⟨_,_,W,rfl,rfl,rfl,rfl⟩ ?_ ?_ q
  ·cases z:X.s₀.heap.get? e with
   | none=>rfl
   | some o=>
    let⟨P,i⟩:=d.base.there e o z (by rw[A.ex];simp);rw[f.new] at i;cases i
  ·cases z:k e with
   | none=>rfl
   | some o=>
    let⟨P,i⟩:=z' (d.L5 e o z);rw[f.new] at i;cases i
 rw[l] at j ⊢;apply o7 (bq j (λg b Z=>⟨rfl,Z⟩) λ_ _ z=>z)
end
def zB(is:Gj):lC (is.map fC)=is.map λi=>fO (toString i):=by
 induction is with
 | nil=>rfl
 | cons i r N8=>rw[ak,lC,N8];rfl
def RD{is:Gj}(h:∀i∈is,i.natAbs.log2<1920):qJ (is.map fC)=aD:=by
 induction is with
 | nil=>rfl
 | cons i r N8=>
  rw[ak,qJ,N8 λj a=>h j (by simp[a])];simp[PyData.showable,h i ⋯]
def Uh(is:Gj):kQ (is.map fC)=aC:=by
 induction is with
 | nil=>rfl
 | cons i r N8=>rw[ak,kQ,N8];rfl
def QC:∀{is:Gj}{us:Gr},Gp (is.map V.int) us->ReadsAll h us (is.map fC) []
 | [],_,.nil=>.nil
 | i::r,_,.cons Es Md=>by let⟨t,rfl⟩:=Es;apply ReadsAll.cons (as:=[]) (bs:=[]) (.int i t) (QC Md)
def UT(is:Gj):rh (is.map fC)<=1:=by
 induction is with
 | nil=>decide
 | cons i r N8=>
  rw[ak,rh];simp[nZ]
  lia
end _x
namespace _x
open PySem PySem.Spec PyProof.Rows _l _v
abbrev XR:=ZK->Option bJ
def F1(K:aG)(O:N6)(fx:XR)(E:Ml):Cq:=λ_ σ H=>∃H0 bD s n,Rel K O H0 bD s σ H/\fx s=aA n/\∀C H',dm K bY n=aA (aA (.ref C))->AJ H0 H'->E (.ref C) aB H'
noncomputable def VX(X:Cx)(O:N6)(E:Ml)(st:cD)(fx:XR):Prop:=AV X st (F1 X.K O fx E)
def Lq(X:Cx)(O:N6)(E:Ml)(st:Cs)(fx:XR):Prop:=Kw X st (F1 X.K O fx E)
def JI(n:bJ)(f:XE):XR:=λs=>match f s with
 | some (.lst l)=>(match J9 l with
  | some is=>if is.length<=100/\∀i∈is,i.natAbs.log2<1920 then aA n else aB
  | none=>aB)
 | _=>aB
def GL(fc:XT)(f g:XR):XR:=λs=>(fc s).bind λc=>if c=aD then f s else g s
def M6(f1:XR)(f:XS)(g:XR):XR:=λs=>match f1 s with
 | some c=>aA c
 | none=>(match f s with
  | some (.L4 Aq)=>g Aq
  | _=>aB)
def Nt:XR:=λ_=>aB
section
variable {X:Cx} {O W:N6} {E:Ml} {C:aP} {uo:Gr} {B newId lG:L_} {x y:bJ} {np t8 pos p1 p2 p3:g6} {jj k:Nat} {e:bT} {f:XE}
variable {st:cD} {EH a b:Cs} {c:bT} {fc:XT} {f1 g1:XR} {fs:XS}
def zM:VX X O E st Nt:=λa s b H D I ⟨_,_,_,_,_,e,_⟩=>by cases e
def Zbz:Lq X O E EH Nt:=λa s b H D I ⟨_,_,_,_,_,e,_⟩=>by cases e
def Zix(i:A5 X c fc)(j:Lq X O E a f1)(h:Lq X O E b g1):VX X O E (.If c a b pos) (GL fc f1 g1):=AV.imp (Zia i j h)<|by
 ext D l H ⟨g,bD,s,f,r,e,q⟩;let⟨d,k,e⟩:=Zc e;show⟨λ_=>False,s,d,λ_ z=>z.elim,r.env,k,λm s1=>?_⟩
 cases d with
 | true=>rw[An rfl] at e ⊢;apply⟨g,bD,s,f,r.grow s1,e,q⟩
 | false=>rw[N4 br] at e ⊢;apply⟨g,bD,s,f,r.grow s1,e,q⟩
def T7(h:VX X O E st f1):Lq X O E [st] f1:=nT h
def oc(c:AV X st t)(d:∀D D' a H,t D a H->t D' a H):Kw X (st::EH) (λ_ a H=>t { L4:=λ_ _=>False,Cj:=λ_ _=>False } a H):=by
 ext b s a H D I h;show iH (Z8 (c b s a H { L4:=λ_ _=>False,Cj:=λ_ _=>False } I h) λf s1 q=>?_)
 cases f with
 | next=>let⟨_,_,_,z⟩:=q;apply z.elim
 | ret u=>let⟨_,_,_,_,_,z⟩:=q;apply z.elim
 | brk=>let⟨_,_,_,z⟩:=q;apply z.elim
 | cont=>let⟨_,_,_,z⟩:=q;apply z.elim
def RE(j:VX X O E st f1)(hs:MX X O W st fs)(o:Lq X O E EH g1):Lq X O E (st::EH) (M6 f1 fs g1):=by
 intro d s f H D I ⟨b,bD,h,a,r,e,q⟩;delta M6 at e;split at e
 ·rename_i c k;cases e;apply oc j (λ_ _ _ _ z=>z) d s f H D I ⟨b,bD,h,_,r,k,q⟩
 ·split at e
  ·rename_i g i;show TX hs o d s f H D I ⟨b,bD,h,.L4 g,r,i,λn m p l _=>?_⟩;apply⟨b,n,g,a,l,e,q⟩
  ·cases e
end
def KA(K:aG)(R:List PV->Option bJ)(n:Nat):Sp:=λvs H _ E=>vs.length=n/\∃ls Gh nm,JX K H ls vs Gh/\R ls=aA nm/\∀C H',dm K bY nm=aA (aA (.ref C))->AJ H H'->E (.ref C) aB H'
def Lr(m:Nat)(fx:XR):List PV->Option bJ:=λls=>fx (MQ m ls)
structure kx(P:bO)(w:bX)(K:aG)(mg:JM)(base:bp)(x:bJ)(ps:Gm)(sp:Sp)(k:Nat):Prop where
 ex:∃f fd,mg x=aA (.ref f)/\fK K (.ref f)=aD/\Binds K fd ps []/\S7 P w K mg base (Nr P w) k f fd ps sp
section
variable {K:aG} {P:bO} {w:bX} {mg:JM} {base:bp}
open Classical in
def Zlj(u:∀i∈O,n<=i)(h:KA K (Lr N.length fx) n vs H Q E):F1 K O fx E D (_l.start N vs) H:=by
 let⟨j,ls,m,c,t,e,q⟩:=h;let⟨l,bD,s,o,r,b,k⟩:=TY (N:=N) (n:=n) (O:=O) (W:=[]) (f:=λs=>if s=MQ N.length ls then aA (.Cj .Ma) else aB) (vs:=vs) (H:=H) (Q:=λ_ a=>AJ H a) (E:=λ_ _ _=>True) u ⟨j,ls,m,.Ma,t,by delta CB;simp[MB],λ_ a _ d _ _ _=>d⟩;simp only at b;split at b
 ·rename_i hs;cases b;subst hs;apply⟨l,bD,_,c,r,e,λC a g d=>q C a g (k .Ma [] a d Is.Ma cI λp v=>by simp at v)⟩
 ·cases b
def sF{st:cD}{N ps:Gm}{k n:Nat}{O:N6}(m:Nat)(l:XR)(D:Def K mg x st)(S:Z2 N ps (GV st))
  (q:∀(GS d p:aI)(o:Co)(b Gq:aI)(us:Gr),us.length=la ps->jc (cf x x (M9 st) (Kv st) (GV st) .none GS d p o b Gq) ⟨us,[]⟩=pure (ps.zip us))
  (r:la ps=n) (g:la N=m) (z:∀i∈O,n<=i)
  (c:∀(fa:aP)(b:aI)(A:bg)(a:GB)(s:aR)(H:Hp)(E:Ml),Cm k (A.deeper (j6 x (GV st) s.heap.objs.size fa b))->Lq (Ip (Nr P w) P w K mg base N x (GV st) fa b A a s H E) O E (Kv st) l) :
  kx P w K mg base x ps (KA K (Lr m l) n) (k+1):=by
 subst g;let⟨f,u,g,F⟩:=D.ex;show⟨f,u,g,F.kp,F.binds q,?_⟩;let⟨C,B,GS,d,p,o,b,Gq,t,rfl,y,e⟩:=F.ex;apply XQ y e S (λvs H Q E h=>by rw[r];apply h.1) λA a s H vs Q E v j=>⟨_,c f b A a s H E v,Zlj z j⟩
end
section
variable {X:Cx} {N5:JK} {σ:_l.St} {H:Hp} {s:aR}
def r'(I:Inv X N5 σ H s)(O:X.N.Nodup)(B:X.N[i]?=aA n)(C:X.env.scope.names.lookup n=aA .local)
  (h:∀Aq,Inv X N5 (σ.set i aB) H Aq->Q .unit Aq):az (model X.prog X.w) A (do bindName X.env n .none;pA X.env n pos) Q E s:=by
 show aE (wpAny_bindName (UX I O B (.inl C) (v:=.Ma) rfl (λs1 a=>?_) (.inr C)));show k8 ?_;let l:(X.env.scope.kind==.class || (X.env.scope.kind==.module&&X.env.locals != X.env.globals))=aC:=by rw[I.ok.kind];rfl
 let f:i<σ.length:=by rw[I.len];apply(aQ.mp B).1
 let⟨m,S,N⟩:=id a.loc;let⟨u,ru,lk⟩:=N i n .Ma B (by rw[eB f]) (.inl C);let t:X.env.kindOf n=aA .local:=C
 let U:m n=aA u:=by
  rcases lk with⟨_,z⟩ | ⟨z,_⟩
  ·apply z
  ·rw[t] at z;rcases z with z | z<;>cases z
 let aaf:=a.aaf;show wpAny_unbindName_local t S U l λh' aa8 G hs=>h _ ?_;show⟨a.ok,a.os,a.bare,⟨λb o e n D r=>?_,λb o e n D r=>?_,a.base.free,λb o e r=>?_,a.base.aad,a.base.AE,a.base.Cv⟩,⟨_,G,λj y P g x W=>?_⟩,λy c e=>?_,a.free,a.GH,λp Gn=>?_,λb T e=>?_,by let:=a.len;simpa using this⟩
 ·apply(hs.2 b (bC (ay (aV e) a.ok.above))).trans (a.base.keep b o e n D r)
 ·let⟨MO,g⟩:=a.base.slot b o e n D r;apply⟨MO,(hs.2 b (bC (ay (aV e) a.ok.above))).trans g⟩
 ·let⟨Z,g⟩:=a.base.there b o e r;apply⟨Z,(hs.2 b (bC (ay (aV e) a.ok.above))).trans g⟩
 ·by_cases F:j=i
  ·subst F;rw[eB f] at x;cases x
  ·let J:(σ.set i (aA V.Ma))[j]?=aA (aA P):=by rw[cu (bU F)] at x ⊢;apply x
   let⟨Y,aam,q⟩:=N j y P g J W;show⟨Y,aam,?_⟩;rcases q with⟨k,e⟩ | ⟨k,c,e,z⟩
   ·show .inl ⟨k,?_⟩;have:y≠n:=λe=>F (Oz O g (e▸B));simp[this,e]
   ·apply .inr ⟨k,c,e,z.sameBut hs (aaf y c e)⟩
 ·let⟨M,z⟩:=a.cell y c e;apply⟨M,z.sameBut hs (aaf y c e)⟩
 ·let⟨e,n,ne,R,d⟩:=a.pin p Gn;apply⟨(hs.2 p.1 ne).trans e,n,ne,R,d⟩
 ·show(a.L5 b T e).EC (λc M w q=>(hs.2 c ?_).trans q) (λ_ q=>q) (λ_ _ q=>q) λ_ _ q=>q;ext rfl;let L:=a.free;rcases w with rfl | w
  ·rw[L] at e;cases e
  ·rw[L] at w;cases w
abbrev Cx.mark(X:Cx)(e:aP):Cx:={ X with A:=X.A.mark (aA (.ref e)),calm:=aC,Ar:=λ_ _=>False }
def T3(I:Inv X N5 σ H s):Inv (Cx.mark X e) N5 σ H s:=
 ⟨⟨I.ok.mod,I.ok.kind,I.ok.glob,I.ok.blt,I.ok.above,I.ok.inj,I.ok.has,I.ok.aa2,(λz=>by cases z),I.ok.frames,I.ok.aao,I.ok.Cu,I.ok.bs,I.ok.aae,I.ok.aa6,I.ok.aa7,I.ok.ED,I.ok.aal,I.ok.tab,I.ok.abe⟩,I.os,I.bare,I.base,I.loc,I.cell,I.free,I.GH,I.pin,I.L5,I.len⟩
def Rn(ok:X.Ok)(I:Inv (Cx.mark X e) N5 σ H s):Inv X N5 σ H s:=
 ⟨ok,I.os,I.bare,I.base,I.loc,I.cell,I.free,I.GH,I.pin,I.L5,I.len⟩
noncomputable def Off(X:Cx)(N5:JK)(b:aP):Prop:=X.s₀.heap.get? b=aB/\b≠X.env.locals/\(∀x c,X.env.cells.lookup x=aA c->c≠b)/\∀p∈X.GG++N5,p.1≠b
def SP(I:Inv X N5 σ H s)(e:X.ex=[])(h:s.heap.get? b=aB):Off X N5 b:=by
 show⟨?_,λz=>?_,λx c f z=>?_,λp g z=>?_⟩
 ·cases r:X.s₀.heap.get? b with
  | none=>rfl
  | some o=>
   let⟨i,d⟩:=I.base.there b o r (by rw[e];simp);rw[h] at d;cases d
 ·let⟨m,⟨o,_,_,a,_⟩,_⟩:=I.loc;rw[z,a] at h;cases h
 ·let⟨v,o,a,_⟩:=I.cell x c f;rw[z] at a;rw[a] at h;cases h
 ·let:=(I.pin p g).1;rw[z] at this;rw[this] at h;cases h
def Zz(I:Inv X N5 σ H s)(hx:X.ex=[])(u:X.env.frame=aA X.env.locals)(i:lN ((X.env::X.outer).filterMap (·.frame)) ch s.heap h')(r:∀b∈ch,H b=aB/\Off X N5 b)(B:X.stack=X.env::X.outer):Inv X N5 σ H { s with heap:=h' }:=by
 let G:=λb a=>by let:=I.abo b;rw[B] at this;apply this a
 let lt:∀b o,X.s₀.heap.get? b=aA o->b∉ch:=λb o z a=>by rw[(r b a).2.1] at z;cases z
 let EF:∀b o,X.s₀.heap.get? b=aA o->b≠X.env.locals:=λb o z a=>by subst a;apply cR _ (ay (aV z) I.ok.above)
 let l:∀b,b≠X.env.locals->(b∈(X.env::X.outer).filterMap (·.frame)↔b∈X.fs):=λb z=>by rw[m7 u,aY];apply⟨λh=>h.elim (λq=>absurd q z) λq=>q,.inr⟩
 let any:=λb o q a=>by
  by_cases z:b∈(X.env::X.outer).filterMap (·.frame)
  ·apply i.slot b o q a z
  ·apply⟨o.slots,i.keep b o q a z⟩
 let⟨m,⟨aca,Z,ep,t,Dk⟩,L⟩:=id I.loc;let A:=λz=>(r _ z).2.2.1 rfl;let⟨U,R⟩:=any _ _ t A;let f:∀c v,(∀b∈ch,c≠b)->s.heap.IsCell c v->h'.IsCell c v:=by ext c v w ⟨o,N,F⟩;let⟨Y,q⟩:=any c o N λz=>w c z rfl;apply⟨_,q,F⟩
 let aaf:=λx c q b a=>(r b a).2.2.2.1 x c q;show⟨I.ok,I.os,I.bare,⟨λb o e n a g=>?_,λb o e n a g=>?_,I.base.free,λb o e g=>?_,I.base.aad,I.base.AE,I.base.Cv⟩,⟨m,⟨_,Z,ep,R,Dk⟩,λj y W T Q P=>?_⟩,λy c e=>?_,I.free,I.GH,λp E=>?_,Oj I.L5 i (λb a=>(r b a).1) G,I.len⟩
 ·apply i.keep b o (I.base.keep b o e n a g) (lt b o e) λz=>a ((l b (EF b o e)).mp z)
 ·let⟨Y,z1⟩:=I.base.slot b o e n a g;let⟨C,z2⟩:=i.slot b _ z1 (lt b o e) ((l b (EF b o e)).mpr a);apply⟨C,z2⟩
 ·let⟨M,z1⟩:=I.base.there b o e g;apply i.there b M z1
 ·let⟨S,O,q⟩:=L j y W T Q P;show⟨S,O,?_⟩;rcases q with q | ⟨k,c,e,z⟩
  ·apply .inl q
  ·apply .inr ⟨k,c,e,f c _ (aaf y c e) z⟩
 ·let⟨J,z⟩:=I.cell y c e;apply⟨J,f c _ (aaf y c e) z⟩
 ·let⟨e,n,ne,D,d⟩:=I.pin p E;apply⟨i.keep p.1 p.2 e (λz=>(r _ z).2.2.2.2 p E rfl) (λz=>D ((l p.1 ne).mp z)),n,ne,D,d⟩
def u'(I:Inv X N5 σ H s)(f:s.heap.get? e=aA oe)(h:H e=aB)(d:Off X N5 e):Inv X N5 σ (upd H e (.Er oe (.own e))) s:=by
 let ne:∀b u,H b=aA u->b≠e:=λb u q z=>by rw[z,h] at q;cases q
 show⟨I.ok,I.os,I.bare,⟨I.base.keep,I.base.slot,λb o q n i=>?_,I.base.there,λb xs q=>?_,λb o u q=>?_,λb ps q=>?_⟩,I.loc,I.cell,?_,λx c q=>?_,λp g=>?_,λb u q=>?_,I.len⟩
 ·rw[a_ (λz=>by rw[z,d.1] at q;cases q)];apply I.base.free b o q n i
 ·let:=I.base.aad b xs q;rw[a_ (ne _ _ this)];apply this
 ·let:=I.base.AE b o u q;rw[a_ (ne _ _ this)];apply this
 ·let⟨a,z⟩:=I.base.Cv b ps q;apply⟨a,by rw[a_ (ne _ _ z)];apply z⟩
 ·rw[a_ (bU d.2.1)];apply I.free
 ·rw[a_ (d.2.2.1 x c q)];apply I.GH x c q
 ·let⟨j,n,r⟩:=I.pin p g;apply⟨j,by rw[a_ (d.2.2.2 p g)];apply n,r⟩
 ·by_cases z:b=e
  ·subst z;rw[bh] at q;cases q;apply⟨f,_,f⟩
  ·rw[a_ z] at q;apply(I.L5 b u q).EC (λ_ _ _ r=>r) (λc r=>by rw[a_ (ne _ _ r)];apply r) (λc xs r=>by rw[a_ (ne _ _ r)];apply r) λc u r=>by rw[a_ (ne _ _ r)];apply r
end
section
variable {M:Model} {A:bg} {E:Gu}
variable {nm q Fd EE:bJ} {C N Cb N':aP} {bs bm ω xW:Gr} {hdct uQ:Bool} {sn C_:Gm} {sub wd:Gr} {ab ab':Bool} {col wU:Option Bool} {dd dd':Co} {k0 k1 k2 k3 k5 j0 j1 j2 j3 j5:Option aI} {newId vf:L_}
def UO{g:Array qT}{d:Drawn}{t:Nat}{os:OsState}{e:aP}{m:fE}{Q:Bool->aR->Prop}
  (k:h.get? C=aA (kq nm q C N bs bm hdct sn sub ab col dd k0 k1 k2 k3 k5 newId)) (i:h.get? Cb=aA (kq Fd EE Cb N' ω xW uQ C_ wd ab' wU dd' j0 j1 j2 j3 j5 vf)) (l:h.get? e=aA m) (a:m.cls = .ref C) (b:xW.contains (.type "BaseException")=aD)
  (j:Q ((cZ C::bm).contains (.ref Cb)) ⟨h,g,d,t,os⟩):az M A (excMatches (.ref e) (.ref Cb)) Q E ⟨h,g,d,t,os⟩:=by
 let c:(cZ Cb::xW).contains (.type "BaseException")=aD:=by rw[qK,b,Bool.or_true]
 let f:=tc_notTuple
 cases xH:(cZ C::bm).contains (.ref Cb) with
 | true=>
  rw[xH] at j
  repeat (first | (with_reducible show gw l ?_;rw[a]) | with_reducible show gw i ?_ | (with_reducible show iD i ?_;rw[c]) | (with_reducible show iD k ?_;rw[xH]) | wp_step)
  apply j
 | false=>
  rw[xH] at j
  repeat (first | (with_reducible show gw l ?_;rw[a]) | with_reducible show gw i ?_ | (with_reducible show iD i ?_;rw[c]) | (with_reducible show iD k ?_;rw[xH]) | wp_step)
  apply j
end
def IZ(K:aG)(C Cb:aP):Bool:=match K.lookup C with
 | some ⟨_,_,.cls cd,_⟩=>cd.mro.contains (.ref Cb)
 | _=>aC
def Zb0{K:aG}{h:bp}{C b:aP}{nm f:bJ}{N:aP}{bs c:Gr}{hdct:Bool}{sn:Gm}{sub:Gr}{ab:Bool}{col:Option Bool}{dd:Co}{k0 k1 k2 k3 k5:Option aI}{a:L_}(X:K.In h)(e:IZ K C b=aD)
  (g:h.get? C=aA (kq nm f C N bs c hdct sn sub ab col dd k0 k1 k2 k3 k5 a)):(cZ C::c).contains (.ref b)=aD:=by
 delta IZ at e;split at e
 ·rename_i d;let:=X _ _ d;rw[g] at this;cases this;apply e
 ·cases e
section
variable {X:Cx} {N5:JK} {σ:_l.St} {H:Hp} {s:aR} {e T C Cb:aP} {dd:Co} {cx n:bJ} {np pos:g6} {b₀:cD} {hY:Cs} {EH:List kd} {ts:Cq} {D:J4} {i:Nat}
def DZ(i:Nat)(D:J4):J4:={ L4:=λσ H=>D.L4 (σ.set i aB) H,Cj:=D.Cj,Gw:=λσ H=>D.Gw (σ.set i aB) H,Gq:=λσ H=>D.Gq (σ.set i aB) H }
def Zn4(I:Inv X N5 σ H s)(S:X.ex=[])(c:X.stack=X.env::X.outer)(j:X.env.frame=aA X.env.locals)(x:Nf s.heap e (.ref C) dd T .none)(hH:H e=aB)(wA:H T=aB)(w:Off X N5 e)(oT:Off X N5 T)
  (GF:X.N.Nodup) (N9:X.N[i]?=aA n) (hk:X.env.scope.names.lookup n=aA .local) (Gz:Gl X cx) (hm:X.mg cx=aA (.ref Cb)) (hC:fF X.K C "BaseException" = aD) (hB:fF X.K Cb "BaseException" = aD) (B:IZ X.K C Cb=aD)
  (hs:Kw (Cx.mark X e) (b₀::hY) ts) (q:∀w:fE,w.cls = .ref C->w.dict=dd->(∃vs,w.data = .fields vs)->ts (DZ i D) (σ.set i (aA (.ref e))) (upd H e (.Er w (.own e))))
  (Y:(cx==("__debug__" : bJ))=aC|>Op) :
  az (model X.prog X.w) X.A (nG (.ref e) X.env) (λ_ G=>az (model X.prog X.w) X.A (setFlight (.ref e) aB) (λ_ g=>
   az (model X.prog X.w) X.A (handleBy (.ref e) X.env (.ExceptHandler (aA (.Name cx np)) (aA n) (b₀::hY) pos::EH)) (Ba X N5 D) X.Ar g) X.Ar G) X.Ar s:=by
 let l:=I.stack;rw[c] at l;let m:=I.ok.frames;rw[c] at m;show Ziw m l j x λEs T' P abv Mc=>?_
 let I1:=Zz I S j Mc (λb B=>by
  rcases aY.mp B with z | z
  ·rw[z];apply⟨hH,w⟩
  ·rw[aO.mp z];apply⟨wA,oT⟩) c
 let oT':=SP I S (jI P);let F:=I.L5.fresh P;let E:∀b∈[T'],H b=aB/\Off X N5 b:=λb B=>by rw[aO.mp B];apply⟨F,oT'⟩
 show Qf abv (fs:=(X.env::X.outer).filterMap (·.frame)) λMd x2 e2 _=>?_;let Q:=Zz I1 S j e2 E c;show wpAny_handleBy_cons (codeAny_handlers_test ?_) (by ext z;cases z);let I2m:Inv (Cx.mark X e) N5 σ H { s with heap:=Md }:=T3 Q;show Wx I2m Gz hm ?_ Y;let⟨nm,abd,N,bs,bm,hdct,sn,sub,ab,col,dc,k0,k1,k2,k3,k5,nid,L,_,_⟩:=jr Q.GA hC;let⟨Fd,qn',N',ω,xW,uQ,C_,wd,ab',wU,dc',j0,j1,j2,j3,j5,nid',W,t,_⟩:=jr Q.GA hB;let⟨aak,vs,oT2,tsx,Z,M,hdd,hdat,_⟩:=id x2;show UO L W Z M t ?_;rw[Zb0 Q.GA B L];show codeAny_handlers_suite_as ?_;show Qf x2 (fs:=(X.env::X.outer).filterMap (·.frame)) λh3 x3 Gy _=>?_;let I3:=Zz Q S j Gy E c;let⟨ob3,vs3,oT3,ts3,O,y,J,r,_⟩:=id x3;let I4:=u' I3 O hH w;show UX (X:=Cx.mark X e) (T3 I4) GF N9 (.inl hk) (v:=.ref e) rfl (λs5 I5=>?_) (.inr hk);show bq (hs N5 s5 _ _ (DZ i D) I5 (q ob3 y J ⟨_,r⟩)) (λf o U=>?_) λ_ _ z=>z.elim
 let R:∀a d o,Inv (Cx.mark X e) N5 a d o->(∀A,Inv X N5 (a.set i aB) d A->Ba X N5 D f A)->az (model X.prog X.w) X.A (do bindName X.env n .none;pA X.env n pos) (λ_ g=>Ba X N5 D f g) X.Ar o:=λa d o h k=>
  r' (Rn I.ok h) GF N9 hk k
 cases f with
 | next=>
  let⟨a,d,h,z⟩:=U;apply R a d o h λA p=>⟨_,_,p,z⟩
 | ret u=>
  let⟨v,a,d,h,r6,z⟩:=U;apply R a d o h λA p=>⟨v,_,_,p,r6,z⟩
 | brk=>
  let⟨a,d,h,z⟩:=U;apply R a d o h λA p=>⟨_,_,p,z⟩
 | cont=>
  let⟨a,d,h,z⟩:=U;apply R a d o h λA p=>⟨_,_,p,z⟩
end
def B5(i:Nat):Out->Out
 | .L4 s=>.L4 (s.set i aB)
 | .Gw s=>.Gw (s.set i aB)
 | .Gq s=>.Gq (s.set i aB)
 | .Cj l=>.Cj l
def Nv(R:List PV->Option bJ)(fs:List XE)(i:Nat)(f:XS):XS:=λs=>(A2 fs s).bind λls=>(R ls).bind λn=>(f (s.set i (aA (.exc n)))).map (B5 i)
def VU{K:aG}{O:N6}{n H:Hp}{bD:aaq}{s:ZK}{m:Mz}{i:Nat}(d:i∉O)(r:Rel K O n bD s m H):Rel K O n (λj=>if j=i then [] else bD j) (s.set i aB) (m.set i aB) H:=by
 show⟨r.same,by rw[cq,cq];apply r.len,λj a e=>?_,λj h=>?_,λj c=>?_,λj c p g=>?_,λj c k o p g=>?_⟩
 ·by_cases b:j=i
  ·subst b;rw[cB] at e;simp at e
  ·rw[cu (bU b)] at e ⊢;rw[N4 b];apply r.is j a e
 ·by_cases b:j=i
  ·rw[An b]
  ·rw[N4 b];show r.ud j λl z=>h l ?_;rw[cu (bU b)];apply z
 ·let b:j≠i:=λz=>d (z▸c);dsimp[N4 b];apply r.nd j c
 ·let b:j≠i:=λz=>d (z▸c);dsimp[N4 b] at g;apply r.own j c p g
 ·let b:j≠i:=λz=>d (z▸c);dsimp[N4 b] at g;by_cases f:k=i
  ·rw[An f];simp
  ·rw[N4 f];apply r.p' j c k o p g
def Lv(X:Cx)(hs:List kd)(body:Cs)(t:Cq):Prop:=
 ∀(N5:JK)(s:aR)(σ:Mz)(H:Hp)(D:J4),Inv X N5 σ H s->t D σ H->az (model X.prog X.w) X.A (execs body X.env) (λf s₁=>match f with | .next=>az (model X.prog X.w) X.A (execs [] X.env) (Ba X N5 D) X.Ar s₁ | f=>Ba X N5 D f s₁)
  (λe s₁=>az (model X.prog X.w) X.A (nG e X.env) (λ_ s₂=>az (model X.prog X.w) X.A (setFlight e aB) (λ_ s₃=>az (model X.prog X.w) X.A (handleBy e X.env hs) (Ba X N5 D) X.Ar s₃) X.Ar s₂) X.Ar s₁) s
def Zn5(h:Lv X (h₀::hs) body t):AV X (.Try body (h₀::hs) [] [] pos) t:=λa s b H D I q=>nH (h a s b H D I q)
def Zn6(v:A5 X.EA c fc)(w:Lv X hs a (Dc X.K O W f))(u:Lv X hs b (Dc X.K O W g)):Lv X hs [.If c a b pos] (Dc X.K O W (EI fc f g)):=by
 intro l s m H D I ⟨o,bD,n,h,r,e,k⟩;let⟨d,y,e⟩:=Zc e;show iH (wpAny_If (bq (v l s m H (λb i=>b=d/\AJ H i) (I.aag _) ⟨λ_=>False,n,d,λ_ z=>z.elim,r.env,y,λi s1=>⟨rfl,s1⟩⟩) (λb s1 ⟨i,j,t,p⟩=>?_) λ_ _ z=>z.elim));let j:=j.aab;subst t
 cases b with
 | true=>
  show bq (w l s1 m i D j ⟨o,bD,n,h,r.grow p,e,k⟩) (λf s2 q=>?_) λ_ _ x=>x
  cases f with
  | next=>apply g7 q
  | _=>apply q
 | false=>
  show bq (u l s1 m i D j ⟨o,bD,n,h,r.grow p,e,k⟩) (λf s2 q=>?_) λ_ _ x=>x
  cases f with
  | next=>apply g7 q
  | _=>apply q
section
variable {X:Cx} {O W:N6} {k n i:Nat} {x cx nm:bJ} {ps:Gm} {R:List PV->Option bJ} {e:bT} {Gi:Mk} {fs:List XE} {p cp ep np Gn pos:g6} {b₀:cD} {hY:Cs} {f:XS} {Cb:aP} {EH:List kd}
def Zgd(CX:kx X.prog X.w X.K X.mg X.base x ps (KA X.K R n) k)(hr:Cm k X.A)(Gz:Gl X x)(Mi:Kr X.EA (e::Gi) fs)(hx:X.ex=[])(yP:X.stack=X.env::X.outer)(y4:X.env.frame=aA X.env.locals)
  (GF:X.N.Nodup) (N9:X.N[i]?=aA nm) (hk:X.env.scope.names.lookup nm=aA .local) (y0:Gl X cx) (yW:X.mg cx=aA (.ref Cb)) (hB:fF X.K Cb "BaseException" = aD)
  (hR:∀ls m,R ls=aA m->∃C,dm X.K bY m=aA (aA (.ref C))/\fF X.K C "BaseException" = aD/\IZ X.K C Cb=aD)
  (hs:∀e,Lb (Cx.mark X e) O W (b₀::hY) f) (d:i∉O) (yO:gO (.Call (.Name x p) (e::Gi) [] cp) aB ep.line X.env=pure aC|>On) (Ay:la fs=n|>On)
  (y7:(x==("__debug__" : bJ))=aC|>Op) (S:(cx==("__debug__" : bJ))=aC|>Op) (he:aN (e::Gi) X.env=(aC,eval e X.env)::aN Gi X.env|>On) (yQ:(ck cp (aN Gi X.env)).any (·.1)=aC|>On) :
  Lv X (.ExceptHandler (aA (.Name cx np)) (aA nm) (b₀::hY) Gn::EH) [.Expr (.Call (.Name x p) (e::Gi) [] cp) ep] (Dc X.K O (i::W) (Nv R fs i f)):=by
 intro N5 s σ H D I ⟨H0,bD,sp,out,r,N,ok⟩;let⟨ls,e2,N⟩:=Zc N;let⟨m,Gy,N⟩:=Zc N;let⟨o1,e4,rfl⟩:=map_some N;let⟨C,P,hC,Ck⟩:=hR ls m Gy;let⟨fa,fd,yV,yY,y9,F⟩:=CX.ex;show iH (oX ?_ I.quiet yO);show cU (Wx I Gz yV ?_ y7);show gU I.ok.mod.aav yY ?_ he yQ;show bq (Mi cp N5 s σ H (λvs A=>AJ H A/\∃E,JX X.K A ls vs E) (I.aag _) ⟨λ_=>False,sp,ls,λ_ z=>z.elim,r.env,e2,λvs A E s1 Z _=>⟨s1,E,Z⟩⟩) (λY s1 ⟨vs,A,w,rv,sm,E,Z⟩=>?_) λ_ _ z=>z.elim;let w:=w.aab;let lv:vs.length=n:=by rw[Z.len,Xu e2,Ay]
 let J:KA X.K R n vs A (λ_ _=>False) (λQ dd L=>Q = .ref C/\dd=aB/\AJ A L):=⟨lv,ls,E,m,Z,Gy,λC' L Ex sm=>⟨by rw[P] at Ex;cases Ex;rfl,rfl,sm⟩⟩;let Kb:(Y++[]).length=la ps:=by rw[bx,<-rv.length,lv];let:=F.len _ _ _ _ J;lia
 let U:=y9 s1 Y w.GA Kb;rw[bx] at U;show⟨w.GA,jx (fX (F.run X.A X.stack s1 A ⟨Y,[]⟩ Y vs _ _ hr w.se U rv J) λres t G=>?_)⟩
 cases res with
 | ok fl=>
  cases fl with
  | ret u=>let⟨_,_,_,_,_,_,_,z⟩:=G;apply z.elim
  | next=>apply bz G
  | brk=>apply bz G
  | cont=>apply bz G
 | error v=>
  let⟨ea,Q,dd,L,rfl,yS,yZ,u,L5,⟨T,xx,hH,wA,y6,zd⟩,rfl,rfl,yz⟩:=G;let I2:=w.abp yS u L5 yZ λb Ck=>nomatch Ck;show Zn4 I2 hx yP y4 xx hH wA (SP w hx y6) (SP w hx zd) GF N9 hk y0 yW hC hB Ck (hs ea) (λoe Es Md h3=>?_) S;let we:AJ H (upd L ea (.Er oe (.own ea))):=λb o q=>by let EE:=yz b o (sm b o q);rw[a_ (Zk EE hH)];apply EE
  let iE:Is X.K (upd L ea (.Er oe (.own ea))) (.exc m) (.ref ea) []:=by dsimp[Is];apply⟨⟨ea,oe,ea,C,rfl,bh,Es,P,Md,h3⟩,trivial⟩
  let vY:i<sp.length:=by let:=(aQ.mp N9).1;rw[r.len,I.len];apply this
  let aam:=(r.grow we).set iE (λz=>absurd z d) (λk _ _ p Gn=>by simp at Gn);show⟨H0,_,_,o1,aam,e4,?_⟩;let B:∀(g:aaq)(a:Mz)(c:Hp)(t:ZK),(∀j,j∉W->a[j]?=(σ.set i (aA (V.ref ea)))[j]?/\Kq (g j) (Iq bD sp.length i [] j))->∀j,j∉i::W->(a.set i aB)[j]?=σ[j]?/\Kq (if j=i then [] else g j) (bD j):=λg a c t h j hj=>by let y:j≠i:=λz=>hj (by rw[z];apply .head _);let⟨a1,a2⟩:=h j λz=>hj (.tail _ z);rw[cu (bU y)] at a1 ⊢;rw[Z9 y] at a2;rw[N4 y];apply⟨a1,a2⟩
  cases o1 with
  | L4 t=>apply λg a c M k'=>ok _ _ _ (VU d M) (B g a c t k')
  | Gw t=>apply λg a c M k'=>ok _ _ _ (VU d M) (B g a c t k')
  | Gq t=>apply λg a c M k'=>ok _ _ _ (VU d M) (B g a c t k')
  | Cj l=>apply ok
end
end _x
namespace _x
open PySem PySem.Spec PyProof.Rows _l
def Z6:∀{ts:Gm},(∀t∈ts,t.length<=m)->piled ts<=la ts*(m+2)
 | [],_=>by simp[piled]
 | t::r,h=>by
  let c:=Z6 (m:=m) (ts:=r) λu a=>h u (by simp[a]);let b:=h t ⋯;rw[bH,Nat.add_mul,piled_cons]
  lia
def Zge(h:∀t∈ts,t.length<=m):(bJ.join ", " ts).length<=ts.length*(m+2):=by
 by_cases q:ts=[]
 ·subst q;apply dM _
 ·let:=join_length_add ts q;let:=Z6 h
  lia
def RF(h:∀t∈ts,t.length<=m):(rN ts).length<=3+ts.length*(m+2):=by
 delta rN;rw[fH,fH];let:=Zge h;let a:(fO "(").length=1:=∅
 let b:(fO (if(ts.length==1)=aD then ",)" else ")" : String)).length<=2:=by split<;>decide
 lia
def FX(H:Hp)(v:V):Prop:=v = .Ma\/(∃i:Int,v = .int i/\i.natAbs.log2<1920)\/∃(a:aP) (is:Gj),v = .ref a/\H a=aA (.tup (is.map V.int))/\la is<=100/\∀i∈is,i.natAbs.log2<1920
section
variable {X:Cx} {k:Nat} {e:bT} {JN:TE} {y:bJ} {p1 p2 p3:g6} {jj:Nat}
def Cc(JN:TE):TE:=λσ H Q=>JN σ H λv H1=>FX H1 v/\∀z,Q (.str z) H1
def Zgf(D:Cm k X.A)(F:JY X e JN)(Y:y.length<=1000|>Op):JY X (.JoinedStr [.Constant (.str y) jj p1,.FormattedValue e (-1) aB p2] p3) (Cc JN):=by
 ext d s f H Q I h;show wpAny_JoinedStr ?_;change az _ _ (eval (.Constant (.str y) jj p1) X.env) _ _ s;show Z8 (gB (X:=X) (x:=y) (j:=jj) (pos:=p1) d s f H (λv A=>v = .str y/\A=H) I ⟨rfl,rfl⟩) ?_;ext u s1 ⟨v,A,N,r,M,O⟩;subst M O;let⟨t,rfl⟩:=r;let B:(jS++y).length=y.length:=by rw[fH];change 0+_=_;lia
 let GC:(1000:Nat)+200000<=sizeLine:=∅
 show⟨y,t,rfl,(),?_⟩;change az _ _ (eval (.FormattedValue e (-1) aB p2) X.env) _ _ s1;show jO ?_;show Z8 (F d s1 f A _ N h) ?_;ext u s2 ⟨v,l,w,r,R,q⟩
 let c:∀(x:bJ)(u:si)(g:aR),x.length<=200000->Inv X d f l g->∃(b:bJ) (C:si),my x u=my b C/\(jS++y++b).length<=sizeLine/\(jS++y++b).length<=sizeLine/\EP X d f Q (.str (jS++y++b) g.toks) { g with toks:=g.toks+1 }:=λx u g hx o=>by
  show⟨x,u,rfl,?_,?_,.str _,l,o.tok _,⟨_,rfl⟩,q _⟩
  ·rw[fH,B];lia
  ·rw[fH,B];lia
 rcases R with rfl | ⟨i,rfl,p⟩ | ⟨a,is,rfl,S,Z,hs⟩
 ·obtain rfl:u=ee:=r;show n6 ?_;let o:Inv X d f l { s2 with toks:=s2.toks+1+1 }:=w.kept (t':=s2.toks+1+1) λ_ _ z=>z;apply c "None" _ _ ∅ o
 ·let⟨C,rfl⟩:=r;show kU p ?_;let:=iW (k:=1920) ∅ p;apply c (toString i) _ _ (by rw[gY];lia) (w.tok _)
 ·obtain rfl:u=cZ a:=r;let⟨_,Av,P,aak,L,J,n,E⟩:=(show J6 X.prog X.w l s2.heap a (.tup (is.map V.int)) from w.L5 a _ S);let U:Reads s2.heap (.ref a) (.tuple (is.map fC)) []:=.tuple L J E (QC (~~~P))
  let MO:(n8 (is.map fC)).shown.length<=3+is.length*(1930+2):=by
   change(rN (lC (is.map fC))).length<=_;rw[zB];let:=RF (ts:=is.map λi=>fO (toString i)) (m:=1930) λt T=>by let⟨i,p,rfl⟩:=aa.mp T;let:=iW (k:=1920) ∅ (hs i p);rw[gY];lia
   rwa [aJ] at this
  let G:is.length*(1930+2)<=193200:=()
  let Ax:=D.un;let Cr:=UT is
  show pC U (RD hs) (λz=>by rw[show(n8 (is.map fC)).hasDict=kQ (is.map fC) from rfl,Uh] at z;cases z) D.Ic (by
   change X.A.units+(nZ (.tuple (is.map fC))+2)<gE;dsimp[nZ]
   lia) (λ_ _ z=>z) (λh' u tk W=>?_) ()
  let o:Inv X d f l { s2 with heap:=h',toks:=tk }:=w.kept W;apply c _ u _ () o
end
end _x
namespace _x
open PySem PySem.Spec PyProof.Rows _l _v
abbrev XF:=ZK->Option (bJ×PV)
def K7:PV->Bool
 | .Ma=>aD
 | .int i=>decide (i.natAbs.log2<1920)
 | .tup l=>match J9 l with
  | some is=>decide (is.length<=100)&&is.all λi=>decide (i.natAbs.log2<1920)
  | none=>aC
 | _=>aC
def VN{K:aG}{H:Hp}{l:PV}{v:V}{e:Gs}(h:Is K H l v e)(g:K7 l=aD):FX H v/\e=[]:=by
 cases l with
 | Ma=>apply⟨.inl h.jg.1,h.jg.2⟩
 | int i=>apply⟨.inr (.inl ⟨i,h.int_inv.1,of_decide_eq_true g⟩),h.int_inv.2⟩
 | tup l=>
  let a:(match J9 l with | some is=>decide (is.length<=100)&&is.all λi=>decide (i.natAbs.log2<1920) | none=>aC)=aD:=g;split at a
  ·rename_i is d;let:=Yn d;subst this;let⟨p,xs,rfl,f,c⟩:=h.b_;let⟨rfl,rfl⟩:=c.iL;rw[af] at a;apply⟨.inr (.inr ⟨p,is,rfl,f,of_decide_eq_true a.1,λi c=>of_decide_eq_true (bN.mp a.2 i c)⟩),rfl⟩
  ·cases a
 | Ap b=>cases g
 | str x=>cases g
 | ty n=>cases g
 | exc n=>cases g
 | Cu n l=>cases g
 | ox n l=>cases g
 | lst l=>cases g
 | cst l=>cases g
 | Mf ks l=>cases g
 | L8 ks l=>cases g
section
variable {prog:bO} {w:bX} {A:bg} {E:Gu} {K:aG} {a C:aP}
def hp(X:K.In s.heap)(l:s.heap.get? a=aA o)(f:o.cls = .ref C)(q:o.data = .fields vs)(k:o.dict=aB)
  (v:eY K (.ref C) "__getattribute__" = aA (aA (.builtin "BaseException.__getattribute__")))
  (G:eY K (.ref C) "__getattr__" = aA aB) (P:eY K (.ref C) "__class__" = aA (aA (.builtin "object.__class__"))) (r:mW K C (.type "object")=aA aD) (D:fF K C "BaseException" = aD)
  (h:Q (aA (.ref C)) { s with toks:=s.toks+1 }):az (model prog w) A (getAttr? (.ref a) "__class__") Q E s:=by
 let⟨e,g,d,t,os⟩:=s;let I:oZ e a o C aB:=⟨l,f,by delta PySem.W.notCls;rw[q],by rw[k];trivial⟩;let z:=I.type (M:=model prog w);let y:=ku (M:=model prog w) X v;delta getAttr? getAttrBy? getAttrBy;show aE (wpAny_mkText (aE (ik (cg (aE (z.at (aE (y.at ?_))))))));let n:=ku (M:=model prog w) X G;let u:=ku (M:=model prog w) X P;change az (model prog w) A (getAttrByItsOwn (.ref a) (.str "__class__" t) (.ref C) (.builtin "BaseException.__getattribute__") aC aC) _ _ _;let T:=F.attr_ValueError.ga.bind (.ref a);delta getAttrByItsOwn
 repeat (any_goals (first | assumption | wp_step | (show aE (n.at ?_)) | (show n.at ?_)))
 let⟨nm,H,N,bs,p,hdct,sn,sub,ab,col,B,k0,k1,k2,k3,k5,j,m,c,_⟩:=jr X D;let m:e.get? C=aA (kq nm H C N bs p hdct sn sub ab col B k0 k1 k2 k3 k5 j):=m;let i:(cZ C::p).contains (.type "BaseException")=aD:=by rw[qK,c,Bool.or_true]
 let J:=I.type (M:=model prog w);change jT (model prog w) A (.call (.builtin "BaseException.__getattribute__") ⟨[.ref a,.str "__class__" t],[]⟩) _ ⟨e,g,d,t+1,os⟩;show pE F.attr_ValueError.ga.plain F.entry_bexc_ga ?_;let O:builtinKind "BaseException.__getattribute__" = aA .slot:=by decide +kernel
 let b:splitId "BaseException.__getattribute__" = aA ("BaseException","__getattribute__"):=by decide +kernel
 let U:=F.args_bexc_ga (.ref a) (.str "__class__" t);dsimp[checkBuiltinCall,O,b];show aE ?_;delta isInstance
 repeat (first | (with_reducible show gw l ?_;rw[f]) | (with_reducible show iD m ?_;rw[i]) | wp_step)
 show u.at ?_;let S:=PySem.W.KF.type_class;let W:=F.slot_gs_get.lookup;let R:=F.slot_gs_set.lookup
 repeat (any_goals (first | assumption | (with_reducible show gw l ?_;rw[f]) | wp_step))
 let L:K.In (⟨e,g,d,t+1,os⟩:aR).heap:=X;let x:oZ (⟨e,g,d,t+1,os⟩:aR).heap a o C aB:=I;show PySem.W.class_get L x r ?_
 repeat (any_goals (first | assumption | wp_step))
end
def Ad(a C:aP)(h:bp):Prop:=∃o,h.get? a=aA o/\o.cls = .ref C/\o.dict=aB/\∃vs,o.data = .fields vs
structure DC(K:aG)(C:aP):Prop where
 ga:eY K (.ref C) "__getattribute__" = aA (aA (.builtin "BaseException.__getattribute__"))
 gr:eY K (.ref C) "__getattr__" = aA aB
 cl:eY K (.ref C) "__class__" = aA (aA (.builtin "object.__class__"))
 mr:mW K C (.type "object")=aA aD
 kt:fF K C "BaseException" = aD
def Zb3{K:aG}{a C:aP}(c:DC K C):PySem.W.KitX K (.ref a) (.ref C) (Ad a C) where
 ty:=λM h _ ⟨o,d,i,_⟩=>i▸(PySem.W.Looks.ld d).andThen .now
 it:=λM h X _=>by let⟨nm,p,N,bs,r,hdct,sn,sub,ab,col,m,k0,k1,k2,k3,k5,f,g,_⟩:=jr X c.kt;ext u x t v k q;apply aE (wpAny_loadPart (k _ _ g) (aM q))
 ne:=λh s dd w n y X b=>by let⟨nm,p,N,bs,r,hdct,sn,sub,ab,col,m,k0,k1,k2,k3,k5,f,g,_⟩:=jr X c.kt;show Bool.eq_false_iff.mpr λq=>?_;let e:=cZ.inj (beq_iff_eq.mp q);subst e;rw[g] at b;apply absurd (congrArg fE.cls (bM b)) (show ¬(jH "type" = jH "tuple") by decide)
 ca:=λX ⟨o,d,i,l,vs,j⟩ k=>hp X d i j l c.ga c.gr c.cl c.mr c.kt k
def Lc(Gx:bJ->Option Bool)(f:XE):XE:=λs=>match f s with
 | some (.exc n)=>(Gx n).map PV.Ap
 | _=>aB
inductive tV:V->aI->Prop
 | own (C:aP):tV (.ref C) (.ref C)
 | ty (T:L_):tV (.ty T) (.type T)
def tV.rel(h:tV cv c)(r:RelV cv u):u=c:=by
 cases h with
 | own C=>apply r
 | ty T=>apply r
section
variable {X:Cx} {e:bT} {f:XE} {cx:bJ} {p p2 pos:g6} {Gx:bJ->Option Bool} {c:aI} {cv:V}
def Ro:Ie X (.builtin "isinstance") (λxs H Q=>∃a C e c b o x,xs=[.ref a,e]/\tV e c/\H a=aA (.Er o (.own x))/\o.cls = .ref C/\o.dict=aB/\(∃vs,o.data = .fields vs)/\DC X.K C/\c9 X.K (.ref C) c=aA b/\Q (.Ap b) H):=by ext t s w H xs p Q I r h;let⟨a,C,e,c,b,o,x,rfl,d,k,i,f,j,g,n,q⟩:=h;let⟨u,v,rfl,m,l⟩:=qi r;obtain rfl:=d.rel l;obtain rfl:=m;apply dU (Zb3 g) I.GA ⟨o,(I.L5 a _ k).1,i,f,j⟩ n (λz=>nomatch z) λtk=>⟨.Ap b,H,I.tok tk,rfl,q⟩
def Zgg(b:Gl X cx)(c:X.mg cx=aA (.ref C))(a:(cx==("__debug__" : bJ))=aC|>Op):JY X (.Name cx p2) (λ_ H Q=>Q (.ref C) H):=λd s e H Q I h=>Wx I b c ⟨.ref C,H,I,rfl,h⟩ a
def Zgh(c:Gl X cx)(e:X.mg cx=aB)(b:dj cx=aA (.type T))(d:cx≠"__name__"|>Op)(a:(cx==("__debug__" : bJ))=aC|>Op):JY X (.Name cx p2) (λ_ H Q=>Q (.ty T) H):=λf s g H Q I h=>Xv I c e b ⟨.ty T,H,I,rfl,h⟩ d a
def Zb4(h:Gl X "isinstance")(G:X.mg "isinstance" = aB)(u:JW X e f)(j:tV cv c)(D:JY X (.Name cx p2) (λ_ H Q=>Q cv H))
  (I:∀n b,Gx n=aA b->∃C,dm X.K bY n=aA (aA (.ref C))/\DC X.K C/\c9 X.K (.ref C) c=aA b)
  (a:aN [e,.Name cx p2] X.env=(aC,eval e X.env)::aN [.Name cx p2] X.env|>On) (r:aN [.Name cx p2] X.env=(aC,eval (.Name cx p2) X.env)::aN [] X.env|>On) (i:(ck pos (aN [.Name cx p2] X.env)).any (·.1)=aC|>On):AU X (.Call (.Name "isinstance" p) [e,.Name cx p2] [] pos) (Lc Gx f):=
 JY.imp (OB Ro h G rfl (ZQ u (ZQ D YN) (hs:=a)) ∅ rfl a i)<|by
  ext N H Q ⟨s,l,env,g,k⟩;delta Lc at g;split at g
  ·rename_i n B;let⟨b,y,rfl⟩:=map_some g;let⟨C,q,w,J⟩:=I n b y;show⟨λ_=>False,s,.exc n,λ_ z=>z.elim,env,B,λv L O s1 A _=>?_⟩;let⟨⟨ea,o,x,P,rfl,F,m,d,t,E⟩,_⟩:=A;rw[q] at d;cases d;apply⟨ea,C,cv,c,b,o,x,rfl,j,F,m,t,E,w,J,k _ L [] s1 (Is.Ap _) cI λp M=>by simp at M⟩
  ·cases g
end
def Bq(k:Bool):List Bool->Option Nat
 | []=>aB
 | x::r=>if x=k then aA 0 else(Bq k r).map (· + 1)
def Rw:∀{l:L0}{j:Nat},Bq k l=aA j->l[j]?=aA k/\∀m,m<j->l[m]?≠aA k
 | [],_,h=>by cases h
 | x::r,j,h=>by
  delta Bq at h;split at h
  ·rename_i e;cases h;apply⟨by simp[e],λm c=>()⟩
  ·rename_i e
   cases q:Bq k r with
   | none=>rw[q] at h;cases h
   | some i=>
    rw[q] at h;cases h;let⟨a,b⟩:=Rw q;show⟨by simpa using a,λm c=>?_⟩
    cases m with
    | zero=>simpa using e
    | succ m=>have d:m+1<i+1:=c;simpa using b m ()
def LY(K:aG):V->List V->Hp->Me->Prop:=λx vs H Q=>∃(p:aP) (ns:L0) (k:Bool) (j:Nat),x = .ref p/\vs=[.Ap k]/\EJ K H p (ns.map V.Ap)/\Bq k ns=aA j/\Q (.int (j:Int)) H
def Ep(K:aG):V->List V->Hp->Me->Prop:=λx vs H Q=>∃(p:aP) (ns:L0) (k:Bool),x = .ref p/\vs=[.Ap k]/\EJ K H p (ns.map V.Ap)/\Q (.int ((ns.filter (·==k)).length:Int)) H
def Oh{ns:L0}{b:Gr}(r:Gp (ns.map V.Ap) b):b=ns.map nJ:=by
 induction ns generalizing b with
 | nil=>cases r;rfl
 | cons a t N8=>
  cases r with
  | cons Es Md=>rw[N8 Md];cases Es;rfl
def e3{X:Cx}:MK X "list.index" (LY X.K):=by
 ext R s S H x vs v P Q I L D h;let⟨p,ns,k,j,rfl,rfl,E,M,q⟩:=h;cases L;let⟨u,rfl,N⟩:=Vy D;obtain rfl:=N;let⟨T,r,G,B⟩:=I.list E;let⟨o,n,t,C,z,hs⟩:=G;let⟨A,dd,w,O⟩:=o;subst C z hs;rw[aJ] at B;let d:=Oh r;subst d;let⟨a,b⟩:=Rw M;let g:=(aQ.mp a).1;let' e:aI->Bool:=λy=>match y with | .bool c=>c==k | _=>aC
 let GC:sizeLine<2^62:=∅
 show iT F.slot_list_index ⟨_,t,rfl⟩ F.entry_list_index (F.args_list_index_2 _ _) (SeqAt.list_indexAt p (ns.map nJ).toArray n aB O (.bool k) e j (by simp;lia) () ?_ ?_) ⟨t,λy l=>?_,.int (j:Int),H,I.tok _,⟨_,rfl⟩,q⟩
 ·rw[aF g] at a;dsimp[pH,jW];change(ns[j]==k)=aD;rw[bM a];simp
 ·ext m J i;let f:m<ns.length:=by simpa using J
  let:=b m i;rw[aF f] at this;dsimp[pH,jW];change(ns[m]==k)=aC;simpa using this
 ·simp at l;rcases l with⟨d,rfl⟩ | ⟨d,rfl⟩<;>apply km _ _
def v'{X:Cx}:MK X "list.count" (Ep X.K):=by
 ext D s E H x vs v C Q I z m h;let⟨p,ns,k,rfl,rfl,t,q⟩:=h;cases z;let⟨u,rfl,A⟩:=Vy m;obtain rfl:=A;let⟨J,r,w,G⟩:=I.list t;let⟨o,n,f,l,i,hs⟩:=w;let⟨j,dd,g,B⟩:=o;subst l i hs;let b:=Oh r;subst b;let' e:aI->Bool:=λy=>match y with | .bool c=>c==k | _=>aC
 let a:((ns.map nJ).toArray.toList.countP e)=(ns.filter (·==k)).length:=by rw[<-ie];dsimp[rj];rfl
 show iT F.slot_list_count ⟨_,f,rfl⟩ F.entry_list_count (F.args_list_count_2 _ _) (SeqAt.list_countAt p (ns.map nJ).toArray n aB B (.bool k) e) ⟨f,λy d=>?_,?_⟩
 ·simp at d;rcases d with⟨b,rfl⟩ | ⟨b,rfl⟩<;>apply km _ _
 ·rw[a];apply⟨.int _,H,I.tok _,⟨_,rfl⟩,q⟩
def Jd:PV->PV->Option PV
 | .lst l,.Ap k=>(Np l).bind λns=>(Bq k ns).map λ(j:Nat)=>PV.int (j:Int)
 | _,_=>aB
def Je:PV->PV->Option PV
 | .lst l,.Ap k=>(Np l).map λns=>PV.int ((ns.filter (·==k)).length:Int)
 | _,_=>aB
section
variable {X:Cx} {o e:bT} {fo fe:XE} {apos t8:g6}
def oL(z:JW X o fo)(i:JW X e fe)
  (b:p9 o "index" X.env (eval o X.env)=eval o X.env|>On)
  (d:((ck t8 (aN [e] X.env)).all (λx=>!x.1)&&(sJ t8 (o5 [] X.env)).all (λx=>x.1.isSome)
   &&decide (([e]:Mk).length+([]:List pN).length+(if([]:List pN).isEmpty then 0 else 1)<30))=aD:=by rfl)
  (c:(apos.endLine==t8.line)=aD|>On) (hs:aN [e] X.env=(aC,eval e X.env)::aN [] X.env|>On) (a:(ck t8 (aN [] X.env)).any (·.1)=aC|>On) :
  JW X (.Call (.Attribute o "index" apos) [e] [] t8) (Cy Jd fo fe):=
 JY.imp (VB F.plainAttrs_list F.slot_list_index F.type_list_index e3 z (Y4 i Ue hs) b d c hs a)<|by
  ext M H Q ⟨h,s,l,f,env,e,k⟩;let⟨m,P,J,C,e⟩:=VG e;show⟨h,s,m,f,env,J,λv T O s1 y R=>?_⟩;delta Jd at e;split at e
  ·let⟨ns,B,A⟩:=Zc e;let⟨j,G,rfl⟩:=map_some A;let L:=WB B;subst L;let⟨p,xs,t,rfl,g,E,_⟩:=y.lst_inv;let⟨rfl,rfl⟩:=E.bL;show⟨.inl ⟨rfl,_,.inl (.inl g)⟩,h,s,[.Ap _],λq D=>AJ.mut s1 (f q D),env.mono s1,by change(fe s).bind _=_;rw[C];rfl,λvs N t s2 u S=>?_⟩;let⟨w,rfl,n⟩:=u.c0;rw[n.dV.1];apply⟨p,ns,_,j,rfl,rfl,.inl (.inl (s2 _ _ g)),G,k _ _ [] (s1.trans s2) (Is.int _) λr I=>by simp at I⟩
  ·cases e
def hl(y:JW X o fo)(i:JW X e fe)
  (b:p9 o "count" X.env (eval o X.env)=eval o X.env|>On)
  (d:((ck t8 (aN [e] X.env)).all (λx=>!x.1)&&(sJ t8 (o5 [] X.env)).all (λx=>x.1.isSome)
   &&decide (([e]:Mk).length+([]:List pN).length+(if([]:List pN).isEmpty then 0 else 1)<30))=aD:=by rfl)
  (c:(apos.endLine==t8.line)=aD|>On) (hs:aN [e] X.env=(aC,eval e X.env)::aN [] X.env|>On) (a:(ck t8 (aN [] X.env)).any (·.1)=aC|>On) :
  JW X (.Call (.Attribute o "count" apos) [e] [] t8) (Cy Je fo fe):=
 JY.imp (VB F.plainAttrs_list F.slot_list_count F.type_list_count v' y (Y4 i Ue hs) b d c hs a)<|by
  ext I H Q ⟨h,s,l,f,env,e,k⟩;let⟨j,M,E,A,e⟩:=VG e;show⟨h,s,j,f,env,E,λv P L s1 u N=>?_⟩;delta Je at e;split at e
  ·let⟨ns,z,rfl⟩:=map_some e;let G:=WB z;subst G;let⟨p,xs,n,rfl,g,C,_⟩:=u.lst_inv;let⟨rfl,rfl⟩:=C.bL;show⟨.inl ⟨rfl,_,.inl (.inl g)⟩,h,s,[.Ap _],λq B=>AJ.mut s1 (f q B),env.mono s1,by change(fe s).bind _=_;rw[A];rfl,λvs J n s2 t O=>?_⟩;let⟨w,rfl,m⟩:=t.c0;rw[m.dV.1];apply⟨p,ns,_,rfl,rfl,.inl (.inl (s2 _ _ g)),k _ _ [] (s1.trans s2) (Is.int _) λr D=>by simp at D⟩
  ·cases e
end
section
variable {X:Cx} {O W:N6} {k n i:Nat} {x y cx nm:bJ} {ps:Gm} {R:List PV->Option bJ} {e:bT} {Gi:Mk} {fs:List XE} {p py cp ep np Gn pos:g6} {b₀:cD} {hY:Cs} {f:XS} {Cb:aP} {EH:List kd}
def Zgk(CX:kx X.prog X.w X.K X.mg X.base x ps (KA X.K R n) k)(hr:Cm k X.A)(Gz:Gl X x)(Mi:Kr X.EA (e::Gi) fs)(hx:X.ex=[])(yP:X.stack=X.env::X.outer)(y4:X.env.frame=aA X.env.locals)
  (GF:X.N.Nodup) (N9:X.N[i]?=aA nm) (hk:X.env.scope.names.lookup nm=aA .local) (y0:Gl X cx) (yW:X.mg cx=aA (.ref Cb)) (hB:fF X.K Cb "BaseException" = aD)
  (hR:∀ls m,R ls=aA m->∃C,dm X.K bY m=aA (aA (.ref C))/\fF X.K C "BaseException" = aD/\IZ X.K C Cb=aD)
  (hs:∀e,Lb (Cx.mark X e) O W (b₀::hY) f) (d:i∉O) (yO:gO (.Call (.Name x p) (e::Gi) [] cp) (aA (.Name y py)) ep.line X.env=pure aC|>On) (Ay:la fs=n|>On)
  (y7:(x==("__debug__" : bJ))=aC|>Op) (U:(cx==("__debug__" : bJ))=aC|>Op) (he:aN (e::Gi) X.env=(aC,eval e X.env)::aN Gi X.env|>On) (yQ:(ck cp (aN Gi X.env)).any (·.1)=aC|>On) :
  MX X O (i::W) (.Try [.Assign [.Name y py] (.Call (.Name x p) (e::Gi) [] cp) ep] (.ExceptHandler (aA (.Name cx np)) (aA nm) (b₀::hY) Gn::EH) [] [] pos) (Nv R fs i f):=by
 intro N5 s σ H D I ⟨H0,bD,sp,out,r,P,ok⟩;let⟨ls,e2,P⟩:=Zc P;let⟨m,Gy,P⟩:=Zc P;let⟨o1,e4,rfl⟩:=map_some P;let⟨C,Q,hC,Ck⟩:=hR ls m Gy;let⟨fa,fd,yV,yY,y9,F⟩:=CX.ex;show nH (iH (wpAny_Assign_Name ?_ yO));show cU (Wx I Gz yV ?_ y7);show gU I.ok.mod.aav yY ?_ he yQ;show bq (Mi cp N5 s σ H (λvs B=>AJ H B/\∃G,JX X.K B ls vs G) (I.aag _) ⟨λ_=>False,sp,ls,λ_ z=>z.elim,r.env,e2,λvs B G s1 i1 _=>⟨s1,G,i1⟩⟩) (λZ s1 ⟨vs,B,w,rv,sm,G,i1⟩=>?_) λ_ _ z=>z.elim;let w:=w.aab;let lv:vs.length=n:=by rw[i1.len,Xu e2,Ay]
 let L:KA X.K R n vs B (λ_ _=>False) (λS dd M=>S = .ref C/\dd=aB/\AJ B M):=⟨lv,ls,G,m,i1,Gy,λC' M Ex sm=>⟨by rw[Q] at Ex;cases Ex;rfl,rfl,sm⟩⟩;let Kb:(Z++[]).length=la ps:=by rw[bx,<-rv.length,lv];let:=F.len _ _ _ _ L;lia
 let Y:=y9 s1 Z w.GA Kb;rw[bx] at Y;show⟨w.GA,jx (fX (F.run X.A X.stack s1 B ⟨Z,[]⟩ Z vs _ _ hr w.se Y rv L) λres t J=>?_)⟩
 cases res with
 | ok fl=>
  cases fl with
  | ret u=>let⟨_,_,_,_,_,_,_,z⟩:=J;apply z.elim
  | next=>apply bz J
  | brk=>apply bz J
  | cont=>apply bz J
 | error v=>
  let⟨ea,S,dd,M,rfl,yS,yZ,u,L5,⟨T,xx,hH,wA,y6,zd⟩,rfl,rfl,yz⟩:=J;let I2:=w.abp yS u L5 yZ λb Ck=>nomatch Ck;show Zn4 I2 hx yP y4 xx hH wA (SP w hx y6) (SP w hx zd) GF N9 hk y0 yW hC hB Ck (hs ea) (λoe Es Md h3=>?_) U;let we:AJ H (upd M ea (.Er oe (.own ea))):=λb o q=>by let EE:=yz b o (sm b o q);rw[a_ (Zk EE hH)];apply EE
  let iE:Is X.K (upd M ea (.Er oe (.own ea))) (.exc m) (.ref ea) []:=by dsimp[Is];apply⟨⟨ea,oe,ea,C,rfl,bh,Es,Q,Md,h3⟩,trivial⟩
  let vY:i<sp.length:=by let:=(aQ.mp N9).1;rw[r.len,I.len];apply this
  let aam:=(r.grow we).set iE (λz=>absurd z d) (λk _ _ p Gn=>by simp at Gn);show⟨H0,_,_,o1,aam,e4,?_⟩;let E:∀(g:aaq)(a:Mz)(c:Hp)(t:ZK),(∀j,j∉W->a[j]?=(σ.set i (aA (V.ref ea)))[j]?/\Kq (g j) (Iq bD sp.length i [] j))->∀j,j∉i::W->(a.set i aB)[j]?=σ[j]?/\Kq (if j=i then [] else g j) (bD j):=λg a c t h j hj=>by let A:j≠i:=λz=>hj (by rw[z];apply .head _);let⟨a1,a2⟩:=h j λz=>hj (.tail _ z);rw[cu (bU A)] at a1 ⊢;rw[Z9 A] at a2;rw[N4 A];apply⟨a1,a2⟩
  cases o1 with
  | L4 t=>apply λg a c N k'=>ok _ _ _ (VU d N) (E g a c t k')
  | Gw t=>apply λg a c N k'=>ok _ _ _ (VU d N) (E g a c t k')
  | Gq t=>apply λg a c N k'=>ok _ _ _ (VU d N) (E g a c t k')
  | Cj l=>apply ok
def Uw(e:Lb X.EA O W body f):MX X O W (.Try body (h₀::hs) [] [] pos) f:=by
 ext d s g H D I h;show nH (bq (e d s g H D (I.aag _) h) (λi s1 q=>?_) λ_ _ z=>z.elim)
 cases i with
 | next=>
  let⟨a,b,c,z⟩:=q;apply g7 ⟨a,b,c.aab,z⟩
 | ret u=>
  let⟨v,a,b,c,r,z⟩:=q;apply⟨v,a,b,c.aab,r,z⟩
 | brk=>
  let⟨a,b,c,z⟩:=q;apply⟨a,b,c.aab,z⟩
 | cont=>
  let⟨a,b,c,z⟩:=q;apply⟨a,b,c.aab,z⟩
def Bf(f g:XS):XS:=λs=>match f s with
 | some o=>aA o
 | none=>g s
def Zi0{st:cD}{g:XS}{a b:N6}(m:MX X O a st f)(q:MX X O b st g):MX X O (a++b) st (Bf f g):=by
 intro d s h H D I ⟨i,bD,l,p,r,e,k⟩;let s1:∀j,j∉a++b->j∉a:=λj c z=>c (au _ z);let s2:∀j,j∉a++b->j∉b:=λj c z=>c (bA _ z);delta Bf at e;split at e
 ·rename_i o n;cases e;apply m d s h H D I ⟨i,bD,l,_,r,n,k.same (λj _=>⟨rfl,Kq.refl _⟩) s1⟩
 ·apply q d s h H D I ⟨i,bD,l,_,r,e,k.same (λj _=>⟨rfl,Kq.refl _⟩) s2⟩
end
def Ju:List bJ:=["NoWeb","Apart","NoText","NoOrder","TooMany","NotSettled","NoTree","NoTotal","NoEnds","NoRow","NoName"]
structure QN(nm:bJ)(K:aG)(mg:JM)(C Cb:aP):Prop where
 no:dm K bY nm=aA (aA (.ref C))
 Fn:mg nm=aA (.ref C)
 F_:mg "PurseError" = aA (.ref Cb)
 ex:ip K C [.type "ValueError",.type "Exception",.type "BaseException",.type "object"] "ValueError.__new__" = aD
 ec:DC K C
 kb:fF K Cb "BaseException" = aD
 Ap:IZ K C Cb=aD
 cls:∀cx∈Ju,∃D,mg cx=aA (.ref D)/\c9 K (.ref C) (.ref D)=aA (decide (cx=nm))
 ve:c9 K (.ref C) (.type "ValueError")=aA aD
def DE(f:XE):XS:=λs=>(f s).map λ_=>.L4 s
def Q7(a:JW X e f)(hs:gO e aB pos.line X.env=pure aC|>On):MX X O [] (.Expr e pos) (DE f):=AV.imp (Xr a hs)<|by ext D b H ⟨i,bD,s,c,r,e,k⟩;let⟨l,h,rfl⟩:=map_some e;apply⟨λ_=>False,s,l,λ_ z=>z.elim,r.env,h,λv g m d is _=>k bD b g (r.grow d) λj _=>⟨rfl,Kq.refl _⟩⟩
section
variable {K:aG} {P:bO} {w:bX} {mg:JM} {base:bp} {x:bJ} {st:cD} {N ps:Gm} {k n:Nat} {O W:N6} {dv:Int}
def uC(m:Nat)(f:XS)(D:IL K mg x st dv)(S:Z2 N ps (GV st))
  (B:∀(T:aP)(t:si)(GS d p:aI)(l:Co)(b Gq:aI)(e:Gr),e.length=la ps->∃q:Option (Array aI)->Sem (List (bJ×aI)),
   jc (cf x x (M9 st) (Kv st) (GV st) (.ref T) GS d p l b Gq) ⟨e,[]⟩=pS (.ref T) >>= q/\q (aA #[.int dv t])=pure (ps.zip e))
  (F:la ps=n) (G:la N=m) (R:∀i∈O,n<=i)
  (c:∀(g:aP)(b:aI)(A:bg)(a:GB)(s:aR)(H:Hp)(E:Ml),Cm k (A.deeper (j6 x (GV st) s.heap.objs.size g b))->Lb (Ip Mq P w K mg base N x (GV st) g b A a s H E).EA O W (Kv st) f) :
  AG P w K mg base x ps (EV K (CB m f) n) (k+1):=by
 subst G;let⟨g,T,t,o,Y,Z,U,GS,d,p,l,b,Gq,I,r,M,j,z,lt,y⟩:=D.ex;show⟨g,_,r,z,λs e X v=>?_,XQ M j S (λvs H Q E h=>by rw[F];apply h.1) λA a s H vs Q E J u=>⟨_,(c g b A a s H E J).EA,TY R u⟩⟩;rw[bx] at v ⊢;let⟨q,C,L⟩:=B T t GS d p l b Gq e v;apply rg X rfl lt y C L
end
end _x
namespace _v
open PySem PySem.Spec PyProof.Rows _l
def Zn8(h:JW X e f):La X Eu e (Bk f):=by
 intro b s c H R I ⟨d,st,ls,a,env,e,k⟩;delta Bk at e
 cases q:G6 f st with
 | some m=>
  rw[q] at e;cases e;apply Y5 h b s c H R I ⟨d,st,_,a,env,q,k⟩
 | none=>
  rw[q] at e;apply Qq h b s c H R I ⟨d,st,ls,a,env,e,k⟩
end _v
namespace _v
open PySem
def xd(h:(ow.getD i (aA 0)).isNone=aD):kR mask ow (f+1) i p=aA i:=by delta kR;let a:∃r,js mask i+1-i=r+1:=⟨js mask i-i,by delta js;split<;>lia⟩;let⟨r,a⟩:=a;rw[a,iV,i9];dsimp[nV,h]
def FC(ks:N6)(j:Nat):Option Nat:=if j∈ks then aA (ks.idxOf j) else aB
def Nz(mask:Nat)(acc:Option (Array (Option Nat)×Nat))(h:Int):Option (Array (Option Nat)×Nat):=acc.bind λz=>(kR mask z.1 (iO mask) (m8 h%(mask+1)) (m8 h)).bind λj=>aA (z.1.setIfInBounds j (aA z.2),z.2+1)
def Tg{a:Array (Option Nat)}{j:Nat}(h:j<a.size)(d:Option Nat):a.getD j d=a[j]:=by delta nX;rw[dif_pos h];rfl
end _v
namespace _v
open PySem PySem.Spec PyProof.Rows
def ZU{k:Nat}(h:k<=31):m8 (k:Int)=k:=by
 delta m8
 lia
def Zb5{t:gH}(b:KH led t)(j:31<=t.mask){k:Nat}(e:k<=31)(h:k∉t.place.toList):t.freeSlot (k:Int)=aA (k,aC):=by
 let g:¬t.place[cC t.place k]?=aA k:=λz=>h (by
  rw[<-di] at z;apply aw z)
 let c:fZ t.dummies k=aC:=by rw[b.uA];delta fZ;simp
 let i:t.slot k = .empty:=by delta m6;rw[N4 (~~~g),c];rfl
 let st:(t.probeStart (k:Int)).j=k:=by delta pX;rw[ZU e];apply rO ()
 let a:t.probe (λ_=>(k:Int)+1) (k:Int) (t.probeStart (k:Int))=aA (.empty k aB):=by delta sW;obtain⟨f,d⟩:∃f,10*iO t.mask=f+1:=⟨10*iO t.mask-1,by delta iO;lia⟩;rw[d];delta gu;rw[st,i];rfl
 delta mR;rw[a];rfl
def Hs(j:Nat):Nat:=(j*5+1)%8
def Fv:Nat->Nat->Nat
 | 0,j=>j
 | n+1,j=>Fv n (Hs j)
def RJ{t:gH}(b:t.dummies = #[]){j:Nat}(h:t.slot j≠.empty):j∈t.place.toList/\∃i,t.slot j = .live i:=by
 let c:fZ t.dummies j=aC:=by rw[b];delta fZ;simp
 delta m6 at h ⊢;by_cases q:(t.place[cC t.place j]?==aA j)=aD
 ·rw[An q];let a:t.place[cC t.place j]?=aA j:=by simpa using q
  rw[<-di] at a;apply⟨aw a,_,rfl⟩
 ·rw[N4 q,c] at h;apply absurd rfl h
def Uv{t:gH}(b:t.dummies = #[])(c:t.mask=7){h:Int}:∀(n fuel:Nat)(p:sS),n<fuel->p.more=0->p.i=p.j->p.perturb<32->p.dummy=aB->t.slot (Fv n p.j) = .empty->
  ∃j,gu t (λ_=>h+1) h fuel p=aA (.empty j aB)
 | n,0,p,hf,_,_,_,_,_=>()
 | n,fuel+1,p,hf,Es,Md,h3,Mp,he=>by
  delta gu;by_cases q:t.slot p.j = .empty
  ·rw[q];apply⟨p.j,by rw[Mp]⟩
  ·let⟨_,i,d⟩:=RJ b q;rw[d];let ne:((h+1:Int)==h)=aC:=by simp;lia
   dsimp[ne]
   cases n with
   | zero=>apply absurd he q
   | succ n=>
    let a:t.advance p={ p with j:=Hs p.j,more:=0,i:=Hs p.j,perturb:=0 }:=by
     delta rK gH.leap js;let e:p.perturb/32=0:=()
     rw[N4 ()];dsimp[c,Md,e];let lt:(p.j*5+1+0)%(7+1)<8:=sV _ ∅;rw[N4 ()];delta Hs;simp
    rw[a];apply Uv b c n fuel _ () rfl rfl (by change 0<32;decide) Mp he
def Zgl:∀j,j<8->[Fv 0 j,Fv 1 j,Fv 2 j,Fv 3 j,Fv 4 j].Nodup:=∅
def Ta:∀{l m:N6},l.Nodup->(∀x∈l,x∈m)->la l<=la m
 | [],m,_,_=>dM _
 | x::l,m,nd,sub=>by let a:=av.mp nd;let b:=sub x ⋯;let:=Ta (l:=l) (m:=m.erase x) a.2 λy c=>(gp (λz:y=x=>a.1 (by rw[<-z];apply c))).mpr (sub y (by simp[c]));rw[iB b] at this;have:0<la m:=iX b;dsimp[bH];lia
def Zb6{led:Bool}{t:gH}(c:KH led t)(a:t.mask=7)(hs:t.place.size<=4){k:Nat}(g:k<=31):∃j,t.freeSlot (k:Int)=aA (j,aC):=by
 let e:k%8<8:=sV _ ∅
 obtain⟨n,l,d⟩:∃n,n<5/\t.slot (Fv n (k%8)) = .empty:=by
  show dQ λq=>?_;let all:=λn h=>(RJ c.uA λz=>q ⟨n,h,z⟩).1
  let:=Ta (Zgl (k%8) e) (λx b=>by
   dsimp[aY,dZ,or_false] at b;rcases b with rfl | rfl | rfl | rfl | rfl
   ·apply all 0 ∅
   ·apply all 1 ∅
   ·apply all 2 ∅
   ·apply all 3 ∅
   ·apply all 4 ∅)
  simp at this
  lia
 let st:t.probeStart (k:Int)={ j:=k%8,more:=0,i:=k%8,perturb:=k,dummy:=aB }:=by delta pX js;rw[ZU g,a];simp
 let⟨j,f⟩:=Uv c.uA a n (10*iO t.mask) { j:=k%8,more:=0,i:=k%8,perturb:=k,dummy:=aB } (by delta iO;lia) rfl rfl (by change k<32;lia) rfl d;show⟨j,?_⟩;delta mR sW;rw[st,f];rfl
def Qs{mask:Nat}(h:31<=mask):∀(ks dn:N6)(ow:Array (Option Nat)),(dn++ks).Nodup->(∀k∈ks,k<=31)->ow.size=mask+1->(∀j,j<=mask->ow.getD j aB=FC dn j)->
  ∃a,(ks.map λ(k:Nat)=>(k:Int)).foldl (Nz mask) (aA (ow,dn.length))=aA (a,(dn++ks).length)/\a.size=mask+1/\∀j,j<=mask->a.getD j aB=FC (dn++ks) j
 | [],dn,ow,_,_,hs,ho=>⟨ow,⋯,hs,by simpa using ho⟩
 | k::ks,dn,ow,nd,hk,hs,ho=>by
  let l:=hk k ⋯;let b:k∉dn:=λz=>by rw[dq] at nd;apply nd.2.2 k z k ⋯ rfl
  let fr:(ow.getD k (aA 0)).isNone=aD:=by let:=ho k ();rw[Tg ()] at this;rw[Tg (),this];delta FC;rw[N4 b];rfl
  obtain⟨f,c⟩:∃f,iO mask=f+1:=⟨mask+14,rfl⟩;let st:Nz mask (aA (ow,dn.length)) (k:Int)=aA (ow.setIfInBounds k (aA (la dn)),dn.length+1):=by delta Nz;dsimp[aZ];rw[ZU l,rO (show k<mask+1 by lia),c,xd fr];rfl
  let⟨a,m,e,d⟩:=Qs h ks (dn++[k]) (ow.setIfInBounds k (aA (la dn))) (~~~nd) (λq g=>hk q (by simp[g])) (~~~hs) (λj i=>by
   rw[Tg (by simp;lia),Array.getElem_setIfInBounds ()];let o:=ho j i;rw[Tg ()] at o;by_cases q:k=j
   ·subst q;rw[An rfl];delta FC;rw[An ⋯,qm,N4 b];simp
   ·rw[N4 q,o];delta FC;by_cases z:j∈dn
    ·rw[An z,An (by simp[z]),qm,An z]
    ·rw[N4 z,N4 (by simp[z];apply λy=>q y.symm)])
  show⟨a,?_,e,by simpa using d⟩;rw[ak,g9,st];have:la dn+1=(dn++[k]).length:=⋯
  rw[this,m];simp
def xr(mask:Nat)(hs:Array Int):mS mask hs=(hs.toList.foldl (Nz mask) (aA (oK (mask+1) aB,0))).map (·.1):=by delta mS;rw[<-Array.foldl_toList];rfl
def T6:∀{l:List α},(∀j∈l,f j=g j)->l.filterMap f=l.filterMap g
 | [],_=>rfl
 | a::l,h=>by rw[eI,eI,h a ⋯,T6 λj b=>h j (by simp[b])]
def Zi2(p:α->Bool)(g:α->β):∀l:List α,(l.filterMap λj=>if p j=aD then aA (g j) else aB)=(l.filter p).map g
 | []=>rfl
 | a::l=>by
  let:=Zi2 p g l;cases h:p a<;>simp[eI,r9,h,this]
def s'{a:N6}(d:a.Nodup):a.map (λj=>a.idxOf j)=aL (la a):=by
 apply((iN))
 ·simp
 ·ext i b e;dsimp[aJ] at b;rw[jW,qL];let c:=m9.mpr (bw b);apply(kX d).mp (qM c)
def hN{c:aai}{a:N6}(A:c.toList.map (·.1)=a.map λ(k:Nat)=>(k:Int))(s:a.Nodup)(o:∀k∈a,k<=31)(O:la a<=18)(N:t.plain=aD) :
  ∃b d,sT t c 20=(b,d,aC)/\d.plain=aD/\d.mask=31/\b.toList.map (·.1)=d.place.toList.map λ(k:Nat)=>(k:Int):=by
 let w:c.size=la a:=by let:=congrArg fQ A;simpa using this
 let⟨u,y,B,E⟩:=Qs (mask:=31) ∅ a [] (oK 32 aB) (~~~s) o rfl (λj r=>by
  delta FC;rw[Tg (by simp;lia)];simp)
 let ls:mS 31 (c.map (·.1))=aA u:=by rw[xr,Array.toList_map,A];have:(a.map λ(k:Nat)=>(k:Int)).foldl (Nz 31) (aA (oK (31+1) aB,0))=aA (u,([]++a).length):=y;rw[this];rfl
 let' f:=(aL 32).filter λj=>decide (j∈a)
 let m:((aL (31+1)).filterMap λj=>(u.getD j aB).map λz=>(j,z))=f.map λj=>(j,a.idxOf j):=by
  rw[<-Zi2 (λj=>decide (j∈a)) (λj=>(j,a.idxOf j))];show T6 λj r=>?_;let v:j<=31:=by let:=ao.mp r;lia
  rw[E j v];delta FC;by_cases q:j∈a<;>simp[q]
 let p:f.Perm a:=(List.perm_ext_iff_of_nodup (gQ.filter _) s).mpr λx=>by rw[dG,ao,decide_eq_true_eq];apply⟨λh=>h.2,λh=>⟨by let:=o x h;lia,h⟩⟩
 let' d:gH:={ mask:=31,place:=f.toArray,dummies:=#[],finger:=t.finger,led:=t.led,moves:=t.movedTo 31,plain:=t.plain };let H:t.relaid (c.map (·.1)) 20=aA (d,(f.map λj=>a.idxOf j).toArray):=by change pw 31 t.finger (t.movedTo 31) t.led t.plain (c.map (·.1))=_;delta pw;rw[ls];dsimp[pW,aZ];rw[m,bS,bS];dsimp[qo,List.map_id'];rfl
 let inj:∀j∈f,∃e,c[a.idxOf j]?=aA e/\e.1=(j:Int):=λj r=>by
  let G:=p.mem_iff.mp r;let J:=m9.mpr G;let C:a.idxOf j<c.size:=()
  show⟨c[a.idxOf j],by simp[C],?_⟩;let g:=congrArg (λl=>l[a.idxOf j]?) A;dsimp[ag] at g;rw[aF J,di,cV C] at g;dsimp[dz,mQ] at g;rw[g,qM]
 let L:∀l:List Nat,(∀j∈l,∃e,c[a.idxOf j]?=aA e/\e.1=(j:Int))->(((l.map λj=>a.idxOf j).filterMap λi=>c[i]?).map (·.1))=l.map λ(j:Nat)=>(j:Int):=by
  ext l
  induction l with
  | nil=>ext _;rfl
  | cons j l N8=>
   ext h;let⟨e,y,B⟩:=h j ⋯;rw[ak,eI,y];dsimp[ak];rw[N8 λx I=>h x (by simp[I]),B]
 let' b:=((f.map λj=>a.idxOf j).toArray.filterMap λi=>c[i]?);let n:b.toList.map (·.1)=f.map λ(j:Nat)=>(j:Int):=by rw[Array.toList_filterMap];apply L f inj
 let D:b.size=la a:=by let:=congrArg fQ n;dsimp[aJ,bW] at this;rw[this,p.length_eq]
 let M:coversAll (f.map λj=>a.idxOf j).toArray c.size=aD:=by delta coversAll;rw[List.isPerm_iff,w,<-s' s];apply p.map _
 let F:d.fits b.size=aD:=by
  delta px ma;let:=p.length_eq;simp[d]
  lia
 show⟨b,d,?_,N,rfl,n⟩;delta sT;rw[H];change(if(coversAll (f.map λj=>a.idxOf j).toArray c.size&&d.fits b.size)=aD then(b,d,aC) else _)=_;rw[M,F];rfl
structure x_(led:Bool)(AR:Nat)(Gi:aai)(t:gH):Prop where
 tab:KH led t
 plain:t.plain=aD
 fits:t.fits Gi.size=aD
 val:∀e∈Gi.toList,∃Eu,e.2=fT e.1 Eu
 way:∃ks:List Nat,Gi.toList.map (·.1)=(ks.map λ(k:Nat)=>(k:Int))/\ks.Nodup/\(∀k∈ks,k<=31)/\((t.mask=7/\ks.length<=AR)\/(t.mask=31/\t.place.toList=ks))
def Y9(xs:Array α)(p:Nat)(x:α):(gq xs p x).toList=xs.toList.take p++x::xs.toList.drop p:=by
 delta gq;dsimp[gG,oz];let drop:(xs.toList.extract p xs.size)=xs.toList.drop p:=by apply cN ⋯
 rw[drop];simp
def VV{t:gH}{n:Nat}(h:t.fits n=aD):t.place.size=n:=by delta px at h;dsimp[af,beq_iff_eq] at h;apply h.1
def k7{led:Bool}{c:aai}{t:gH}(h:x_ led 4 c t){k:Nat}(u:k<=31)(F:(k:Int)∉c.toList.map (·.1))(M:c.size<=17)(l:si) :
  ∃b f,tH t c (k:Int) (.int k l)=(b,f,aC,aC)/\x_ led 5 b f:=by
 let⟨g,s,E,n,i⟩:=h.way;let J:g.length=c.size:=by let:=congrArg fQ s;simpa using this.symm
 let ps:=VV h.fits;let y:=λz=>F (by rw[s];apply aa.mpr ⟨k,z,rfl⟩)
 obtain⟨j,r,G⟩:∃j,t.freeSlot (k:Int)=aA (j,aC)/\(t.mask=31->j=k):=by
  rcases i with⟨m,A⟩ | ⟨m,o⟩
  ·let⟨j,r⟩:=Zb6 h.tab m () u;apply⟨j,r,λz=>()⟩
  ·apply⟨k,Zb5 h.tab () u (by rw[o];apply y),λ_=>rfl⟩
 let D:fZ t.dummies j=aC:=by rw[h.tab.uA];delta fZ;simp
 let' p:=cC t.place j;let' f:={ t with place:=gq t.place p j };let' b:=gq c p ((k:Int),fT (k:Int) l);let pt:t.put j=(f,p):=by delta gH.put;dsimp[D];rfl
 let q:b.toList=c.toList.take p++((k:Int),fT (k:Int) l)::c.toList.drop p:=Y9 _ _ _;let w:f.place.toList=t.place.toList.take p++j::t.place.toList.drop p:=Y9 _ _ _
 let s1:b.size=c.size+1:=by
  let:=congrArg fQ q;rw[ah,bH,bK,cQ] at this;dsimp[bW] at this
  lia
 let L:f.place.size=c.size+1:=by
  let:=congrArg fQ w;rw[ah,bH,bK,cQ] at this;dsimp[bW] at this
  lia
 let B:f.fits b.size=aD:=by
  delta px ma;rw[L,s1];let d:f.dummies.size=0:=by change t.dummies.size=0;rw[h.tab.uA];rfl
  let m:f.mask=t.mask:=rfl;dsimp[beq_self_eq_true,sx,decide_eq_true_eq];rcases i with⟨m,A⟩ | ⟨m,o⟩<;>lia
 let C:tH t c (k:Int) (.int k l)=(b,f,aC,aC):=by delta tH;rw[r];dsimp[pt];delta qI;rw[B];rfl
 let tk:=Q_ h.tab c (k:Int) (.int k l);rw[C] at tk;show⟨b,f,C,tk,h.plain,B,λe v=>?_,g.take p++k::g.drop p,?_,?_,λx I=>?_,?_⟩
 ·rw[q] at v;rcases aj.mp v with z | z
  ·apply h.val e (dt z)
  ·rcases aY.mp z with rfl | z
   ·apply⟨l,rfl⟩
   ·apply h.val e (gn z)
 ·rw[q,bR,ak,ke,me,s,bR,ak,ke,me]
 ·let H:(g.take p++k::g.drop p).Perm (k::g):=by
   let:=rH (a:=k) (l₁:=g.take p) (l₂:=g.drop p)
   rwa [gX] at this
  apply H.nodup_iff.mpr (av.mpr ⟨y,E⟩)
 ·rcases aj.mp I with z | z
  ·apply n x (dt z)
  ·rcases aY.mp z with rfl | z
   ·apply u
   ·apply n x (gn z)
 ·rcases i with⟨m,A⟩ | ⟨m,o⟩
  ·left;show⟨m,?_⟩;rw[ah,bH,bK,cQ]
   lia
  ·right;show⟨m,?_⟩;rw[w,o,G m]
def Ih(N:Gj)(k:Int):List Int:=if k∈N then N else N++[k]
section
variable {prog:bO} {w:bX} {A:bg} {E:Gu} {s:aR}
def K1(prog:bO)(w:bX)(led:Bool)(h:bp)(a:aP)(N:Gj):Prop:=
 ∃o Gi ep t,h.get? a=aA o/\o.ExactSet/\o.data = .set Gi ep t/\ElemsOf (lM prog w) Gi.toList/\(Gi.toList.map (·.1)).Perm N/\x_ led 4 Gi t
def K1.keep(x:K1 prog w led h a N)(k:∀o,h.get? a=aA o->h'.get? a=aA o):K1 prog w led h' a N:=by let⟨o,c,ep,t,b,r⟩:=x;apply⟨o,c,ep,t,k o b,r⟩
def VO{h:bp}{a:aP}{o:fE}{d es':aai}{ep:Nat}{t t':gH}(c:h.get? a=aA o)(b:o.data = .set d ep t):(h.update a (fE.putSet es' t')).get? a=aA { o with data:=.set es' (ep+1) t' }:=by let:=cS (fE.putSet es' t') c (by rw[putSet_of _ _ b];rfl);rw[putSet_of _ _ b] at this;apply this
def Zgn{k:Nat}(h:k<=31):hashInt (k:Int)=k:=by
 have:∀k,k<=31->hashInt ((k:Nat):Int)=(k:Int):=by decide +kernel
 apply this k h
def Zb7{N:Gj}{k:Nat}{D:si}{led:Bool}{Q:Bool->aR->Prop}(hS:K1 prog w led s.heap a N)(P:k<=31)(Kb:la N<=17)
  (h:∀h' b,dD a s.heap h'->K1 prog w led h' a (Ih N (k:Int))->Q b { s with heap:=h' }):az (model prog w) A (setAddHashed a (.int k D) ((lM prog w).hash k)) Q E s:=by
 let⟨o,B,ep,t,G,Y,S,T,R,U⟩:=hS;let hf:=U.fits;let hz:B.size=la N:=by let:=R.length_eq;simpa using this
 let Ck:B.size<scanBound:=by
  have:scanBound=4096:=rfl
  lia
 let H:(lM prog w).is (k:Int) (.int k D)=aD:=qN _ _ _ _;let I:(fT (k:Int) D).scannable=aD:=rfl
 let f:∀e∈B.toList,(lM prog w).is (k:Int) e.2=aD↔e.1=(k:Int):=λe F=>by
  let⟨u,Ax⟩:=U.val e F;rw[Ax];constructor
  ·ext z;apply(lM prog w).inj _ _ _ (qN prog w e.1 u) z
  ·ext z;rw[z];apply qN _ _ _ _
 show cg (aE (jF G S hf ?_));dsimp[byScan_of I Ck T];show aE (aE (l9 (aE (wpAny_setScan_of H G S hf T ?_))))
 cases q:List.findIdx? (λe=>(lM prog w).is (k:Int) e.2) B.toList with
 | some j=>
  let⟨lj,pj,_⟩:=List.findIdx?_eq_some_iff_getElem.mp q;let Z:=R.mem_iff.mp (aa.mpr ⟨_,bw lj,(f _ (bw lj)).mp pj⟩);show aM (aM ?_);let g:=h s.heap aC (dD.refl a s.heap);delta Ih at g;rw[An Z] at g;apply g ⟨o,B,ep,t,G,Y,S,T,R,U⟩
 | none=>
  let M:(k:Int)∉B.toList.map (·.1):=λz=>by let⟨e,F,Mc⟩:=aa.mp z;let:=List.findIdx?_eq_none_iff.mp q e F;rw[(f e F).mpr Mc] at this;cases this
  let nN:=λz=>M (R.mem_iff.mpr z);let hh:(lM prog w).hash (k:Int)=(k:Int):=Zgn P;rw[hh];let⟨c,n,ly,d⟩:=k7 U P M () D;let X:=layNew_perm t B (k:Int) (.int k D);rw[ly,mK] at X;let O:ElemsOf (lM prog w) c.toList:=by let:=T.push H I;rw[hh] at this;apply this.perm X
  let v:(c.toList.map (·.1)).Perm (Ih N (k:Int)):=by delta Ih;rw[N4 nN];let p2:=X.map (λe:Int×aI=>e.1);rw[bR] at p2;apply p2.trans (R.append_right [(k:Int)])
  let sz1:c.size=la N+1:=by let:=v.length_eq;delta Ih at this;rw[N4 nN] at this;simpa using this
  dsimp[ly];show gD (λ_=>?_) (λz=>absurd d.plain z);show aE ?_;show aM ?_;let pk:plainKind (fT (k:Int) D)=aD:=rfl;dsimp[pk,if_true];let t7:∀{m:Nat},m<=18->m<=sizeLine:=λ{m} q=>by rw[dh];lia
  let g1:=VO (es':=c) (t':=n) G S;show aE (wpAny_storeSet_of G S ?_ (t7 ()));let⟨ks,k1,nd,p,J⟩:=d.way;let lk:ks.length=c.size:=by let:=congrArg fQ k1;simpa using this.symm
  show gD (λz=>?_) (λz=>?_)
  ·let l:n.tooFull=aD:=by simpa using z
   delta rQ ma at l;rw[VV d.fits,d.tab.uA] at l;dsimp[aT,oE,decide_eq_true_eq] at l
   let s5:c.size=5:=by
    rcases J with⟨m,l5⟩ | ⟨m,_⟩
    ·rw[m] at l;lia
    ·rw[m] at l;lia
   let gr:gH.grown c.size=20:=by rw[s5];rfl
   let⟨i,L,rl,p2,abz,o2⟩:=hN k1 nd p () d.plain;let tk:=q' d.tab c 20;let ft:=relayAll_fits n c 20;let C:=relayAll_perm n c 20;rw[rl] at tk ft C;rw[gr];dsimp[rl];show aE (aM ?_);let g2:=VO (es':=i) (t':=L) g1 rfl;let sz2:i.size=c.size:=by let:=C.length_eq;simpa using this
   show aE (wpAny_storeSet_of g1 rfl ?_ (t7 ()));let nd2:L.place.toList.Nodup:=tk.rise.imp λq=>()
   let W:∀x∈L.place.toList,x<=31:=λx hx'=>by
    have:(x:Int)∈i.toList.map (·.1):=by rw[o2];apply aa.mpr ⟨x,hx',rfl⟩
    let:=(C.map (λe:Int×aI=>e.1)).mem_iff.mp this;rw[k1] at this;let⟨y,hy,ey⟩:=aa.mp this;let:=p y hy
    lia
   apply aM (aM (h _ aD ((dE s.heap a _).trans (dE _ a _)) ⟨_,i,_,L,g2,Y,rfl,O.perm C,(C.map (λe:Int×aI=>e.1)).trans v,tk,p2,ft,λe F=>d.val e (C.mem_iff.mp F),L.place.toList,o2,nd2,W,.inr ⟨abz,rfl⟩⟩))
  ·let l:n.tooFull=aC:=by
    cases q:n.tooFull with
    | false=>rfl
    | true=>apply absurd (by rw[q];rfl) z
   let t4:x_ led 4 c n:=by
    show⟨d.tab,d.plain,d.fits,d.val,ks,k1,nd,p,?_⟩;rcases J with⟨m,l5⟩ | r
    ·left;delta rQ ma at l;rw[VV d.fits,m] at l;dsimp[decide_eq_false_iff_not] at l
     lia
    ·apply .inr r
   apply aM (aM (h _ aD (dE s.heap a _) ⟨_,c,_,n,g1,Y,rfl,O,v,t4⟩))
end
end _v
namespace EL
open PySem PySem.W PyProof.Rows _l _v
structure FD(led:Bool)(Gi:aai)(t:gH):Prop where
 tab:KH led t
 plain:t.plain=aD
 fits:t.fits Gi.size=aD
section
variable {prog:bO} {w:bX} {A:bg} {E:Gu} {s:aR} {it a:aP} {i ep:Nat} {o:fE} {Gi:aai} {t:gH}
def YW(l:s.heap.get? a=aA o)(d:o.data = .set Gi ep t)(b:FD (KY w) Gi t)(p:i<=Gi.size)
  (h:Q (((C4 w a ep Gi)[i]?).map λe=>(e.2,JT w t (i+1))) s):az (model prog w) A (setNext a (JT w t i) i ep) Q E s:=by
 let f:=b.fits;show aE (jF l d f ?_);show aE (QB ?_)
 cases q:w.params.followText "set-order" with
 | true=>
  let c:C4 w a ep Gi=rM (w.params.setOrder a ep) Gi:=by delta C4;rw[An q]
  let hs:∀j,JT w t j=0:=λj=>by delta JT;rw[An q]
  rw[c,hs] at h;rw[hs];show gD (λ_=>?_) (λz=>absurd rfl z);show gD (λz=>absurd z ⋯) (λ_=>?_);show aE ?_;show aE (jF l d f ?_);show aE (QB ?_);rw[q];apply aE (nF (aM (aM h)))
 | false=>
  let c:C4 w a ep Gi=Gi:=by delta C4;rw[N4 (by rw[q];decide)]
  let n:t.led=aD:=by rw[b.tab.led];delta KY;rw[q];rfl
  let m:cC t.place (JT w t i)=i:=by
   delta JT;rw[N4 (by rw[q];decide)]
   cases i with
   | zero=>apply tS b.tab.rise
   | succ j=>
    let g:j<t.place.size:=by rw[VV b.fits];lia
    simp only;rw[Ry g];apply O_ b.tab.rise g
  rw[c] at h;show gD (λz=>absurd z ∅) (λ_=>?_);show gD (λz=>absurd (show(!t.plain&&decide (Gi.size>1))=aD from z) (by rw[b.plain];simp)) (λ_=>?_);show aE ?_;show gD (λz=>absurd z (by rw[n];simp)) (λ_=>aM ?_);dsimp[m];by_cases z:i<Gi.size
  ·let k:i<t.place.size:=by rw[VV b.fits];lia
   rw[cV z] at h ⊢;rw[cV k];have:JT w t (i+1)=t.place[i]+1:=by delta JT;rw[N4 (by rw[q];decide)];simp only;rw[Ry k]
   rw[this] at h;apply aM h
  ·rw[iS ()] at h ⊢;apply aM h
def Va(c:MC s.heap it a (JT w t i) i Gi.size ep)(l:s.heap.get? a=aA o)(g:o.data = .set Gi ep t)(h:FD (KY w) Gi t)(k:(C4 w a ep Gi)[i]?=aA e)
  (n:∀h',MC h' it a (JT w t (i+1)) (i+1) Gi.size ep->dD it s.heap h'->Q (aA e.2) { s with heap:=h' }):az (model prog w) A (kY (.ref it)) Q E s:=by
 let⟨p,d,q,b⟩:=id c
 let m:i<Gi.size:=by
  let:=(dI.mp k).1
  rwa [Rz] at this
 show aE (ik (cE c.typeIs c_
  (bu c_ c.typeIs VR ?_ (UK _))))
 show aE (aM ?_);show aE (lh d b ?_);show aE (lH l g h.fits ?_);rw[N4 ⋯];dsimp[dk];show aE (YW l g h (dR m) ?_);rw[k];show aE (fM d b ⋯ ?_);let j:(s.heap.update it (fY (·.setIfInBounds 0 (fJ (JT w t (i+1)))))).get? it=aA (p.mapFields (·.setIfInBounds 0 (fJ (JT w t (i+1))))):=cS _ d (eV (cM b _));let f:=cM b (·.setIfInBounds 0 (fJ (JT w t (i+1))));show aE (fM j f ⋯ ?_);show aM ⟨_,rfl,aM (n _ ⟨_,cS _ j (eV (cM f _)),(gm ..).trans ((gm ..).trans q),?_⟩ ((dE ..).trans (dE ..)))⟩;rw[cM f];simp[fJ]
def ZV(h:A.handled=aB)(b:MC s.heap it a (JT w t Gi.size) Gi.size Gi.size ep)(g:s.heap.get? a=aA o)(e:o.data = .set Gi ep t)(f:FD (KY w) Gi t)
  (i:∀h',mL it s.heap h'->Q aB { s with heap:=h' }):az (model prog w) A (kY (.ref it)) Q E s:=by
 let⟨j,d,k,c⟩:=id b
 show aE (ik (cE b.typeIs c_
  (bu c_ b.typeIs VR ?_ (UK _))))
 show aE (aM ?_);show aE (lh d c ?_);show aE (lH g e f.fits ?_);rw[N4 ⋯];show aE (YW g e f (aU _) ?_);rw[iS (by rw[Rz];apply aU _)];show aE (fM d c ⋯ ?_);show aE ?_;show aE (m:=oh _ _) (mM rfl ?_);show cA ?_ (by size_fits);show aE (ph ?_);rw[h];show aE (aM (rY ?_));show aE (kZ ⟨_,aX _ rfl,rfl⟩ oj ?_);apply aM (i _ (((dE ..).extBut.push _).push _))
def Zb8(b:s.heap.get? a=aA o)(g:o.ExactSet)(c:o.data = .set Gi ep t)(e:FD (KY w) Gi t)
  (h:Q (.ref s.heap.objs.size) { s with heap:=s.heap.push { cls:=.type "set_iterator",data:=.fields #[.int 0 0,.int 0 0,.ref a,.int Gi.size 0,.int ep 0] } }):az (model prog w) A (nM (.ref a)) Q E s:=by
 let f:s.TypeIs (.ref a) "set":=⟨o,b,g.1⟩;let d:=e.fits;show kN f oU (bu oU f Wn ?_ (PySem.F.args_set_iter_1 _));show aE (aE (aM (aM ?_)));show aE (aE (lH b c d (aM ?_)));show aE (aE (jF b c d (aE (QB (aM ?_)))));show gD (λz=>absurd (show(!(w.params.followText "set-order")&&(!t.plain&&decide (Gi.size>1)))=aD from z) (by rw[e.plain];simp)) (λ_=>?_);show aE (aM ?_);show aE (aE (jF b c d (aM ?_)));show aE (cA (aM ⟨_,rfl,"set_iterator",_,⟨_,aX _ rfl,rfl⟩,c_.lookup,?_⟩));simpa [fJ] using h
end
section
variable {prog:bO} {w:bX} {a:aP} {ep:Nat} {o:fE} {Gi:aai} {t:gH}
def m2(q:A.handled=aB)(g:a≠it)(l:o.data = .set Gi ep t)(n:FD (KY w) Gi t) :
  Walks prog w A it [it,a] [it] Gi.size (λi v=>∃e,(C4 w a ep Gi)[i]?=aA e/\v=e.2) (λi h=>MC h it a (JT w t i) i Gi.size ep/\h.get? a=aA o) where
 sub:=λb c=>by rw[aO.mp c];apply ar
 frame:=λ_ _ _ st p=>⟨st.1.at λo e=>p _ ⋯ o e,p a ⋯ o st.2⟩
 item:=λi f Q E s st d=>by
  let k:i<(C4 w a ep Gi).size:=by rw[Rz];apply s
  show Va st.1 st.2 l n (e:=(C4 w a ep Gi)[i]) ⋯ λh' j m=>?_;apply d _ h' f.toks ⟨(C4 w a ep Gi)[i],by simp[k],rfl⟩ ⟨j,m.extBut a o g st.2⟩ λb o c e=>m.extBut b o (λh=>c (by simp[h])) e
 done:=λf Q E st d=>ZV q st.1 st.2 l n λh' r=>d h' f.toks λb o c e=>r b o (λh=>c (by simp[h])) e
 self:=λ_ _ _ _ st d=>Ri st.1 d
def Zgo(c:o.ExactSet)(f:o.data = .set Gi ep t)(g:FD (KY w) Gi t) :
  KdlSrc prog w "set" a a Gi.size (λi v=>∃e,(C4 w a ep Gi)[i]?=aA e/\v=e.2) (λh=>h.get? a=aA o) where
 type:=λ_ b=>⟨o,b,c.1⟩
 there:=λ_ b=>⟨aV b,aV b⟩
 keep:=λ_ _ b k=>k a (.inl rfl) o b
 notList:=∅
 notTuple:=∅
 hint:=λ_ _ _ _ b d=>Zbt ⟨o,b,c.1⟩ d
 iter:=λA s j b=>⟨_,λi h=>MC h s.heap.objs.size a (JT w t i) i Gi.size ep/\h.get? a=aA o,(λ_ _ d=>Zb8 b c f g d),m2 j (bC (aV b)) f g,⟨⟨_,aX _ rfl,rfl,by
  have:JT w t 0=0:=by delta JT;split<;>rfl
  rw[this];rfl⟩,aH _ b⟩⟩
end
section
variable {prog:bO} {w:bX} {A:bg} {E:Gu} {s:aR}
def dx(F:A.handled=aB)(I:s.heap.get? a=aA o)(N:o.ExactSet)(C:o.data = .set Gi ep t)(P:FD (KY w) Gi t)
  (x:∀e∈Gi.toList,∃Eu,e.2=fT e.1 Eu) (O:Gi.size<=20) (h:∀(D:aP)(f h':bp)(tk:Nat)(d:GD)(c:Gj)(e:Nat),(∀b o,s.heap.get? b=aA o->f.get? b=aA o)->f.objs.size<=D->(∀b o,f.get? b=aA o->h'.get? b=aA o)->h'.get? D=aA (fA "list" d e)->
   jA d.toList c->c.Perm (Gi.toList.map (·.1))->c.Pairwise (·<=·)->Q (.ref D) { s with heap:=h',toks:=tk }) :
  az (model prog w) A (call (.builtin "sorted") [.ref a]) Q E s:=by
 show jY rZ qf qg (qh _) ?_;show aE (aM ?_);show aE (kdu_collect (Zgo N C P) F I (by rw[dh];lia) λf tk acc R g=>?_)
 let p:acc.toList=(C4 w a ep Gi).toList.map (·.2):=by
  apply((gA));ext i;rw[ag];by_cases q:i<acc.size
  ·let l:acc.toList[i]?=aA acc[i]:=by simp[q]
   let⟨e,m,M⟩:=g.2 i acc[i] (by simp[q]);rw[l,di,m,M];rfl
  ·let l:acc.toList[i]?=aB:=by simp;lia
   let m:(C4 w a ep Gi).toList[i]?=aB:=by let:=g.1;let:=Rz w a ep Gi;simp;lia
   rw[l,m];rfl
 let B:acc.toList.Perm (Gi.toList.map (·.2)):=by rw[p];apply(SK w a ep Gi).map _
 let L:=Si λv r=>by let⟨e,k,rfl⟩:=aa.mp (B.mem_iff.mp r);let⟨u,n⟩:=x e k;apply⟨_,u,n⟩
 let z:(acc.toList.map FF).Perm (Gi.toList.map (·.1)):=by
  let l:(Gi.toList.map (·.2)).map FF=Gi.toList.map (·.1):=by rw[bS];show aq λe k=>?_;let⟨u,n⟩:=x e k;change FF e.2=e.1;rw[n];rfl
  rw[<-l];apply B.map FF
 let y:acc.toList.length<=20:=by
  let:=z.length_eq;dsimp[aJ,bW] at this;rw[bW]
  lia
 show aE (kc ?_ (by rw[dh];lia));let j:(f.push (fA "list" acc.toList.toArray 0)).get? f.objs.size=aA (fA "list" acc.toList.toArray 0):=aX _ rfl;show aE (cg (bu om ⟨_,j,rfl⟩ oJ (list_sort_tree j L () λd c J H G=>⟨_,rfl,?_⟩) (ot _)));let⟨e,k⟩:=sortedHeap_at j;show aM ⟨_,rfl,h f.objs.size f _ tk d c e R (aU _) (λb o q=>?_) k J (H.trans z) G⟩;rw[sortedHeap_old (bC (aV q)) (by rw[qG];apply fN (aV q))];apply aH _ q
end
end EL
namespace EL
open PySem PySem.W PySem.Spec PyProof.Rows _l _v
def KN(ns:N6):List Int:=(ns.map λ(k:Nat)=>(k:Int)).foldl Ih []
def m1(ns:N6)(k:Nat):KN (ns++[k])=Ih (KN ns) (k:Int):=by delta KN;rw[bR,mP];rfl
def WY:∀(l N:Gj),(l.foldl Ih N).length<=la N+la l
 | [],N=>⋯
 | k::l,N=>by
  let:=WY l (Ih N k)
  let h:(Ih N k).length<=la N+1:=by
   delta Ih;split<;>simp
  rw[g9,bH]
  lia
def VQ(ns:N6):(KN ns).length<=la ns:=by let:=WY (ns.map λ(k:Nat)=>(k:Int)) [];simpa [KN] using this
section
variable {prog:bO} {w:bX} {A:bg} {R:tG->aR->Prop} {I a:aP} {Gh wr:Gs} {G:Array qT->Array qT->Prop} {P:Lm} {St:Nat->aR->Prop} {led:Bool} {ns:N6}
def Vt(W:WalksS prog w A.in1 I Gh wr G (la ns) P St)(j:a∉Gh)(B:∀i v,P i v->∃t,v = .int ((ns.getD i 0:Nat):Int) t)(h:∀k∈ns,k<=31)(D:la ns<=17) :
  ∀(m i:Nat)(s:aR),i+m=la ns->St i s->K1 prog w led s.heap a (KN (ns.take i))->
   (∀c,Moved (a::wr) G s c->K1 prog w led c.heap a (KN ns)->R (.ok (.ret .none)) c)->
   jT (model prog w) A (.builtin "set.update.loop" ⟨[.ref a,.ref I],[]⟩) R s
 | 0,i,s,e,st,hS,k=>by
  let f:i=la ns:=()
  subst f;let d:a∉wr:=λz=>j (W.sub _ z);rw[eD] at hS;show fR ja ?_;rw[gx gJ _];show aE (m:=kY (.ref I)) (W.done s _ _ st λc g=>?_);apply aM (k c (g.mono λb z=>aS _ z) (hS.keep λo z=>g.heap a o d z))
 | m+1,i,s,e,st,hS,k=>by
  let d:a∉wr:=λz=>j (W.sub _ z);let f:i<la ns:=()
  show fR ja ?_;rw[gx gJ _];show aE (m:=kY (.ref I)) (W.item i s _ _ () st λv c E l g=>?_);let⟨t,rfl⟩:=B i v E;let Ic:ns.getD i 0=ns[i]:=by simp[f]
  rw[Ic];show aE (m:=holding [fT ((ns[i]:Nat):Int) t] (setAdd a (.int ((ns[i]:Nat):Int) t))) (cg ?_);delta setAdd;show cg (aE ((lM prog w).pyHash (k:=((ns[i]:Nat):Int)) (qN _ _ _ _) ?_));let u:K1 prog w led ({ c with toks:=c.toks+1 }:aR).heap a (KN (ns.take i)):=hS.keep λo z=>g.heap a o d z;show Zb7 (s:={ c with toks:=c.toks+1 }) u (h _ (bw f)) (by let:=VQ (ns.take i);rw[bK] at this;lia) λh' F C n=>?_;let x:K1 prog w led h' a (KN (ns.take (i+1))):=by rw[kS f,m1];apply n
  show aM ⟨jf gJ _,Vt W j B h D m (i+1) _ () (W.frame _ c _ _ l (kg _) λb z o e=>?_) x λy p r=>?_⟩
  ·rw[C.2 b λq:b=a=>j (by rw[<-q];apply z)];apply e
  ·show k y (Moved.trans W.gtrans ((g.mono λb z=>aS _ z).then_heap (kg _) λb o z e=>?_) p) r;rw[C.2 b λq:b=a=>z (by rw[q];apply ar)];apply e
end
section
variable {prog:bO} {w:bX} {A:bg} {E:Gu} {s:aR}
def l_(W:A.handled=aB)(Kb:s.heap.IsTuple l items)(M:jA items.toList (ns.map λ(k:Nat)=>(k:Int)))(C:∀k∈ns,k<=31)(m:ns.length<=17)
  (h:∀(h':bp)(tk:Nat),K1 prog w (KY w) h' s.heap.objs.size (KN ns)->(∀b o,b<s.heap.objs.size->s.heap.get? b=aA o->h'.get? b=aA o)->Q (.ref s.heap.objs.size) { s with heap:=h',toks:=tk }) :
  az (model prog w) A (call (.type "set") [.ref l]) Q E s:=by
 let n:items.size=ns.length:=by let:=WM M;simpa using this
 let⟨c,aat,S⟩:=F.called_set.mro;let abv:=F.called_set.made;let x2:=F.called_set.sub;let x3:=F.called_set.notType;let x4:=F.called_set.canCreate;let x5:=F.typeCall_set_1 (.ref l);show jx (codeAny_of_tree ?_);show aM ⟨qF _ (by decide +kernel),fR F.entry_type_call ?_⟩;rw[bg.under_plain (weight_type_call_type "set" [.ref l] []) rfl]
 repeat (any_goals (first | assumption | wp_step))
 show fX (Zbs (.ref l) (E:=E) (Q:=λv d=>v = .ref s.heap.objs.size/\d={ s with heap:=s.heap.push (Na w) }) ⟨rfl,rfl⟩) λr d g=>?_
 cases r with
 | error e=>apply g
 | ok fl=>
  cases fl with
  | ret v=>
   let⟨rfl,rfl⟩:=g;let y:(s.heap.push (Na w)).get? s.heap.objs.size=aA (Na w):=aX _ rfl;let ty:aR.TypeIs { s with heap:=s.heap.push (Na w) } (.ref s.heap.objs.size) "set":=⟨_,y,rfl⟩;let y1:=F.called_set.init.lookup;let y2:=F.called_set.init.bind (.ref s.heap.objs.size)
   repeat (any_goals (first | assumption | wp_step))
   show fX (pE (R:=wants (λr f=>r = .none/\∃h' tk,f={ s with heap:=h',toks:=tk }/\K1 prog w (KY w) h' s.heap.objs.size (KN ns)/\∀b o,b<s.heap.objs.size->s.heap.get? b=aA o->h'.get? b=aA o) E) F.called_set.init.plain F.entry_set_init (check_set_init_1 ty ?_)) λj f a=>?_
   ·let⟨Y,J,P,O,T⟩:=Kb;let⟨Cp,AB,odt,os⟩:=Y;simp only at P T;subst P T;let g4:(s.heap.push (Na w)).get? l=aA { cls:=.type "tuple",dict:=AB,data:=.seq items O,slots:=os }:=aH _ J;let N:(s.heap.push (Na w)).IsTuple l items:=⟨_,g4,rfl,O,rfl⟩;let u1:=F.sub_tuple_set;let u2:=F.sub_tuple_frozenset;let u3:(jH "tuple"==jH "dict")=aC:=∅
    let u4:(s.heap.push (Na w)).get? s.heap.objs.size=aA { cls:=.type "set",dict:=aB,data:=.set #[] 0 (.fresh 0 0 (KY w)) }:=y;delta kM.«set.__init__» noKeywords rk;generalize B:nM=A8
    wp_walk
    subst B;show lW N (aE (wpAny_runValue ?_));let I:l<s.heap.objs.size:=aV J;let hq:A.in1.in1.in1.handled=aB:=by simp[W]
    let ne:l≠(s.heap.push (Na w)).objs.size:=by rw[dH];apply bC (fN I)
    let U:s.heap.objs.size∉[(s.heap.push (Na w)).objs.size,l]:=by rw[dH];dsimp[aY,dZ,or_false,not_or];apply⟨bC (iK _),gL I⟩
    let ga:((s.heap.push (Na w)).push { cls:=.type "tuple_iterator",data:=.fields #[.ref l,.int 0 0] }).get? s.heap.objs.size=aA (Na w):=aH _ y;let G:=(Walks.tuple (prog:=prog) (w:=w) hq _ l ne items).toS;rw[n] at G;show Vt (led:=KY w) (ns:=ns) G U (λi v H=>?_) C m ns.length 0 _ () ⟨⟨_,aX _ rfl,rfl,rfl⟩,N.push _⟩ ?_ λAq p z=>?_
    ·let D:i<items.size:=(dI.mp H).1;let⟨t,e⟩:=jA.int_at M i v (by rw[di];apply H);show⟨t,e.trans ?_⟩;congr 1;rw[n] at D;simp[D]
    ·apply⟨_,#[],0,_,ga,⟨rfl,rfl,rfl⟩,rfl,λe q=>by simp at q,kO _,sG _,rfl,rfl,λe q=>by simp at q,[],rfl,cI,⋯,.inl ⟨rfl,⋯⟩⟩
    ·let⟨h',X,abu,u,x⟩:=Aq;let Z:X=s.gens:=p.gens;let ed:abu=s.drawn:=p.drawn;let eo:x=s.os:=p.os;subst Z ed eo;show aM (aM ⟨rfl,h',u,rfl,z,λb o L e=>?_⟩);show p.heap b o ?_ (aH _ (aH _ e));rw[dH];dsimp[aY,dZ,or_false,not_or];apply⟨bC L,bC (fN L)⟩
   ·cases j with
    | error e=>apply a
    | ok f₂=>
     cases f₂ with
     | ret r=>
      let⟨rfl,h',tk,rfl,z1,z2⟩:=a
      repeat (any_goals (first | assumption | wp_step))
      apply h _ _ z1 z2
     | _=>apply a.elim
  | _=>apply g.elim
end
def Ec(K:aG)(Et:Az):TE:=λσ H Q=>Et σ H λvs H1=>∃(p:aP) (ns:N6),vs=[.ref p]/\CG K H1 p (ns.map λ(k:Nat)=>V.int (k:Int))/\(∀k∈ns,k<=31)/\la ns<=17/\∀l,H1 l=aB->Q (.ref l) (upd H1 l (.lst ((_v.sortI (KN ns)).map V.int)))
section
variable {X:Cx} {a:bT} {Et:Az} {p p2 pos g5:g6}
def sg(n:X.calm=aD)(k:Gl X "sorted")(i:X.mg "sorted" = aB)(f:Gl X "set")(m:X.mg "set" = aB)(Y:MY X [a] Et)(hs:aN [a] X.env=[(aC,eval a X.env)]|>On)
  (y:aN [.Call (.Name "set" p2) [a] [] g5] X.env=(aC,eval (.Call (.Name "set" p2) [a] [] g5) X.env)::aN [] X.env|>On) (g:(ck pos (aN [] X.env)).any (·.1)=aC|>On) :
  JY X (.Call (.Name "sorted" p) [.Call (.Name "set" p2) [a] [] g5] [] pos) (Ec X.K Et):=by
 ext A s C H Q I h;show cU (Xv I k i rfl ?_);show iJ ?_ y g;show jw ?_;show sy (Xv I f m rfl (cJ (Z8 (Y g5 A s C H _ I h) λus s1 ⟨vs,H1,u,G,S⟩=>?_) hs rfl));let⟨b,ns,e,P,l,c,q⟩:=S;subst e
 cases G with
 | cons r Mn=>
  cases Mn;cases r;let⟨Av,v,R,hz⟩:=u.tuple P;rw[YB] at v;show l_ (I.ok.hd n) R (V8 v) l c λh' tk E Z=>kF ?_;let⟨o,Gi,ep,t,M,W,B,U,w,d⟩:=E;let ls:=VQ ns;let lz:Gi.size=(KN ns).length:=by let:=w.length_eq;simpa using this
  show dx (I.ok.hd n) M W B ⟨d.tab,d.plain,d.fits⟩ d.val () λD Es Md rf j T e k1 k2 k3 N O L F=>?_;let x:=u.kept (t':=rf) λb o z=>k1 b o (Z b o (aV z) z);let J:=_v.iz (L.trans w) F;subst J;let lo:(_v.sortI (KN ns)).length<=17:=by rw[(_v.sortI_perm _).length_eq];lia
  show⟨.ref D,_,x.laid k3 k2 (show J6 X.prog X.w _ _ _ (.lst ((_v.sortI (KN ns)).map V.int)) from⟨?_,j.toList,e,?_,?_⟩),rfl,q D (x.L5.fresh k2)⟩
  ·rw[aJ,dh];lia
  ·apply Us O
  ·rw[ko];apply N
end
def BL(ns:Gj):Bool:=ns.all (λk=>decide (0<=k)&&decide (k<=31))&&decide (la ns<=17)
def BU:PV->Option PV
 | .tup l=>(J9 l).bind λns=>if BL ns=aD then aA (.lst (iL (_v.sortI (ns.foldl Ih [])))) else aB
 | _=>aB
def oq(D:X.calm=aD)(n:Gl X "sorted")(g:X.mg "sorted" = aB)(c:Gl X "set")(o:X.mg "set" = aB)(J:JW X a fa)(hs:aN [a] X.env=[(aC,eval a X.env)]|>On)
  (y:aN [.Call (.Name "set" p2) [a] [] g5] X.env=(aC,eval (.Call (.Name "set" p2) [a] [] g5) X.env)::aN [] X.env|>On) (d:(ck pos (aN [] X.env)).any (·.1)=aC|>On) :
  AU X (.Call (.Name "sorted" p) [.Call (.Name "set" p2) [a] [] g5] [] pos) (A6 BU fa):=
 JY.imp (sg D n g c o (Y4 J Ue hs) hs y d)<|by
  ext O H Q ⟨s,l,env,e,k⟩;let⟨x,L,u⟩:=Zc e;show⟨λ_=>False,s,[x],λ_ z=>z.elim,env,by change(fa s).bind _=_;rw[L];rfl,λvs R P s1 A _=>?_⟩;let⟨v,rfl,E⟩:=A.c0
  cases x with
  | tup m=>
   let⟨ns,F,h⟩:=Zc u;split at h
   case isFalse=>cases h
   rename_i b;cases h;let M:=Yn F;subst M;let⟨p,xs,rfl,N,G⟩:=E.b_;let⟨rfl,rfl⟩:=G.iL;delta BL at b;dsimp[af,decide_eq_true_eq,bN] at b
   let t:ns=(ns.map cX).map λ(k:Nat)=>(k:Int):=by
    rw[bS]
    conv=>lhs;rw[<-jP ns]
    show aq λz f=>?_;let:=b.1 z f;change z=((z.toNat:Nat):Int)
    lia
   let C:ns.map V.int=(ns.map cX).map λ(k:Nat)=>V.int (k:Int):=by rw[YB,<-t]
   let B:KN (ns.map cX)=ns.foldl Ih []:=by delta KN;rw[<-t]
   show⟨p,ns.map cX,rfl,?_,?_,by rw[aJ];apply b.2,λq w=>?_⟩
   ·rw[<-C];apply .inl (.inl N)
   ·ext j I;let⟨z,f,rfl⟩:=aa.mp I;let:=b.1 z f
    lia
   ·rw[B];show k _ _ [q] (s1.trans (AJ.new w _)) (Is.lst bh (JX.ofInts _)) ⋯ λr i=>?_;rw[aO.mp i];apply⟨AJ.off s1 w,by rw[bh];apply cK⟩
  | _=>cases u
end EL
namespace EL
open PySem PySem.Spec PyProof.Rows _l _v
def D3(K:aG)(Et:Az):TE:=λσ H Q=>Et σ H λvs H1=>∃(p:aP) (ns:Gj),vs=[.ref p]/\EJ K H1 p (ns.map V.int)/\la ns<=1000/\Q (.int ((ns.foldl sX []).length:Int)) H1
def rr(ns:Gj):firstMet (λi=>ns.getD i 0) (la ns)=ns.foldl sX []:=by
 delta firstMet;congr 1;apply((iN))
 ·simp
 ·ext i b a;simp[a]
section
variable {X:Cx} {a:bT} {Et:Az} {p p2 pos g5:g6}
def iv(B:X.calm=aD)(i:Gl X "len")(g:X.mg "len" = aB)(d:Gl X "set")(j:X.mg "set" = aB)(L:MY X [a] Et)(hs:aN [a] X.env=[(aC,eval a X.env)]|>On)
  (m:aN [.Call (.Name "set" p2) [a] [] g5] X.env=(aC,eval (.Call (.Name "set" p2) [a] [] g5) X.env)::aN [] X.env|>On) (f:(ck pos (aN [] X.env)).any (·.1)=aC|>On) :
  JY X (.Call (.Name "len" p) [.Call (.Name "set" p2) [a] [] g5] [] pos) (D3 X.K Et):=by
 ext n s w H Q I h;show cU (Xv I i g rfl ?_);show iJ ?_ m f;show jw ?_;show sy (Xv I d j rfl (cJ (Z8 (L g5 n s w H _ I h) λP s1 ⟨vs,M,k,y,F⟩=>?_) hs rfl));let⟨b,ns,e,D,T,q⟩:=F;subst e
 cases y with
 | cons r Mn=>
  cases Mn;cases r;let⟨J,l,E,S⟩:=k.list D;let c:J.length=ns.length:=by let:=l.length;rw[aJ] at this;apply this.symm
  let U:scanBound=4096:=rfl;show call_set_list (I.ok.hd B) E.isList (V8 l) (by rw[aT];lia) λh' tk x N=>kF ?_;let⟨o,W,ep,t,C,G,u,_,_,R,v,A⟩:=x;let O:=k.kept (t':=tk) λb o z=>N b o (aV z) z;show PySem.call_len_set C G u v () ?_;rw[A,aT,c,rr];apply⟨.int _,M,O.tok _ |>.tok _,⟨_,rfl⟩,q⟩
end
def Ea:PV->Option PV
 | .lst l=>(J9 l).bind λns=>if ns.length<=1000 then aA (.int ((ns.foldl sX []).length:Int)) else aB
 | _=>aB
def tj(o:X.calm=aD)(g:Gl X "len")(d:X.mg "len" = aB)(b:Gl X "set")(h:X.mg "set" = aB)(u:JW X a fa)(hs:aN [a] X.env=[(aC,eval a X.env)]|>On)
  (j:aN [.Call (.Name "set" p2) [a] [] g5] X.env=(aC,eval (.Call (.Name "set" p2) [a] [] g5) X.env)::aN [] X.env|>On) (c:(ck pos (aN [] X.env)).any (·.1)=aC|>On) :
  AU X (.Call (.Name "len" p) [.Call (.Name "set" p2) [a] [] g5] [] pos) (A6 Ea fa):=
 JY.imp (iv o g d b h (Y4 u Ue hs) hs j c)<|by
  ext C H Q ⟨s,l,env,e,k⟩;let⟨x,y,i⟩:=Zc e;show⟨λ_=>False,s,[x],λ_ z=>z.elim,env,by change(fa s).bind _=_;rw[y];rfl,λvs F E s1 n _=>?_⟩;let⟨v,rfl,q⟩:=n.c0
  cases x with
  | lst m=>
   let⟨ns,r,f⟩:=Zc i;split at f
   case isFalse=>cases f
   rename_i w;cases f;let A:=Yn r;subst A;let⟨p,xs,D,rfl,B,t,_⟩:=q.lst_inv;let⟨rfl,rfl⟩:=t.iL;apply⟨p,ns,rfl,.inl (.inl B),w,k _ _ [] s1 (by simp[Is]) ⋯ ⋯⟩
  | _=>cases i
end EL
namespace _x
open PySem PySem.Spec PyProof.Rows _l _v
def Lp(x:bJ)(f:XE):XR:=λs=>(f s).bind λl=>if K7 l=aD then aA x else aB
section
variable {X:Cx} {O:N6} {E:Ml} {B newId lG:L_} {uo:Gr} {C:aP} {x y:bJ} {e:bT} {f:XE} {k:Nat} {p1 p2 p3 np t8 pos:g6} {jj:Nat}
def ov(F:qk B newId lG uo)(o:ip X.K C uo newId=aD)(t:Gl X x)(p:X.mg x=aA (.ref C))(d:dm X.K bY x=aA (aA (.ref C)))(a:X.calm=aD)(G:IU X E)(w:Cm k X.A)(g:JW X e f)
  (j:y.length<=1000|>Op) (c:(x==("__debug__" : bJ))=aC|>Op) (b:aN [.JoinedStr [.Constant (.str y) jj p1,.FormattedValue e (-1) aB p2] p3] X.env=(aC,eval (.JoinedStr [.Constant (.str y) jj p1,.FormattedValue e (-1) aB p2] p3) X.env)::aN [] X.env|>On) :
  VX X O E (.Raise (aA (.Call (.Name x np) [.JoinedStr [.Constant (.str y) jj p1,.FormattedValue e (-1) aB p2] p3] [] t8)) aB pos) (Lp x f):=
 AV.imp (Vk F o t p a G (Zgf w g j) c b)<|by
  ext D I H ⟨J,bD,s,h,r,e,q⟩;let⟨l,m,e⟩:=Zc e;split at e
  ·rename_i hs;cases e;show⟨λ_=>False,s,l,λ_ z=>z.elim,r.env,m,λv A L n i _=>?_⟩;let⟨u,rfl⟩:=VN i hs;apply⟨u,λz=>⟨rfl,q C A d (r.same.trans n)⟩⟩
  ·cases e
end
end _x
namespace HT
open PySem PySem.Spec PyProof.Rows
section
variable {prog:bO} {w:bX} {A:bg} {E:Gu} {s:aR}
def jl{a:GD}{j k:aI}{lo d:Mo}{Q:Gu}(c:qS s.heap t a)(hs:s.heap.IsSliceOf MO j k .none)(n:mX j lo)(o:mX k d)
  (i:GR a.size 0 lo=0/\GR a.size a.size d=a.size) (h:Q (.ref t) s):az (model prog w) A (kI (.ref t) (.ref MO)) Q E s:=by
 let⟨os,g,e,m⟩:=id hs;let f:s.TypeIs (.ref MO) "slice":=⟨os,g,e⟩;delta kI
 try with_reducible show cg ?_
 first | show aE (aM ?_) | skip
 show aE (mJ c.typeIs ∅ ?_)
 show aE (cE (name:=fO "__getitem__") c.typeIs bc
  (bu bc c.typeIs lE ?_ (l7 _ _)))
 change az _ _ (jK (.ref t) >>= _) _ _ s;show aE (p8 c ?_);show aE (kJ f ?_);rw[An ∅];show aE (Vz hs n o ?_);let b:(((GR a.size 0 lo:Nat):Int)==0&&(1:Int)==1&&(GR a.size a.size d-GR a.size 0 lo)==a.size)=aD:=by rw[i.1,i.2];simp
 change az _ _ (if(((GR a.size 0 lo:Nat):Int)==0&&(1:Int)==1&&(GR a.size a.size d-GR a.size 0 lo)==a.size)=aD then _ else _) _ _ s;rw[An b];let l:=c.typeIs;delta kM.Tuple.tupleIsExact;show aE (aE (kJ l (aM ?_)));change az _ _ (if((jH "tuple"==jH "tuple")=aD) then _ else _) _ _ s;rw[An ∅];show aE (l9 ?_);apply aM ⟨_,rfl,aM h⟩
def Zb9(b:GD):((aL b.size).filterMap λ(k:Nat)=>b[(((b.size:Int)-1)+(k:Int)*(-1)).toNat]?)=b.toList.reverse:=by
 apply((gA));ext i
 let all:∀(l:N6),(∀k∈l,k<b.size)->(l.filterMap λ(k:Nat)=>b[(((b.size:Int)-1)+(k:Int)*(-1)).toNat]?)=l.map λk=>b.toList.getD (b.size-1-k) ee:=by
  ext l
  induction l with
  | nil=>ext _;rfl
  | cons a r N8=>
   ext h;let d:=h a ⋯;let e:(((b.size:Int)-1)+(a:Int)*(-1)).toNat=b.size-1-a:=by omega
   let lt:b.size-1-a<b.size:=by omega
   rw[eI,e,cV lt];dsimp[ak];rw[N8 λk c=>h k (by simp[c])];congr 1;rw[aK,di,cV lt];rfl
 rw[all _ λk c=>ao.mp c,ag];by_cases q:i<b.size
 ·rw[eO q,List.getElem?_reverse (~~~q)];dsimp[dz,bW];rw[aK,di,cV (by omega)];rfl
 ·rw[cT (by simp;omega),cT (by simp;omega)];rfl
def lr(d:qS s.heap t items)(hs:s.heap.IsSliceOf MO .none .none vs)(ps:mX vs (aA (-1)))
  (h:Q (.ref s.heap.objs.size) { s with heap:=s.heap.push { cls:=.type "tuple",data:=.seq items.toList.reverse.toArray } }) (i:items.size<=sizeLine):az (model prog w) A (kI (.ref t) (.ref MO)) Q E s:=by
 let a:sizeOk (.seq items.toList.reverse.toArray):=by change items.toList.reverse.toArray.size<=sizeLine;simpa using i
 let⟨os,b,e,c⟩:=id hs;let g:s.TypeIs (.ref MO) "slice":=⟨os,b,e⟩;delta kI
 try with_reducible show cg ?_
 first | show aE (aM ?_) | skip
 show aE (mJ d.typeIs ∅ ?_)
 show aE (cE (name:=fO "__getitem__") d.typeIs bc
  (bu bc d.typeIs lE ?_ (l7 _ _)))
 change az _ _ (jK (.ref t) >>= _) _ _ s;show aE (p8 d ?_);show aE (kJ g ?_);rw[An ∅];show aE ?_;delta l6 kM.Slice.sliceFields;show aE (aE (cY b c (x:=.none) rfl (aE (cY b c (x:=.none) rfl (aE (cY b c (x:=vs) rfl (aM ?_)))))));show aE (SD ps ?_);change az _ _ (if((-1:Int)==0)=aD then _ else _) _ _ s;rw[N4 ∅];show aE (lY (aE (lY (aE (aM ?_)))))
 let j:dN ((items.size:Int)-1) (-1) (-1)=items.size:=by
  delta dN;rw[N4 ∅];by_cases q:items.size=0
  ·rw[q];decide
  ·rw[An (by omega),show(- (-1:Int))=1 by decide,Int.ediv_one];omega
 change az _ _ (pure (((items.size:Int)-1),(-1:Int),dN ((items.size:Int)-1) (-1) (-1))) _ _ s;rw[j];show aM ?_;let f:¬((((items.size:Int)-1)==0&&(-1:Int)==1&&items.size==items.size)=aD):=⋯
 change az _ _ (if(((items.size:Int)-1)==0&&(-1:Int)==1&&items.size==items.size)=aD then _ else _) _ _ s;rw[N4 f];dsimp[Zb9]
 first
  | apply aE (m:=iC _) (cA (aM ⟨_,rfl,aM h⟩) a)
  | apply aE (m:=iC _) (cA (aE (aM (aM ⟨_,rfl,aM h⟩))) a)
  | apply aE (aE (m:=iC _) (cA (aM (aM ⟨_,rfl,aM h⟩)) a))
  | apply aE (aE (m:=iC _) (cA (aM ⟨_,rfl,aM h⟩) a))
end
end HT
namespace _v
open PySem PySem.Spec PyProof.Rows _l
def Af(K:aG):V->Option Int->Option Int->Hp->Me->Prop:=λx lo N9 H Q=>∃a xs,x = .ref a/\CG K H a xs/\
 ((HT.GR xs.length 0 lo=0/\HT.GR xs.length xs.length N9=xs.length)->Q (.ref a) H)/\(¬(HT.GR xs.length 0 lo=0/\HT.GR xs.length xs.length N9=xs.length)->∀p,H p=aB->Q (.ref p) (upd H p (.tup (G0 xs lo N9))))
def Zgp:Ho X (Af X.K):=by
 ext k s l H x v o q lo e t Q I f hs d j h;let⟨a,xs,rfl,g,m,p⟩:=h;by_cases c:HT.GR xs.length 0 lo=0/\HT.GR xs.length xs.length e=xs.length
 ·cases f;let⟨n,r,i,u⟩:=I.tuple g;let b:n.toArray.size=xs.length:=by rw[aT];apply r.length.symm
  show⟨"tuple",_,bc.lookup,i.typeIs,?_⟩;apply HT.jl i hs d j (by rw[b];apply c) ⟨.ref a,H,I,rfl,m c⟩
 ·apply XA k s l H (.ref a) v o q lo e t Q I f hs d j ⟨a,xs,rfl,g,c,p c⟩
def Ff(x:PV)(lo N9:Mo):Option PV:=match x with
 | .tup l=>aA (.tup (E4 l lo N9))
 | _=>aB
section
variable {X:Cx} {e:bT} {lo N9:Option bT} {p2 pos:g6} {fa:XE} {fl fh:XO}
def tR{lo a:Mo}(h:HT.GR l.length 0 lo=0/\HT.GR l.length l.length a=l.length):E4 l lo a=l:=by delta E4;rw[h.1,h.2];simp
def YG(D:JW X e fa)(y:Fx X lo fl)(u:Fx X g fh):JW X (.Subscript e (.Slice lo g aB p2) pos) (MW Ff fa fl fh):=JY.imp (OC Zgp D y u)<|by
 ext G H Q ⟨j,s,l,h,env,e,k⟩;let⟨x,F,e⟩:=Zc e;let⟨a,C,e⟩:=Zc e;let⟨b,B,e⟩:=Zc e;show⟨j,s,x,h,env,F,λv L z s1 w t=>⟨j,s,a,λp f=>AJ.mut s1 (h p f),env.mono s1,C,λI s2=>⟨j,s,b,λp f=>AJ.mut (s1.trans s2) (h p f),env.mono (s1.trans s2),B,λJ i=>?_⟩⟩⟩
 cases x with
 | tup l=>
  cases e;let m:=w.mono (s2.trans i);let⟨p,xs,rfl,f,g⟩:=m.b_;let⟨f1,c,d⟩:=g.cut a b;show⟨p,xs,rfl,CG.of f,λo=>?_,λA q n=>k _ _ f1 (s1.trans (s2.trans (i.trans (AJ.new n _)))) (Is.tup bh (c.mono (AJ.new n _))) λr E=>t r (d r E)⟩;rw[g.len] at o;rw[tR o] at k;apply k _ _ z (s1.trans (s2.trans i)) m t
 | _=>cases e
end
def Gd(K:aG)(JN:TE)(ts:TO):TE:=λσ H Q=>JN σ H λx H1=>ts σ H1 λo H2=>o=aA (-1)/\∃(a:aP) (xs:List V),x = .ref a/\CG K H2 a xs/\∀p,H2 p=aB->Q (.ref p) (upd H2 p (.tup xs.reverse))
section
variable {X:Cx} {e st:bT} {JN:TE} {ts:TO} {pos p2:g6} {fa:XE}
def Zgq(l:JY X e JN)(f:Bx X (aA st) ts):JY X (.Subscript e (.Slice aB aB (aA st) p2) pos) (Gd X.K JN ts):=by ext c s d H Q I h;show qC (Z8 (l c s d H _ I h) λv s1 ⟨x,C,w,n,A⟩=>?_);show wpAny_Slice ?_;show aM (aM ?_);show Z8 (f c s1 d C _ w A) λvs i m=>?_;let⟨o,u,y,z,rfl,a,xs,rfl,B,q⟩:=m;cases n;let g:Inv X c d u { i with heap:=i.heap.push { cls:=.type "slice",data:=.fields #[.none,.none,vs] } }:=y.kept λb p q=>aH _ q;let⟨D,r,k,t⟩:=g.tuple B;let j:=r.length;show tail_any k.typeIs bc.lookup (HT.lr k (qD ..) z ?_ (by rw[aT];omega)) rfl;show⟨.ref _,_,g.laid (λb p q=>aH _ q) (aU _) ?_,rfl,q _ (g.L5.fresh (aU _))⟩;apply⟨⟨by rw[pY];apply t,λo e=>Qe e⟩,_,r.reverse,pQ _ _⟩
def HW:PV->Option PV
 | .tup m=>if CF m=aD then aA (.tup m.reverse) else aB
 | _=>aB
def Zgr(n:JW X e fa)(hs:JW X st (A6 K4 (AL (.int 1)))):JW X (.Subscript e (.Slice aB aB (aA st) p2) pos) (A6 HW fa):=JY.imp (Zgq n (RG hs))<|by
 ext w H Q ⟨f,s,l,c,env,e,k⟩;let⟨x,t,e⟩:=Zc e;show⟨f,s,x,c,env,t,λv C A s1 h B=>⟨f,s,.int (-1),λp b=>AJ.mut s1 (c p b),env.mono s1,rfl,λu z y s2 g _=>⟨-1,g.int_inv.1,rfl,?_⟩⟩⟩
 cases x with
 | tup m=>
  let e:(if CF m=aD then aA (PV.tup m.reverse) else aB)=aA l:=e;split at e
  case isFalse=>cases e
  rename_i i;cases e;let⟨p,xs,rfl,b,j⟩:=(h.mono s2).b_;let a:=j.gg i;show⟨p,xs,rfl,CG.of b,λq d=>?_⟩;apply k _ _ [] (s1.trans (s2.trans (AJ.new d _))) (Is.tup bh ((JX.rev a).mono (AJ.new d _))) λr o=>by simp at o
 | _=>cases e
end
end _v
namespace _p
open PySem _l _v _x
def Lx:=CB 8 (GP (Kg 3 (A6 K5 (AK CD [Cw 0])))
  (GP (GZ [3] (KW (Cw 2)) (.one 4) (GP (Kg 5 (AN (Cy JZ (Cw 1) (Cw 4))))
  (GP (Kg 6 (AN (Cy JZ (Cw 3) (Cy JZ (Cw 5) (AL (.int 0))))))
  (GP (Kg 7 (AN (Cy JZ (Cw 3) (Cy JZ (Cw 5) (AL (.int 1))))))
  (Kg 3 (AS 1 [6,7] (G6 (Cw 3)) (.one 0) MV (AN (CW (AO (Cy (J1 aC) (Cw 0) (Cw 2))) (Cw 1) (Cw 0)))))))))
  (AQ (Cw 3))))
def Fe:=CB 3 (GP (Kg 2 (AK Hm [Cw 0]))
  (GP (EI (Ky (AO (Cy (J1 aD) (AK CD [Cw 1]) (Cy Vc (AK CD [Cw 0]) (AL (.int 1))))) (Kt (AO (AK G8 [AS 1 [2] (KW (Cw 1)) (.one 0) MV (IV oLe CV (AL (.int 0)) (Cw 0) (AK CD [Cw 1]))])))) (AQ (AN (AL (.Ap aC)))) GX)
  (AQ (AN (Fp (Cy (J1 aC) (AK MD [Cw 1]) (A6 EL.BU (Cw 1))) (Cy (J1 aC) (A6 EL.Ea (AK Lx [Cw 0,Cw 2,Cw 1])) (AL (.int 1))))))))
end _p
namespace _v
open PySem PySem.W PySem.Spec PyProof.Rows _l
def J5(ns:Gj):Int:=ns.foldl (λa x=>a*100+x) 0
def G1(m:Nat)(ns:Gj):Bool:=decide (la ns=m)&&ns.all λx=>decide (0<=x)&&decide (x<100)
def Ti(h:G1 (m+1) (x::ns)=aD):0<=x/\x<100/\G1 m ns=aD:=by delta G1 at *;dsimp[af,decide_eq_true_eq,bH,ka] at *;apply⟨h.2.1.1,h.2.1.2,(),h.2.2⟩
def DH(a:Int)(ns:Gj):Int:=ns.foldl (λa x=>a*100+x) a
def T9:∀(ns:Gj)(a:Int),∃p:Int,0<p/\∀b,DH b ns-DH a ns=(b-a)*p/\(p:Int)=100^la ns
 | [],a=>⟨1,∅,λb=>⟨by change b-a=(b-a)*1;lia,rfl⟩⟩
 | x::ns,a=>by let⟨p,e,h⟩:=T9 ns (a*100+x);show⟨100*p,(),λb=>?_⟩;let⟨d,c⟩:=h (b*100+x);show⟨?_,by rw[bH,Int.pow_succ,c];lia⟩;change DH (b*100+x) ns-DH (a*100+x) ns=_;rw[d,show b*100+x-(a*100+x)=(b-a)*100 by lia,fI]
def Zca:∀{ns:Gj},G1 m ns=aD->0<=DH 0 ns/\DH 0 ns<100^la ns:=by
 induction m with
 | zero=>
  ext ns h;have:ns=[]:=by delta G1 at h;dsimp[af,decide_eq_true_eq] at h;apply bV.mp h.1
  subst this;apply⟨∅,∅⟩
 | succ m N8=>
  ext ns h
  cases ns with
  | nil=>delta G1 at h;simp at h
  | cons x ns=>
   let⟨a,g,b⟩:=Ti h;let⟨c,f⟩:=N8 b;let⟨p,k,hs⟩:=T9 ns 0;let⟨s1,s2⟩:=hs x;let e:DH 0 (x::ns)=DH (0*100+x) ns:=rfl;rw[e,show(0:Int)*100+x=x by lia,bH];let j:(x-0)*p=x*p:=by rw[Int.sub_zero]
   let i:0<=x*p:=fj a ();let d:x*p<=99*p:=fV () ()
   lia
def Oi(b:G1 m ns=aD)(a:G1 m ms=aD):(x<y->J5 (x::ns)<J5 (y::ms))/\(x=y->J5 (x::ns)-J5 (y::ms)=J5 ns-J5 ms):=by
 let⟨p,o,hs⟩:=T9 ns 0;let⟨q,n,i⟩:=T9 ms 0;let f:ns.length=m:=by delta G1 at b;dsimp[af,decide_eq_true_eq] at b;apply b.1
 let g:ms.length=m:=by delta G1 at a;dsimp[af,decide_eq_true_eq] at a;apply a.1
 let⟨t,l⟩:=Zca b;let⟨k,b1⟩:=Zca a;let⟨s1,s2⟩:=hs x;let⟨d,e⟩:=i y;let c:q=p:=by rw[e,s2,f,g]
 subst c;let u:J5 (x::ns)=DH x ns:=by change DH (0*100+x) ns=_;rw[show(0:Int)*100+x=x by lia]
 let s:J5 (y::ms)=DH y ms:=by change DH (0*100+y) ms=_;rw[show(0:Int)*100+y=y by lia]
 let r:J5 ns=DH 0 ns:=rfl;let j:J5 ms=DH 0 ms:=rfl;rw[Int.sub_zero] at s1 d;show⟨λh=>?_,λh=>by subst h;lia⟩;have:x*q+q<=y*q:=by let:=fV (show x+1<=y by lia) (show 0<=q by lia);rw[ra] at this;lia
 lia
def X8:∀{m:Nat}{ns ms:Gj},G1 m ns=aD->G1 m ms=aD->J5 ns=J5 ms->ns=ms
 | 0,ns,ms,Es,Md,_=>by delta G1 at Es Md;dsimp[af,decide_eq_true_eq] at Es Md;rw[bV.mp Es.1,bV.mp Md.1]
 | m+1,[],_,Es,_,_=>by delta G1 at Es;simp at Es
 | m+1,_::_,[],_,Md,_=>by delta G1 at Md;simp at Md
 | m+1,x::ns,y::ms,Es,Md,e=>by
  let⟨l,i,b⟩:=Ti Es;let⟨k,j,c⟩:=Ti Md;let⟨d,f⟩:=Oi (x:=x) (y:=y) b c;let⟨g,_⟩:=Oi (x:=y) (y:=x) c b
  let a:x=y:=by
   rcases qr x y with h | h | h
   ·let:=d h;lia
   ·apply h
   ·let:=g h;lia
  let:=f a;rw[a,X8 b c ()]
def Di(l:N7):List (List Int):=l.mergeSort λa b=>decide (J5 a<=J5 b)
def W0(l:N7):(Di l).Perm l:=pV l _
def ZZ(l:N7):(Di l).Pairwise λa b=>J5 a<=J5 b:=by let:=nB (le:=λa b:List Int=>decide (J5 a<=J5 b)) (λa b c e d=>by dsimp[decide_eq_true_eq] at *;lia) (λa b=>by dsimp[jq,decide_eq_true_eq];lia) l;apply this.imp λh=>of_decide_eq_true h
def Zcb(ok:∀p∈l,G1 n p=aD)(c:m.Perm l)(hs:m.Pairwise λa b=>J5 a<=J5 b):m=Di l:=
 m4 (λa b e d g f=>X8 (ok a (c.mem_iff.mp e)) (ok b ((W0 l).mem_iff.mp d)) ()) hs (ZZ l) (c.trans (W0 l).symm)
def II(h:bp)(b:aP)(ns:Gj):Prop:=∃Av:List aI,jA Av ns/\qS h b Av.toArray
def II.keep(x:II h b p)(k:∀o,h.get? b=aA o->h'.get? b=aA o):II h' b p:=by let⟨t,u,o,e,c⟩:=x;apply⟨t,u,o,k o e,c⟩
section
variable {prog:bO} {w:bX} {A:bg} {E:Gu} {s:aR}
def Qy:∀{m i:Nat}{vs ws:Gr}{ns ms:Gj},jA vs ns->jA ws ms->G1 m ns=aD->G1 m ms=aD->Q (decide (J5 ns<J5 ms)) s->KatLex prog w A aD aC Q (vs.zip ws) i s
 | 0,i,vs,ws,ns,ms,Ey,hw,Es,Md,h=>by
  let a:ns=[]:=by delta G1 at Es;dsimp[af,decide_eq_true_eq] at Es;apply bV.mp Es.1
  let f:ms=[]:=by delta G1 at Md;dsimp[af,decide_eq_true_eq] at Md;apply bV.mp Md.1
  subst a f;cases Ey;cases hw;apply kat_nil h
 | m+1,i,_,_,_,_,.nil,_,Es,_,_=>by delta G1 at Es;simp at Es
 | m+1,i,_,_,_,_,.cons _ _ _,.nil,_,Md,_=>by delta G1 at Md;simp at Md
 | m+1,i,_,_,_,_,.cons (ns:=ns) x t Ey,.cons (ns:=ms) y u hw,Es,Md,h=>by
  let⟨n,j,b⟩:=Ti Es;let⟨l,k,c⟩:=Ti Md;let⟨d,e⟩:=Oi (x:=x) (y:=y) b c;let⟨g,_⟩:=Oi (x:=y) (y:=x) c b;rw[fU];show kat_cons (wpAny_eqBool_int (kat_go (λa=>kat_yes (Qy Ey hw b c ?_)) λa=>kat_no ?_))
  ·let a:x=y:=by simpa using a
   let:=e a;rw[show decide (J5 ns<J5 ms)=decide (J5 (x::ns)<J5 (y::ms)) from decide_eq_decide.mpr ()];apply h
  ·let a:x≠y:=by simpa using a
   have:decide (J5 (x::ns)<J5 (y::ms))=decide (x<y):=decide_eq_decide.mpr ⟨λz=>by
    rcases qr x y with q | q | q
    ·apply q
    ·apply absurd q a
    ·let:=g q;lia,d⟩
   rw[this] at h
   cases i with
   | zero=>apply oneLt_int h
   | succ i=>apply kat_one _ _ (lt_int h)
def Zgs(i:II s.heap x p)(g:II s.heap y q)(c:G1 m p=aD)(b:G1 m q=aD)(h:Q (decide (J5 p<J5 q)) s) :
  az (model prog w) A (keyLt' (tuples' aD) (.ref x) (.ref y)) Q E s:=by
 let⟨t,it,z,f,l,L4,j⟩:=i;let⟨t',a,r,k,u,B,d⟩:=g;let o:=it.length;let v:=a.length;let n:p.length=m:=by delta G1 at c;dsimp[af,decide_eq_true_eq] at c;apply c.1
 let o2:q.length=m:=by delta G1 at b;dsimp[af,decide_eq_true_eq] at b;apply b.1
 show kat_lt f j k d ?_;let e:decide (t.toArray.size<t'.toArray.size)=aC:=decide_eq_false (by rw[aT,aT];lia);rw[e];apply Qy it a c b h
def v7:∀{bs:Gs}{ps:N7},(∀(i:Nat)(b:aP)(p:Gj),bs[i]?=aA b->ps[i]?=aA p->II s.heap b p)->(∀p∈ps,G1 (m+1) p=aD)->la bs=la ps->∃fs:List aI,KatTups s.heap (bs.map cZ) fs/\fs.length=la bs/\∀v∈fs,∃n t,v = .int n t
 | [],[],_,_,_=>⟨[],KatTups.nil,rfl,⋯⟩
 | b::bs,p::ps,h,ho,Kb=>by
  let⟨fs,g,u,f⟩:=v7 (bs:=bs) (ps:=ps) (λi l w r j=>h (i+1) l w (~~~r) (~~~j)) (λq k=>ho q (by simp[k])) (~~~Kb);let⟨y,it,o,e,c,n,d⟩:=h 0 b p rfl rfl
  cases it with
  | nil=>have:=ho [] ⋯;delta G1 at this;simp at this
  | cons x t it=>
   show⟨.int x t::fs,KatTups.cons e c d rfl g,by simp[u],λv a=>?_⟩;rcases aY.mp a with rfl | a
   ·apply⟨_,_,rfl⟩
   ·apply f v a
def uv{d:aP}{o:fE}{ep:Nat}{bs:Gs}{ps:N7}{Q:Gu}(U:s.heap.get? d=aA o)(S:o.cls = .type "list")(P:o.data = .seq (bs.map cZ).toArray ep)
  (G:la bs=la ps) (H:la ps<64) (ht:∀(i:Nat)(b:aP)(p:Gj),bs[i]?=aA b->ps[i]?=aA p->II s.heap b p) (f:∀p∈ps,G1 (m+1) p=aD) (L:ps.Nodup)
  (h:∀(D:aP)(g h':bp)(p:aaa)(e:Nat),(∀b o,s.heap.get? b=aA o->g.get? b=aA o)->g.objs.size<=D->(∀b o,g.get? b=aA o->h'.get? b=aA o)->h'.get? D=aA (fA "list" (jV (p.toList.map λi=>(bs.map cZ).getD i ee)) e)->
   Pm (la ps) p->Lg (λi=>J5 (ps.getD i [])) p (la ps)->Q (.ref D) { s with heap:=h' }) :
  az (model prog w) A (call (.builtin "sorted") [.ref d]) Q E s:=by
 show jY rZ qf qg (qh _) ?_;show aE (aM ?_);show aE (wpAny_collect_seq d (.inl rfl) U S P (λg I=>?_) (by rw[aT,aJ,G,dh];lia));show aE (kc ?_ (by rw[aJ,G,dh];lia));let y:(g.push (fA "list" (bs.map cZ).toArray 0)).get? g.objs.size=aA (fA "list" (bs.map cZ).toArray 0):=aX _ rfl
 let x:∀h':bp,(∀b o,b≠g.objs.size->(g.push (fA "list" (bs.map cZ).toArray 0)).get? b=aA o->h'.get? b=aA o)->∀(i:Nat)(b:aP)(p:Gj),bs[i]?=aA b->ps[i]?=aA p->II h' b p:=λh' k i b p B F=>
  (ht i b p B F).keep λo e=>k b o (bC (aV (I b o e))) (aH _ (I b o e))
 let c:(bs.map cZ).length=la ps:=by rw[aJ,G]
 let a:∀i,i<la ps->ps[i]?=aA (ps.getD i []):=λi l=>by simp[l]
 let u:∀i,i<la ps->∃b,bs[i]?=aA b/\(bs.map cZ).getD i ee = .ref b:=λi l=>⟨bs[i]'(),by simp[show i<la bs by lia],by simp[show i<la bs by lia]⟩;show aE (cg (bu om ⟨_,y,rfl⟩ oJ ?body (ot _)))
 case body=>
  show Ws (r:=λi=>J5 (ps.getD i [])) (κ:=tuples' aD) y (by rw[c];apply H) (λi j l z e=>?_) (λMd h' k Q Y=>?_) (λh' k i j l z C hC=>?_) λp O N=>⟨_,rfl,?_⟩
  ·rw[c] at l z;let B:=a i l;let F:=a j z;let:=X8 (f _ (aw B)) (f _ (aw F)) e;rw[this] at B;let⟨h1',J⟩:=aQ.mp B;let⟨h2',M⟩:=aQ.mp F;apply(kX L).mp (J.trans M.symm)
  ·let⟨fs,f1,f2,Z⟩:=v7 (s:={ s with heap:=h' }) (x h' k) f G;apply kat_kind (T:=.type "int") f1 () (λv W=>by let⟨n,t,rfl⟩:=Z v W;apply .now) rfl Y
  ·rw[c] at l z;let⟨b1,B,X⟩:=u i l;let⟨b2,F,g2⟩:=u j z;delta kas_ask;rw[X,g2];apply Zgs (x h' k i b1 _ B (a i l)) (x h' k j b2 _ F (a j z)) (f _ (aw (a i l))) (f _ (aw (a j z))) hC
  ·rw[c] at O N;let⟨e,R⟩:=sortedHeap_at y;show aM ⟨_,rfl,h g.objs.size g _ p e I (aU _) (λb o q=>?_) R O N⟩;rw[sortedHeap_old (bC (aV q)) (by rw[qG];apply fN (aV q))];apply aH _ q
end
structure ue(H:Hp)(bs:Gs)(ps:N7):Prop where
 len:la bs=la ps
 at':∀(i:Nat)(b:aP)(p:Gj),bs[i]?=aA b->ps[i]?=aA p->H b=aA (.tup (p.map V.int))
def Hl(K:aG):List V->Hp->Me->Prop:=λxs H Q=>∃(d:aP) (bs:Gs) (ps:N7) (m:Nat),xs=[.ref d]/\EJ K H d (bs.map V.ref)/\ue H bs ps/\(∀p∈ps,G1 (m+1) p=aD)/\la ps<64/\ps.Nodup/\
 ∀(l:aP)(cs:Gs),H l=aB->ue H cs (Di ps)->Q (.ref l) (upd H l (.lst (cs.map V.ref)))
def Zob(ok:AX P w H h)(e:H b=aA (.tup (p.map V.int))):II h b p:=by let⟨_,a,r,q⟩:=(ok b _ e);apply⟨a,V8 r,q⟩
def Z0:∀{bs:Gs}{us:Gr},Gp (bs.map V.ref) us->us=bs.map cZ
 | [],_,.nil=>rfl
 | b::bs,_,.cons h t=>by rw[Z0 t];cases h;rfl
def Yr{X:Cx}:Ie X (.builtin "sorted") (Hl X.K):=by
 ext N5 s σ H xs Z Q I r h;let⟨d,bs,ps,m,rfl,E,w,k,O,G,q⟩:=h;let⟨u,rfl,W⟩:=Vy r;cases W;let⟨Av,P,T,hz⟩:=I.list E;let⟨o,L,Y,n,M⟩:=T.isList;let:=Z0 P;subst this;show uv L Y M w.len O (λi b p f g=>Zob I.L5 (w.at' i b p f g)) k G λD F J p e f1 A U R t S=>?_;let B:=I.kept (t':=s.toks) f1;let' a:=p.toList.map λi=>bs.getD i 0;let' v:=p.toList.map λi=>ps.getD i [];let l:=Ziv t;let lx:=w.len
 let z:=Zcb k (tT t) (by
  rw[fS];ext i j C c y;dsimp[v,aJ,bW,t.GC] at C c;let:=S i j y c;dsimp[v,jW];rw[Xa,Xa] at this;dsimp[t.GC,C,c,cV] at this;apply n9 this)
 let x:ue H a (Di ps):=by
  rw[<-z];show⟨by simp[a,v],λi b q f g=>?_⟩;dsimp[a,v,ag] at f g
  cases Gy:p.toList[i]? with
  | none=>rw[Gy] at f;cases f
  | some j=>
   rw[Gy] at f g;let c:=l j (aw Gy);show w.at' j b q ?_ ?_
   ·rw[<-f];simp[show j<bs.length by lia]
   ·rw[<-g];simp[c]
 let N:(p.toList.map λi=>(bs.map cZ).getD i ee)=a.map cZ:=by rw[bS];show aq λj c=>?_;let:=l j c;change _=cZ (bs.getD j 0);rw[Zbq cZ bs 0 ()]
 show⟨.ref D,upd H D (.lst (a.map V.ref)),B.laid U A (⟨?_,a.map cZ,e,Ow a,?_⟩),rfl,q D a (B.L5.fresh A) x⟩
 ·dsimp[a,aJ,bW,t.GC];rw[dh];lia
 ·rw[<-N];apply R
def Nx:List PV->Option (List (List Int))
 | []=>aA []
 | .tup l::r=>(J9 l).bind λns=>(Nx r).map (ns::·)
 | _=>aB
def ni{l:List PV}:∀{ps:N7},Nx l=aA ps->l=ps.map λp=>.tup (iL p):=by
 induction l with
 | nil=>ext ps h;cases h;rfl
 | cons x r N8=>
  ext ps h
  cases x with
  | tup l=>
   let⟨ns,a,d⟩:=Zc (show(J9 l).bind _=_ from h);let⟨e,c,b⟩:=map_some d;subst b;rw[ak,<-N8 c,Yn a]
  | _=>cases h
def ZY:∀ps:List (List Int),Nx (ps.map λp=>.tup (iL p))=aA ps
 | []=>rfl
 | p::ps=>by rw[ak];change(J9 (iL p)).bind _=_;rw[Z5,aZ,ZY ps];rfl
def FH:List PV->Option PV
 | [.lst l]=>(Nx l).bind λps=>if ps.length<64/\ps.Nodup/\1<=(ps.headD []).length/\ps.all (G1 (ps.headD []).length)=aD then aA (.lst ((Di ps).map λp=>.tup (iL p))) else if ps=[] then aA (.lst []) else aB
 | _=>aB
def U1{K:aG}{H:Hp}:∀{cs:Gs}{qs:N7},ue H cs qs->JX K H (qs.map λp=>.tup (iL p)) (cs.map V.ref) []
 | [],[],_=>by simp[JX]
 | [],_::_,h=>by let:=h.len;simp at this
 | _::_,[],h=>by let:=h.len;simp at this
 | c::cs,q::qs,h=>by let e:=h.at' 0 c q rfl rfl;let d:ue H cs qs:=⟨by let:=h.len;simpa using this,λi b p a f=>h.at' (i+1) b p (~~~a) (~~~f)⟩;rw[ak,ak];delta JX;show⟨_,_,[],[],rfl,?_,U1 d,rfl⟩;delta Is;apply⟨c,_,rfl,e,JX.ofInts _⟩
def Zcc{K:aG}{H:Hp}:∀{qs:N7}{xs:List V}{Gh:Gs},JX K H (qs.map λp=>.tup (iL p)) xs Gh->∃d:List aP,xs=d.map V.ref/\ue H d qs
 | [],xs,Gh,h=>by dsimp[kK,JX] at h;apply⟨[],h.1,rfl,λi b p e=>by simp at e⟩
 | q::qs,xs,Gh,h=>by
  rw[ak] at h;delta JX at h;let⟨x,r,f1,m,rfl,j,g,_⟩:=h;let⟨d,rfl,f⟩:=Zcc g;let⟨p,n,rfl,l,k⟩:=j.b_;let⟨rfl,rfl⟩:=k.iL;show⟨p::d,rfl,by simp[f.len],λi b z c a=>?_⟩
  match i,c,a with
  | 0,c,a=>
   simp at c a;subst c a;apply l
  | i+1,c,a=>apply f.at' i b z (~~~c) (~~~a)
def ue.upd(h:ue H cs qs)(d:H l=aB)(o:HO):ue (upd H l o) cs qs:=
 ⟨h.len,λi b p a c=>by
  let:=h.at' i b p a c;rw[a_ (Zk this d)];apply this⟩
def Zoc(a:ue H cs (Di [])):ue H cs []:=by
 let b:Di []=[]:=by simp[Di]
 rw[b] at a;apply a
def vT{K:aG}:Bj K (Hl K) FH:=λH vs ls l w h e Q k=>by
 delta FH at e;split at e
 ·rename_i m;let⟨ps,o,c⟩:=Zc e;let s:=ni o;subst s;let⟨v,rfl,i⟩:=h.c0;let⟨p,xs,u,rfl,g,n,_⟩:=i.lst_inv;let⟨bs,rfl,b⟩:=Zcc n;split at c
  ·rename_i d;cases c;show⟨p,bs,ps,(ps.headD []).length-1,rfl,.inl (.inl g),b,λq a=>?_,d.1,d.2.1,λq t a b=>k _ _ [q] (AJ.new a _) (Is.lst bh (U1 (b.upd a _))) ⋯ λr f=>?_⟩
   ·rw[show(ps.headD []).length-1+1=(ps.headD []).length by lia];apply bN.mp d.2.2.2 q a
   ·rw[aO.mp f];apply⟨a,by rw[bh];apply cK⟩
  ·split at c
   ·rename_i j;cases c;subst j;show⟨p,bs,[],0,rfl,.inl (.inl g),b,λq a=>by simp at a,⋯,⋯,λq t a b=>k _ _ [q] (AJ.new a _) (Is.lst bh (U1 ((Zoc b).upd a _))) ⋯ λr f=>?_⟩;rw[aO.mp f];apply⟨a,by rw[bh];apply cK⟩
   ·cases c
 ·cases e
end _v
namespace _l
open PySem PySem.Spec PyProof.Rows
structure DI(k:Nat)(A:bg):Prop where
 Cr:A.depth+3*k+5<o4
 un:A.units+16*k+200<gE
 Ic:A.guards=aA []
def zJ{j k:Nat}{A a:bg}(r:Cm k A)(h:j<=k)(d:a.depth=A.depth|>On)(u:a.units=A.units|>On)(g:a.guards=A.guards|>On):DI j a:=⟨by let:=r.Cr;lia,by let:=r.un;lia,g▸r.Ic⟩
structure HU(A:bg):Prop where
 units:A.units+64<gE
abbrev xT(P:bO)(w:bX)(K:aG)(mg:JM)(base:bp)(N:Gm)(qual:bJ)(scope:jX)(f:aP)(cd:aI)(A:bg)(outer:GB)(s:aR)(H:Hp)(E:Ml):Cx:={ Ip Mq P w K mg base N qual scope f cd A outer s H E with calm:=aC }
structure Zi4(P:bO)(w:bX)(K:aG)(mg:JM)(base:bp)(k:Nat)(f:aP)(fd:gj)(ps:Gm)(sp:Sp):Prop where
 len:∀vs H Q E,sp vs H Q E->la vs=la ps
 run:∀(A:bg)(outer:GB)(s:aR)(H:Hp)(args:Args)(us:Gr)(vs:List V)(Q:Me)(E:Ml),DI k A->lL P w K mg base A outer s H->pM s fd args (ps.zip us)->Gp vs us->sp vs H Q E->
  jT (model P w) A (.call (.ref f) args) (CR Mq outer P w H s Q E) s
def Zlk{P:bO}{w:bX}{K:aG}{mg:JM}{g:bp}{k:Nat}{f:aP}{name d:bJ}{h:pO}{l:Cs}{a:jX}{W GS L Y j Gq Cp:aI}{X AB:Co}
  {R:aau} {N ps:Gm} {U:Sp} (lk:K.lookup f=aA ⟨Cp,AB,.func (cf name d h l a W GS L Y X j Gq),R⟩) (D:dS K j d=aD) (S:Z2 N ps a)
  (len:∀vs H Q E,U vs H Q E->la vs=la ps)
  (B:∀(A:bg)(c:GB)(s:aR)(H:Hp)(vs:List V)(Q:Me)(E:Ml),DI k A->U vs H Q E->
   ∃t,Kw (xT P w K mg g N d a f j A c s H E).EA l t/\t { L4:=λ_ p=>Q .Ma p,Cj:=Q } (start N vs) H) :
  Zi4 P w K mg g k f (cf name d h l a W GS L Y X j Gq) ps U:=by
 show⟨len,λA c s H args us vs Q E hr i Ck r G=>?_⟩;let Kb:=len _ _ _ _ G;let Z:=i.mod.aav.keeps λb o e=>(i.bs b o e).1;let T:=i.mod.nolimit.keeps λb o e=>(i.bs b o e).1
 let C:∀y∈ps.zip us,a.names.lookup y.1=aA .local\/(a.names.lookup y.1=aA .cell/\((rC (s.heap.objs.size+1) a.names []).lookup y.1).isSome=aD):=by
  ext⟨n,v⟩ hy;rcases S.par n (i6 hy).1 with q | q
  ·apply .inl q
  ·apply .inr ⟨q,kG _ _ _ (.inl q)⟩
 show oP (by let:=hr.Cr;lia) (Z _ _ lk) rfl S.co S.gen rfl (qB Z D) (Ck _ _ _ _ ?_);show lX S.kind C λenv he s1 x=>?_;subst he;show⟨T.keeps x.toInCall.keep,codeAny_func ?_⟩;let⟨t,ht,hq⟩:=B A c s H vs Q E hr G;let Mc:lL P w K mg g ({ A with handled:=aB }:bg) c s H:=⟨i.frames,i.mod,i.bs,i.aae,i.ED,i.aal,i.tab,i.L5,i.bare⟩;let J:=Vg (CX:=Mq) (E:=E) D S rfl Mc Kb r x
 let I:Inv (xT P w K mg g N d a f j A c s H E) [] (start N vs) H s1:=
  ⟨⟨J.ok.mod,J.ok.kind,J.ok.glob,J.ok.blt,J.ok.above,J.ok.inj,J.ok.has,J.ok.aa2,(λz=>by cases z),J.ok.frames,J.ok.aao,J.ok.Cu,J.ok.bs,J.ok.aae,J.ok.aa6,J.ok.aa7,J.ok.ED,J.ok.aal,J.ok.tab,J.ok.abe⟩,J.os,J.bare,J.base,J.loc,J.cell,J.free,J.GH,J.pin,J.L5,J.len⟩
 show bq (ht.EA [] s1 (start N vs) H _ I hq) (λfl M hs=>?_) λe M hs=>hs
 let F:∀{m:St}{p:Hp}{v:V}{u:aI},Inv (xT P w K mg g N d a f j A c s H E) [] m p M->RelV v u->Q v p->CE c P w H s Q u M:=
  λ{m p v u} J O q=>⟨v,p,J.os,J.bare,J.base,J.L5,O,q⟩
 cases fl with
 | ret u=>
  let⟨v,m,p,J,O,q⟩:=hs;apply F J O q
 | next=>
  let⟨m,p,J,q⟩:=hs;apply F (v:=V.Ma) J rfl q
 | brk=>
  let⟨_,_,_,q⟩:=hs;apply bz q
 | cont=>
  let⟨_,_,_,q⟩:=hs;apply bz q
structure w4(P:bO)(w:bX)(K:aG)(mg:JM)(base:bp)(x:bJ)(ps:Gm)(sp:Sp)(k:Nat):Prop where
 ex:∃f fd,mg x=aA (.ref f)/\fK K (.ref f)=aD/\Binds K fd ps []/\Zi4 P w K mg base k f fd ps sp
end _l
namespace _v
open PySem PySem.Spec PyProof.Rows _l
section
variable {K:aG} {P:bO} {w:bX} {mg:JM} {base:bp}
def Zgt{x:bJ}{st:cD}{N ps:Gm}{k n:Nat}{O W:N6}(m:Nat)(f:XS)(D:Def K mg x st)(S:Z2 N ps (GV st))
  (q:∀(GS d o:aI)(l:Co)(b Gq:aI)(us:Gr),us.length=la ps->jc (cf x x (M9 st) (Kv st) (GV st) .none GS d o l b Gq) ⟨us,[]⟩=pure (ps.zip us))
  (r:la ps=n) (g:la N=m) (z:∀i∈O,n<=i)
  (c:∀(fa:aP)(b:aI)(A:bg)(a:GB)(s:aR)(H:Hp)(E:Ml),HU (A.deeper (j6 x (GV st) s.heap.objs.size fa b))->Lb (xT P w K mg base N x (GV st) fa b A a s H E).EA O W (Kv st) f) :
  w4 P w K mg base x ps (EV K (CB m f) n) k:=by
 subst g;let⟨p,u,g,F⟩:=D.ex;show⟨p,u,g,F.kp,F.binds q,?_⟩;let⟨C,B,GS,d,o,l,b,Gq,t,rfl,y,e⟩:=F.ex;apply Zlk y e S (λvs H Q E h=>by rw[r];apply h.1) λA a s H vs Q E v j=>⟨_,c p b A a s H E ⟨by let:=v.un;change A.units+3+64<gE;lia⟩,TY z j⟩
end
section
variable {X:Cx} {x:bJ} {ps:Gm} {k:Nat} {e:bT} {Gi:Mk} {fs:List XE} {p pos:g6}
def PO{D:List PV->Option PV}{n:Nat}(C:w4 X.prog X.w X.K X.mg X.base x ps (EV X.K D n) k)(Z:DI k X.A)(Y:Gl X x)(o:Kr X (e::Gi) fs)(P:la fs=n|>On)
  (w:(x==("__debug__" : bJ))=aC|>Op) (G:aN (e::Gi) X.env=(aC,eval e X.env)::aN Gi X.env|>On) (t:(ck pos (aN Gi X.env)).any (·.1)=aC|>On) :
  AU X (.Call (.Name x p) (e::Gi) [] pos) (AK D fs):=by
 intro J s L H Q I ⟨sp,l,env,R,q⟩;let⟨ls,A,U⟩:=Zc R;let⟨f,fd,W,hk,M,F⟩:=C.ex;show cU (Wx I Y W ?_ w);show gU I.ok.mod.aav hk (Z8 (o pos J s L H (λvs b=>AJ H b/\∃c,JX X.K b ls vs c) I ⟨λ_=>False,sp,ls,λ_ z=>z.elim,env,A,λvs b c s1 j _=>⟨s1,c,j⟩⟩) λi s1 ⟨vs,b,m,r,y,c,j⟩=>⟨m.GA,?_⟩) G t;let g:EV X.K D n vs b Q E0:=⟨by rw[j.len,Xu A,P],ls,c,l,j,U,λv S N s2 O E B=>q v S N (y.trans s2) O E λa o=>⟨AJ.off y (B a o).1,(B a o).2⟩⟩;let T:(i++[]).length=la ps:=by rw[bx,<-r.length];apply F.len _ _ _ _ g
 let h:=M s1 i m.GA T;rw[bx] at h;show jx (fX (F.run X.A X.stack s1 b ⟨i,[]⟩ i vs Q E0 Z m.se h r g) λr Aq d=>?_)
 cases r with
 | error e=>apply d.elim
 | ok fl=>
  cases fl with
  | ret u=>apply m.after d
  | next=>apply bz d
  | brk=>apply bz d
  | cont=>apply bz d
end
end _v
namespace _x
open PySem PySem.Spec PyProof.Rows _l _v
section
variable {X:Cx} {k:Nat} {e e2:bT} {JN xl:TE} {y y2:bJ} {p1 p2 p3 p4 p5:g6} {jj j2:Nat}
def JG(JN xl:TE):TE:=λσ H Q=>JN σ H λv H1=>(∃i:Int,v = .int i/\i.natAbs.log2<1920)/\xl σ H1 λv2 H2=>FX H2 v2/\∀z,Q (.str z) H2
def Zgu(J:Cm k X.A)(M:JY X e JN)(D:JY X e2 xl)(hy:y.length<=1000|>Op)(N:y2.length<=1000|>Op) :
  JY X (.JoinedStr [.Constant (.str y) jj p1,.FormattedValue e (-1) aB p2,.Constant (.str y2) j2 p4,.FormattedValue e2 (-1) aB p5] p3) (JG JN xl):=by
 ext c s d H Q I h;show wpAny_JoinedStr ?_;show Z8 (gB c s d H (λv E=>v = .str y/\E=H) I ⟨rfl,rfl⟩) ?_;ext u s1 ⟨v,E,R,r,p,C⟩;subst p C;let⟨t,rfl⟩:=r;let F:(jS++y).length=y.length:=by rw[fH];change 0+_=_;lia
 let GC:(2000:Nat)+202000<=sizeLine:=∅
 show⟨y,t,rfl,(),?_⟩;show jO ?_;show Z8 (M c s1 d E _ R h) ?_;ext u s2 ⟨v,j,l,r,⟨i,p,g⟩,q⟩;subst p;let⟨B,rfl⟩:=r;show kU g ?_;let li:=iW ∅ g;generalize G:(fO (toString i))=x;let lx:x.length<=1940:=by rw[<-G,gY];lia
 show⟨x,_,by rw[<-G],by rw[fH,F];lia,?_⟩;show Z8 (gB c _ d j (λv A=>v = .str y2/\A=j) (l.tok _) ⟨rfl,rfl⟩) ?_;ext u U ⟨v,A,I4,r,p,C⟩;subst p C;let⟨t4,rfl⟩:=r;let Mc:(jS++y++x++y2).length<=4000:=by rw[fH,fH,F];lia
 show⟨y2,t4,rfl,(),?_⟩;show jO ?_;show Z8 (D c U d A _ I4 q) ?_;ext u s2 ⟨v,j,l,r,T,q⟩
 let f:∀(z:bJ)(u:si)(o:aR),z.length<=200000->Inv X c d j o->∃(b:bJ) (B:si),my z u=my b B/\(jS++y++x++y2++b).length<=sizeLine/\(jS++y++x++y2++b).length<=sizeLine/\EP X c d Q (.str (jS++y++x++y2++b) o.toks) { o with toks:=o.toks+1 }:=λz u o hz w=>by
  show⟨z,u,rfl,?_,?_,.str _,j,w.tok _,⟨_,rfl⟩,q _⟩
  ·rw[fH];lia
  ·rw[fH];lia
 rcases T with rfl | ⟨i,rfl,g⟩ | ⟨a,is,rfl,W,Kb,hs⟩
 ·obtain rfl:=r;show n6 ?_;let w:=l.kept (t':=s2.toks+1+1) λ_ _ z=>z;apply f "None" _ _ ∅ w
 ·let⟨B,rfl⟩:=r;show kU g ?_;let:=iW ∅ g;apply f (toString i) _ _ (by rw[gY];lia) (l.tok _)
 ·obtain rfl:=r;let⟨_,Av,S,aak,P,O,n,L⟩:=(l.L5 a _ W);let Z:Reads s2.heap (.ref a) (.tuple (is.map fC)) []:=.tuple P O L (QC (~~~S))
  let MO:(n8 (is.map fC)).shown.length<=3+is.length*(1930+2):=by
   change(rN (lC (is.map fC))).length<=_;rw[zB];let:=RF (ts:=is.map λi=>fO (toString i)) (m:=1930) λt Y=>by let⟨i,g,rfl⟩:=aa.mp Y;let:=iW ∅ (hs i g);rw[gY];lia
   rwa [aJ] at this
  let Ax:=J.un;let Cr:=UT is
  show pC Z (RD hs) (λz=>by rw[show(n8 (is.map fC)).hasDict=kQ (is.map fC) from rfl,Uh] at z;cases z) J.Ic (by
   dsimp[nZ]
   lia) (λ_ _ z=>z) (λh' u tk hk=>?_) ()
  let w:Inv X c d j { s2 with heap:=h',toks:=tk }:=l.kept hk;apply f _ u _ () w
end
def FJ:PV->Bool
 | .int i=>decide (i.natAbs.log2<1920)
 | _=>aC
def Lz(x:bJ)(f g:XE):XR:=λs=>(f s).bind λl=>(g s).bind λm=>if(FJ l&&K7 m)=aD then aA x else aB
section
variable {X:Cx} {O:N6} {E:Ml} {B newId lG:L_} {uo:Gr} {C Cb:aP} {x y y2 nmC:bJ} {e e2:bT} {f g:XE} {k:Nat} {p1 p2 p3 p4 p5 np t8 pos:g6} {jj j2:Nat}
def zE(F:qk B newId lG uo)(L:ip X.K C uo newId=aD)(N:Gl X x)(M:X.mg x=aA (.ref C))(p:dm X.K bY x=aA (aA (.ref C)))(a:X.calm=aD)(S:IU X E)(R:Cm k X.A)(u:JW X e f)(d:JW X e2 g)
  (I:y.length<=1000|>Op) (b:y2.length<=1000|>Op) (o:(x==("__debug__" : bJ))=aC|>Op) (n:aN [.JoinedStr [.Constant (.str y) jj p1,.FormattedValue e (-1) aB p2,.Constant (.str y2) j2 p4,.FormattedValue e2 (-1) aB p5] p3] X.env=(aC,eval (.JoinedStr [.Constant (.str y) jj p1,.FormattedValue e (-1) aB p2,.Constant (.str y2) j2 p4,.FormattedValue e2 (-1) aB p5] p3) X.env)::aN [] X.env|>On) :
  VX X O E (.Raise (aA (.Call (.Name x np) [.JoinedStr [.Constant (.str y) jj p1,.FormattedValue e (-1) aB p2,.Constant (.str y2) j2 p4,.FormattedValue e2 (-1) aB p5] p3] [] t8)) aB pos) (Lz x f g):=
 AV.imp (Vk F L N M a S (Zgu R u d I b) o n)<|by
  ext D T H ⟨U,bD,s,w,r,e,q⟩;let⟨l,J,e⟩:=Zc e;let⟨m,h,e⟩:=Zc e;split at e
  ·rename_i hs;dsimp[af] at hs;cases e;show⟨λ_=>False,s,l,λ_ z=>z.elim,r.env,J,λv Z W t i _=>⟨?_,λ_=>False,s,m,λ_ z=>z.elim,r.env.mono t,h,λY G Q c A _=>?_⟩⟩
   ·cases l with
    | int j=>apply⟨j,i.int_inv.1,of_decide_eq_true hs.1⟩
    | _=>cases hs.1
   ·let⟨P,rfl⟩:=VN A hs.2;apply⟨P,λz=>⟨rfl,q C G p (r.same.trans (t.trans c))⟩⟩
  ·cases e
end
structure Q9(K:aG)(mg:JM)(Ct Ce Cb:aP):Prop where
 t:QN "NoTree" K mg Ct Cb
 e:QN "NotSettled" K mg Ce Cb
def BE(cx:bJ):bJ->Option Bool:=λn=>if n = "NoTree" then aA (decide (cx = "NoTree")) else if n = "NotSettled" then aA (decide (cx = "NotSettled")) else aB
def HG:bJ->Option Bool:=λn=>if n = "NoTree" then aA aD else if n = "NotSettled" then aA aD else aB
section
variable {X:Cx} {Ct Ce Cb:aP} {e:bT} {f:XE} {cx:bJ} {p p2 pos:g6}
def W3(Q:Q9 X.K X.mg Ct Ce Cb)(g:Gl X "isinstance")(s:X.mg "isinstance" = aB)(r:JW X e f)(d:cx∈Ju)(k:Gl X cx)(o:(cx==("__debug__" : bJ))=aC|>Op)
  (m:aN [e,.Name cx p2] X.env=(aC,eval e X.env)::aN [.Name cx p2] X.env|>On) (a:aN [.Name cx p2] X.env=(aC,eval (.Name cx p2) X.env)::aN [] X.env|>On) (i:(ck pos (aN [.Name cx p2] X.env)).any (·.1)=aC|>On):AU X (.Call (.Name "isinstance" p) [e,.Name cx p2] [] pos) (Lc (BE cx) f):=by
 let⟨D,q,t⟩:=Q.t.cls cx d;let⟨u,c,l⟩:=Q.e.cls cx d;rw[q] at c;cases c;show Zb4 g s r (.own D) (Zgg k q o) (λn b h=>?_) m a i;delta BE at h;split at h
 ·rename_i j;subst j;cases h;apply⟨Ct,Q.t.no,Q.t.ec,t⟩
 ·split at h
  ·rename_i j;subst j;cases h;apply⟨Ce,Q.e.no,Q.e.ec,l⟩
  ·cases h
def Zgv(Q:Q9 X.K X.mg Ct Ce Cb)(c:Gl X "isinstance")(m:X.mg "isinstance" = aB)(k:JW X e f)(j:Gl X "ValueError")(l:X.mg "ValueError" = aB)
  (d:aN [e,.Name "ValueError" p2] X.env=(aC,eval e X.env)::aN [.Name "ValueError" p2] X.env|>On) (a:aN [.Name "ValueError" p2] X.env=(aC,eval (.Name "ValueError" p2) X.env)::aN [] X.env|>On) (g:(ck pos (aN [.Name "ValueError" p2] X.env)).any (·.1)=aC|>On):AU X (.Call (.Name "isinstance" p) [e,.Name "ValueError" p2] [] pos) (Lc HG f):=by
 show Zb4 c m k (.ty "ValueError") (Zgh j l rfl) (λn b h=>?_) d a g;delta HG at h;split at h
 ·rename_i i;subst i;cases h;apply⟨Ct,Q.t.no,Q.t.ec,Q.t.ve⟩
 ·split at h
  ·rename_i i;subst i;cases h;apply⟨Ce,Q.e.no,Q.e.ec,Q.e.ve⟩
  ·cases h
end
section
variable {X:Cx} {O W:N6} {Ct Ce Cb:aP} {k n i:Nat} {x nm:bJ} {ps:Gm} {R:List PV->Option bJ} {e:bT} {Gi:Mk} {fs:List XE} {p cp ep np Gn pos:g6} {b₀:cD} {hY:Cs} {f:XS} {EH:List kd}
def Zcf{y:bJ}{o:g6}(Q:Q9 X.K X.mg Ct Ce Cb)(CX:kx X.prog X.w X.K X.mg X.base x ps (KA X.K R n) k)(s:∀ls m,R ls=aA m->m = "NoTree"\/m = "NotSettled")(A:Cm k X.A)(u:Gl X x)(z:Kr X.EA (e::Gi) fs)(w:X.ex=[])(g:X.stack=X.env::X.outer)(b:X.env.frame=aA X.env.locals)
  (v:X.N.Nodup) (t:X.N[i]?=aA nm) (B:X.env.scope.names.lookup nm=aA .local) (d:Gl X "PurseError")
  (hs:∀e,Lb (Cx.mark X e) O W (b₀::hY) f) (l:i∉O) (c:gO (.Call (.Name x p) (e::Gi) [] cp) (aA (.Name y o)) ep.line X.env=pure aC|>On) (r:la fs=n|>On)
  (j:(x==("__debug__" : bJ))=aC|>Op) (q:aN (e::Gi) X.env=(aC,eval e X.env)::aN Gi X.env|>On) (a:(ck cp (aN Gi X.env)).any (·.1)=aC|>On) :
  MX X O (i::W) (.Try [.Assign [.Name y o] (.Call (.Name x p) (e::Gi) [] cp) ep] (.ExceptHandler (aA (.Name "PurseError" np)) (aA nm) (b₀::hY) Gn::EH) [] [] pos) (Nv R fs i f):=
 Zgk CX A u z w g b v t B d Q.t.F_ Q.t.kb (λls m h=>by
  rcases s ls m h with rfl | rfl
  ·apply⟨Ct,Q.t.no,Q.t.ec.kt,Q.t.Ap⟩
  ·apply⟨Ce,Q.e.no,Q.e.ec.kt,Q.e.Ap⟩) hs l c r j rfl q a
def Vn(Q:Q9 X.K X.mg Ct Ce Cb)(CX:kx X.prog X.w X.K X.mg X.base x ps (KA X.K R n) k)(r:∀ls m,R ls=aA m->m = "NoTree"\/m = "NotSettled")(y:Cm k X.A)(t:Gl X x)(w:Kr X.EA (e::Gi) fs)(v:X.ex=[])(g:X.stack=X.env::X.outer)(b:X.env.frame=aA X.env.locals)
  (u:X.N.Nodup) (s:X.N[i]?=aA nm) (z:X.env.scope.names.lookup nm=aA .local) (d:Gl X "PurseError")
  (hs:∀e,Lb (Cx.mark X e) O W (b₀::hY) f) (l:i∉O) (c:gO (.Call (.Name x p) (e::Gi) [] cp) aB ep.line X.env=pure aC|>On) (q:la fs=n|>On)
  (j:(x==("__debug__" : bJ))=aC|>Op) (o:aN (e::Gi) X.env=(aC,eval e X.env)::aN Gi X.env|>On) (a:(ck cp (aN Gi X.env)).any (·.1)=aC|>On) :
  Lv X (.ExceptHandler (aA (.Name "PurseError" np)) (aA nm) (b₀::hY) Gn::EH) [.Expr (.Call (.Name x p) (e::Gi) [] cp) ep] (Dc X.K O (i::W) (Nv R fs i f)):=
 Zgd CX y t w v g b u s z d Q.t.F_ Q.t.kb (λls m h=>by
  rcases r ls m h with rfl | rfl
  ·apply⟨Ct,Q.t.no,Q.t.ec.kt,Q.t.Ap⟩
  ·apply⟨Ce,Q.e.no,Q.e.ec.kt,Q.e.Ap⟩) hs l c q j rfl o a
end
def Dr(f:XR):Prop:=∀s m,f s=aA m->m = "NoTree"\/m = "NotSettled"
def uU{x:bJ}{f:XE}(h:x = "NoTree"\/x = "NotSettled"):Dr (Lp x f):=λs m e=>by
 let⟨l,_,e⟩:=Zc e;split at e
 ·cases e;apply h
 ·cases e
def Tn:Dr Nt:=λs m e=>nomatch e
def VP{d:XT}{f g:XR}(a:Dr f)(b:Dr g):Dr (GL d f g):=λs m e=>by
 let⟨c,_,e⟩:=Zc e;split at e
 ·apply a s m e
 ·apply b s m e
def Sa{f1:XR}{f:XS}{g:XR}(a:Dr f1)(b:Dr g):Dr (M6 f1 f g):=λs m e=>by
 delta M6 at e;split at e
 ·rename_i c d;cases e;apply a s _ d
 ·split at e
  ·apply b _ m e
  ·cases e
def RH{k:Nat}{f:XR}(h:Dr f):∀ls m,Lr k f ls=aA m->m = "NoTree"\/m = "NotSettled":=λls m e=>h _ m e
def E8(R:List PV->Option bJ)(fs:List XE):XR:=λs=>(A2 fs s).bind R
section
variable {X:Cx} {O W:N6} {E:Ml} {k n:Nat} {x:bJ} {ps:Gm} {R:List PV->Option bJ} {e:bT} {Gi:Mk} {fs:List XE} {p cp ep:g6}
def uq(CX:kx X.prog X.w X.K X.mg X.base x ps (KA X.K R n) k)(hr:Cm k X.A)(Y:Gl X x)(Z:Kr X.EA (e::Gi) fs)(DX:IU X E)
  (o:gO (.Call (.Name x p) (e::Gi) [] cp) aB ep.line X.env=pure aC|>On) (P:la fs=n|>On)
  (B:(x==("__debug__" : bJ))=aC|>Op) (N:aN (e::Gi) X.env=(aC,eval e X.env)::aN Gi X.env|>On) (l:(ck cp (aN Gi X.env)).any (·.1)=aC|>On) :
  VX X O E (.Expr (.Call (.Name x p) (e::Gi) [] cp) ep) (E8 R fs):=by
 intro G s J H D I ⟨H0,bD,sp,m,r,Mc,q⟩;let⟨ls,L,U⟩:=Zc Mc;let⟨fa,fd,w,y,C,F⟩:=CX.ex;show oX ?_ I.quiet o;show cU (Wx I Y w ?_ B);show gU I.ok.mod.aav y ?_ N l;show bq (Z cp G s J H (λvs a=>AJ H a/\∃d,JX X.K a ls vs d) (I.aag _) ⟨λ_=>False,sp,ls,λ_ z=>z.elim,r.env,L,λvs a d s1 j _=>⟨s1,d,j⟩⟩) (λi s1 ⟨vs,a,b,M,W,d,j⟩=>?_) λ_ _ z=>z.elim;let b:=b.aab;let c:vs.length=n:=by rw[j.len,Xu L,P]
 let g:KA X.K R n vs a (λ_ _=>False) E:=⟨c,ls,d,m,j,U,λC' H' Q A=>q C' H' Q (r.same.trans (W.trans A))⟩;let S:(i++[]).length=la ps:=by rw[bx,<-M.length,c];let:=F.len _ _ _ _ g;lia
 let h:=C s1 i b.GA S;rw[bx] at h;show⟨b.GA,jx (fX (F.run X.A X.stack s1 a ⟨i,[]⟩ i vs _ _ hr b.se h M g) λt T f=>?_)⟩
 cases t with
 | ok fl=>
  cases fl with
  | ret u=>let⟨_,_,_,_,_,_,_,z⟩:=f;apply z.elim
  | next=>apply bz f
  | brk=>apply bz f
  | cont=>apply bz f
 | error v=>apply Zgc DX (λ_ _ _ z=>z) G J a s1 v T b f
def To(h:∀ls m,R ls=aA m->m = "NoTree"\/m = "NotSettled"):Dr (E8 R fs):=λs m e=>by let⟨ls,_,e⟩:=Zc e;apply h ls m e
def dT{x:bJ}{f g:XE}(h:x = "NoTree"\/x = "NotSettled"):Dr (Lz x f g):=λs m e=>by
 let⟨l,_,e⟩:=Zc e;let⟨a,_,e⟩:=Zc e;split at e
 ·cases e;apply h
 ·cases e
end
end _x
namespace _l
open PySem PySem.Spec PyProof.Rows
def Rl(h:([(x,a)]:aac).lookup y=aA c):c=a:=by grind
def Pa(h:([(x,a)]:aac).lookup y=aA c):y=x:=by grind
end _l
namespace _v
open PySem PySem.Spec PyProof.Rows _l
variable {K:aG}
def NC(H:Hp)(e:aP):Hp:=λb=>if b=e then aB else H b
def WT:NC H e e=aB:=by delta NC;rw[An rfl]
def X1(h:b≠e):NC H e b=H b:=by delta NC;rw[N4 h]
def Sb(h:H b=aB):NC H e b=aB:=by
 delta NC;split
 ·rfl
 ·apply h
def Zgw(h:NC H e b=aA o):b≠e/\H b=aA o:=by
 delta NC at h;split at h
 ·cases h
 ·rename_i n;apply⟨n,h⟩
def W4{H:Hp}{e b:aP}{o u:HO}(a:H e=aA o)(c:H b=aA u)(d:u≠o):b≠e:=by grind
section
variable {P:bO} {w:bX} {H H':Hp} {h h':bp} {e:aP} {eo:fE} {fs:Gs}
def Zcg(x:AX P w H h)(c:H e=aA (.Er eo (.own 1))):AX P w (NC H e) h:=λa o d=>by
 let⟨ne,d⟩:=Zgw d
 apply(x a o d).EC (λ_ _ _ q=>q) (λb q=>by rw[X1 (W4 c q (by nofun))];apply q) (λb xs q=>by rw[X1 (W4 c q (by nofun))];apply q)
  λb u q=>by rw[X1 (W4 c q ⋯)];apply q
def Vv(x:AX P w H h)(a:H e=aB)(d:h.get? e=aA eo):AX P w (upd H e (.Er eo (.own 1))) h:=λb u q=>by
 by_cases z:b=e
 ·subst z;rw[bh] at q;cases q;apply⟨d,_,d⟩
 ·rw[a_ z] at q;apply(x b u q).EC (λ_ _ _ r=>r) (λc r=>by rw[a_ (Zk r a)];apply r) (λc xs r=>by rw[a_ (Zk r a)];apply r) λc v r=>by rw[a_ (Zk r a)];apply r
def Ld.rm{mg:JM}{a:bp}(t:Ld K mg a H)(d:H e=aA (.Er eo (.own 1))):Ld K mg a (NC H e):=λq c g j=>by let⟨Pt,ps,tk,f,b,i,h⟩:=t q c g j;apply⟨Pt,ps,tk,f,by rw[X1 (W4 d b (by nofun))];apply b,i,h⟩
def Ld.add(t:Ld K mg base H)(b:H e=aB):Ld K mg base (upd H e (.Er eo (.own 1))):=λq c i h=>by let⟨Pt,ps,tk,d,a,g,f⟩:=t q c i h;apply⟨Pt,ps,tk,d,by rw[a_ (Zk a b)];apply a,g,f⟩
def Zgx(u:Au fs [] (NC H e) H' h h')(c:H e=aA (.Er eo (.own 1)))(d:H' e=aB):Au fs [] H (upd H' e (.Er eo (.own 1))) h h' where
 keep b o q n hf hx:=u.keep b o q (Sb n) hf hx
 slot b o q n hf hx:=u.slot b o q (Sb n) hf hx
 free b o q n hx:=by rw[a_ (λz=>by rw[z,c] at n;cases n)];apply u.free b o q (Sb n) hx
 there:=u.there
 aad b xs q:=by let ne:=W4 c q (by nofun);rw[a_ ne];apply u.aad b xs (by rw[X1 ne];apply q)
 AE b o v q:=by
  by_cases z:b=e
  ·subst z;rw[c] at q;cases q;apply bh
  ·rw[a_ z];apply u.AE b o v (by rw[X1 z];apply q)
 Cv b ps q:=by let ne:=W4 c q (by nofun);let⟨a,z⟩:=u.Cv b ps (by rw[X1 ne];apply q);apply⟨a,by rw[a_ ne];apply z⟩
def Zlm(u:Au fs [] (upd H e (.Er eo (.own 1))) H' h h')(f:H e=aB)(k:h.get? e=aA eo)(i:e∉fs)(g:AX P w H' h'):Au fs [] H (NC H' e) h h':=by
 let j:=u.AE e eo _ bh;let l:=(g e _ j).1;show⟨λb o q n d c=>?_,λb o q n d c=>?_,λb o q n c=>?_,u.there,λb xs q=>?_,λb o v q=>?_,λb ps q=>?_⟩
 ·by_cases z:b=e
  ·subst z;rw[k] at q;cases q;apply l
  ·apply u.keep b o q (by rw[a_ z];apply n) d c
 ·let z:b≠e:=λz=>i (z▸d);apply u.slot b o q (by rw[a_ z];apply n) d c
 ·by_cases z:b=e
  ·subst z;apply WT
  ·apply Sb (u.free b o q (by rw[a_ z];apply n) c)
 ·let z:=Zk q f;rw[X1 z];apply u.aad b xs (by rw[a_ z];apply q)
 ·let z:=Zk q f;rw[X1 z];apply u.AE b o v (by rw[a_ z];apply q)
 ·let z:=Zk q f;let⟨a,y⟩:=u.Cv b ps (by rw[a_ z];apply q);apply⟨a,by rw[X1 z];apply y⟩
end
mutual
def KC:PV->Bool
 | .Ma=>aD
 | .Ap _=>aD
 | .int _=>aD
 | .str _=>aD
 | .ty _=>aD
 | .exc _=>aC
 | .Cu _ _=>aC
 | .ox _ _=>aC
 | .tup l=>Ik l
 | .lst l=>Ik l
 | .cst l=>Ik l
 | .Mf _ l=>Ik l
 | .L8 _ l=>Ik l
def Ik:List PV->Bool
 | []=>aD
 | x::r=>KC x&&Ik r
end
def ET.rm{H:Hp}{e:aP}{c:fE}(a:H e=aA (.Er c (.own 1))){p:aP}{u:HO}(d:u≠.own 1)(b:∀o v,u≠.Er o v)(r:ET H p u):ET (NC H e) p u:=by
 rcases r with r | ⟨o,r⟩
 ·apply .inl (by rw[X1 (W4 a r (b _ _))];apply r)
 ·apply .inr ⟨o,by rw[X1 (W4 a r (by ext z;cases z;apply d rfl))];apply r⟩
mutual
def Is.rm{H:Hp}{e:aP}{k:fE}(b:H e=aA (.Er k (.own 1))):∀(l:PV)(v:V)(Gh:Gs),KC l=aD->Is K H l v Gh->Is K (NC H e) l v Gh
 | .Ma,_,_,_,h=>by simpa only[Is] using h
 | .Ap _,_,_,_,h=>by simpa only[Is] using h
 | .int _,_,_,_,h=>by simpa only[Is] using h
 | .str _,_,_,_,h=>by simpa only[Is] using h
 | .ty _,_,_,_,h=>by simpa only[Is] using h
 | .exc _,_,_,Gn,_=>by simp[KC] at Gn
 | .Cu _ _,_,_,Gn,_=>by simp[KC] at Gn
 | .ox _ _,_,_,Gn,_=>by simp[KC] at Gn
 | .tup l,v,Gh,Gn,h=>by dsimp[Is] at h ⊢;let⟨p,xs,d,a,c⟩:=h;apply⟨p,xs,d,by rw[X1 (W4 b a (by nofun))];apply a,JX.rm b l xs Gh (by simpa only[KC] using Gn) c⟩
 | .lst l,v,Gh,Gn,h=>by dsimp[Is] at h ⊢;let⟨p,xs,f,d,a,c,g⟩:=h;apply⟨p,xs,f,d,by rw[X1 (W4 b a (by nofun))];apply a,JX.rm b l xs f (by simpa only[KC] using Gn) c,g⟩
 | .cst l,v,Gh,Gn,h=>by
  dsimp[Is] at h ⊢;let⟨p,xs,d,a,c⟩:=h;show⟨p,xs,d,?_,JX.rm b l xs Gh (by simpa only[KC] using Gn) c⟩;rcases a with⟨o,a⟩ | a
  ·apply .inl ⟨o,by rw[X1 (W4 b a (by ext z;cases z))];apply a⟩
  ·apply .inr a
 | .Mf ks l,v,Gh,Gn,h=>by dsimp[Is] at h ⊢;let⟨p,i,f,d,a,j,c,g⟩:=h;apply⟨p,i,f,d,ET.rm b (λz=>HO.noConfusion z) (λ_ _ z=>HO.noConfusion z) a,j,JX.rm b l _ f (by simpa only[KC] using Gn) c,g⟩
 | .L8 ks l,v,Gh,Gn,h=>by dsimp[Is] at h ⊢;let⟨p,i,f,d,a,j,c,g⟩:=h;apply⟨p,i,f,d,ET.rm b (λz=>HO.noConfusion z) (λ_ _ z=>HO.noConfusion z) a,j,JX.rm b l _ f (by simpa only[KC] using Gn) c,g⟩
def JX.rm(a:H e=aA (.Er eo (.own 1))):∀(l:List PV)(xs:List V)(Gh:Gs),Ik l=aD->JX K H l xs Gh->JX K (NC H e) l xs Gh
 | [],_,_,_,h=>by simpa only[JX] using h
 | l::ls,xs,Gh,Gn,h=>by dsimp[Ik,af] at Gn;let⟨x,r,f1,c,b,f,d,g⟩:=h.inv;subst b g;apply JX.cons (Is.rm a l x f1 Gn.1 f) (JX.rm a ls r c Gn.2 d)
end
structure ND(N ps:Gm)(L:G5):Prop where
 kind:L.scope.kind = .function
 co:L.scope.isCoroutine=aC
 gen:L.scope.isGenerator=aC
 nq:∀y∈L.scope.names,y.2≠.cell
 nd:N.Nodup
 eq:N=ps++[L.free]
 par:∀x∈ps,L.scope.names.lookup x=aA .local
 fre:L.scope.names.lookup L.free=aA .free
 one:∀y∈L.scope.names,y.2 = .free->y.1=L.free
 abd:KZ L.qual=aC
def FY(P:bO)(w:bX)(K:aG)(mg:JM)(base:bp)(N:Gm)(L:G5)(f c e:aP)(A:bg)(outer:GB)(s:aR)(H:Hp):Cx where
 prog:=P
 w:=w
 K:=K
 mg:=mg
 base:=base
 A:=A.deeper (ng L.qual L.scope s.heap.objs.size f (.ref c) [(L.free,e)])
 N:=N
 s₀:=s
 H₀:=H
 env:=ng L.qual L.scope s.heap.objs.size f (.ref c) [(L.free,e)]
 outer:=outer
 stack:=ng L.qual L.scope s.heap.objs.size f (.ref c) [(L.free,e)]::outer
 ex:=[]
 calm:=aD
 fn:=λ_=>aC
 GG:=[]
 Ar:=λ_ _=>False
def Zci:∀{ps:Gm}{a:Gr}{i:Nat}{x:bJ}{u:aI},ps.Nodup->ps[i]?=aA x->a[i]?=aA u->(ps.zip a).reverse.lookup x=aA u:=by
 ext ps
 induction ps with
 | nil=>ext a i x u _ h _;simp at h
 | cons p r N8=>
  ext a i x u b d c
  cases a with
  | nil=>simp at c
  | cons v a=>
   rw[fU,jB,List.lookup_append]
   cases i with
   | zero=>
    let e:p=x:=by simpa using d
    let f:v=u:=by simpa using c
    subst e f
    let nm:(r.zip a).reverse.lookup p=aB:=by
     rw[List.lookup_eq_none_iff];ext q g;let:=(i6 (rR.mp g)).1
     first
      | (ext z;rw[<-z] at this;apply(av.mp b).1 this)
      | (simp;ext z;rw[<-z] at this;apply(av.mp b).1 this)
    rw[nm];simp[cL]
   | succ i=>
    rw[N8 (av.mp b).2 (~~~d) (~~~c)];rfl
end _v
namespace _v
open PySem PySem.Spec PyProof.Rows _l
variable {K:aG}
section
variable {P:bO} {w:bX} {mg:JM} {base:bp}
def Zgy
  (S:ND N ps L) (F:A.handled=aB) (j:lL P w K mg base A outer s H) (M:vs.length=ps.length) (r:Gp vs us) (G:H e=aB) (J:s.heap.IsCell e (aA u)) (W:RelV x u)
  (C:h₁.Ns s.heap.objs.size (λy=>(ps.zip us).reverse.lookup y)) (m:∀b o,s.heap.get? b=aA o->h₁.get? b=aA o) :
  Inv (FY P w K mg base N L f c e A outer s H) [] (vs.map aA++[aA x]) H { s with heap:=h₁,toks:=tk }:=by
 let l:∀b:aP,b∉(FY P w K mg base N L f c e A outer s H).ex:=λb z=>absurd (show b∈([]:Gs) from z) ⋯;let B:ps.Nodup:=by let:=S.nd;rw[S.eq] at this;apply(dq.mp this).1
 let t:=J.keeps m
 show⟨⟨j.mod,S.kind,rfl,rfl,aU _,λy z a g d=>(Pa g).trans (Pa d).symm,λy k=>?_,λy a z=>(by cases z),λ_=>F,o6 j.frames,.inr ⟨rfl,rfl⟩,λb z=>absurd z (l b),j.bs,j.aae,λb _ _=>l b,λb z=>absurd z (l b),j.ED,j.aal,j.tab,λq _ U D=>?_⟩,
  rfl,j.bare,Au.kept m,⟨_,C,λi y v g d h3=>?_⟩,λy a h=>?_,j.L5.fresh (aU _),λy a h=>?_,λp Z=>absurd (show p∈([]:JK) from Z) ⋯,j.L5.kept m,?_⟩
 ·let k:=k;rcases k with k | k
  ·apply absurd rfl (S.nq _ (eJ k))
  ·let X:y=L.free:=S.one _ (eJ k) rfl;show⟨e,?_⟩;change([(L.free,e)]:aac).lookup y=_;rw[X];simp[cL]
 ·let:=(uP (U)).symm;rw[this,S.abd] at D;cases D
 ·let g:N[i]?=aA y:=g;rw[S.eq] at g;by_cases E:i<vs.length
  ·rw[bB (~~~E),ag] at d;rw[bB ()] at g
   cases q:vs[i]? with
   | none=>rw[q] at d;cases d
   | some a=>
    rw[q] at d;cases d;let⟨z,I,R⟩:=r.get q;apply⟨z,R,.inl ⟨S.par y (aw g),Zci B g I⟩⟩
  ·rw[bQ (~~~E),aJ] at d;rw[bQ ()] at g
   let Y:i-vs.length=0:=by
    cases q:i-vs.length with
    | zero=>rfl
    | succ n=>rw[q] at d;simp at d
   let T:i-ps.length=0:=()
   rw[Y] at d;rw[T] at g;let O:x=v:=by simpa using d
   let Q:L.free=y:=by simpa using g
   subst O Q;show⟨u,W,.inr ⟨.inr S.fre,e,?_,t⟩⟩;change([(L.free,e)]:aac).lookup L.free=_;simp[cL]
 ·let h:=h;rw[Rl h];apply⟨_,t⟩
 ·let h:=h;rw[Rl h];apply G
 ·change _=N.length;rw[S.eq];simp[M]
def D4(K:aG)(L:G5)(f:aP)(D:PV->List PV->Option PV)(n:Nat):Sp:=λvs H Q _=>vs.length=n/\∃l ls u x Gh bD r,Ji H L (.ref f) u/\RelV x u/\Is K H l x Gh/\KC l=aD/\JX K H ls vs bD/\Ik ls=aD/\D l ls=aA r/\MS r=aD/\
 ∀v H',AJ H H'->Is K H' r v []->Q v H'
def DL(P:bO)(w:bX)(K:aG)(mg:JM)(base:bp)(k:Nat)(L:G5)(D:PV->List PV->Option PV)(n:Nat):Prop:=
 ∀(A:bg)(outer:GB)(s:aR)(H:Hp)(f:aP)(us:Gr)(vs:List V)(Q:Me)(E:Ml),Cm k A->lL P w K mg base A outer s H->Gp vs us->D4 K L f D n vs H Q E->
  jT (model P w) A (.call (.ref f) ⟨us,[]⟩) (CR Mq outer P w H s Q E) s
def lL.rm(a:lL P w K mg base A outer s H)(c:H e=aA (.Er eo (.own 1))):lL P w K mg base A outer s (NC H e):=
 ⟨a.frames,a.mod,λb o q=>⟨(a.bs b o q).1,Sb (a.bs b o q).2⟩,a.aae,a.ED,λb d=>Sb (a.aal b d),Ld.rm a.tab c,Zcg a.L5 c,a.bare⟩
def Zln(f:XE)(S:ND N ps L)
  (G:∀(cl:aac)(pm tX Gq:aI)(C:Gr),C.length=ps.length->jc (jM "<lambda>" L.qual L.params L.body L.scope cl pm tX Gq) ⟨C,[]⟩=pure (ps.zip C)) (Ay:ps.length=n)
  (t:∀(D c e:aP)(A:bg)(d:GB)(s:aR)(H:Hp),Cm k (A.deeper (ng L.qual L.scope s.heap.objs.size D (.ref c) [(L.free,e)]))->JW (FY P w K mg base N L D c e A d s H) L.body f) :
  DL P w K mg base (k+1) L (λl ls=>f (ls.map aA++[aA l])) n:=by
 ext A d s H D C vs Q E hr j rv Y;let⟨Kb,l,ls,u,x,Gh,bD,r,⟨fa',fo,c,Cp,e,eo,pm,Gq,Ey,hf,hfo,Ex,hco,h,heo⟩,rx,il,pl,is,pls,hD,pr,q⟩:=Y;cases Ey;let ho:=(j.L5 D _ hf).1;let vX:=(j.L5 c _ Ex).1;let O:=(j.L5 e _ h).1;let⟨Z,ctk,J',hcq⟩:=hco;let T:vs.length=ps.length:=by rw[Kb,Ay]
 let lim:=j.mod.nolimit.keeps λb o e=>(j.bs b o e).1;show PySem.W.kla_callFunE hr.depth ho hfo S.co S.gen rfl ⟨c,Cp,Z,ctk,rfl,vX,J',hcq⟩ ?_;rw[G _ _ _ _ C (by rw[<-rv.length];apply T)];show aM (og S.nq (λy p=>S.par y.1 (i6 p).1) (λh₁ I8 hsb=>?_) S.kind);let M:=λb o q=>hsb.extBut b o (bC (aV q)) (aH _ q);show⟨lim.keeps M,?_⟩;show PySem.W.kla_codeExpr ?_;let Mc:=lL.rm j h;let I:=Zgy (f:=D) (c:=c) (tk:=s.toks+(ps.zip C).length) S hr.hd Mc T rv WT ⟨eo,O,heo⟩ rx I8 M
 let env:dg K (λ_=>False) (NC H e) (ls.map aA++[aA l]) (vs.map aA++[aA x]):=⟨λi a g=>by
  let hlv:=is.len;by_cases U:i<ls.length
  ·rw[bB (~~~U),ag] at g
   cases z:ls[i]? with
   | none=>rw[z] at g;cases g
   | some b=>
    rw[z] at g;cases g;let⟨v,f1,Es,Md,_⟩:=is.get z;show⟨v,f1,?_,Is.rm h _ _ _ ?_ Md,λ_ _ z=>z⟩
    ·rw[bB (by rw[aJ];lia),ag,Es];rfl
    ·let all:∀(m:List PV),Ik m=aD->∀y∈m,KC y=aD:=by
      ext m
      induction m with
      | nil=>ext _ y p;simp at p
      | cons a r N8=>
       ext hm y p;dsimp[Ik,af] at hm;rcases aY.mp p with rfl | p
       ·apply hm.1
       ·apply N8 hm.2 y p
     apply all ls pls _ (aw z)
  ·rw[bQ (~~~U),aJ] at g
   let z:i-ls.length=0:=by
    cases q:i-ls.length with
    | zero=>rfl
    | succ n=>rw[q] at g;simp at g
   rw[z] at g;let Gy:l=a:=by simpa using g
   subst Gy;show⟨x,Gh,?_,Is.rm h _ _ _ pl il,λ_ _ z=>z⟩;rw[bQ (by rw[aJ];lia),aJ,show i-vs.length=0 by lia];rfl⟩
 show bq (t D c e A d s (NC H e) (hr.deeper _) [] _ _ _ (λv F=>AJ (NC H e) F/\∃W,Is K F r v W) I ⟨λ_=>False,_,r,λ_ z=>z.elim,env,hD,λv F W X i _=>⟨X,W,i⟩⟩) (λy Aq hs=>?_) λ_ _ hs=>hs.elim;let⟨v,F,J,ry,X,W,i⟩:=hs;let B:=J.GH L.free e (by change([(L.free,e)]:aac).lookup L.free=_;simp[cL]);let R:Au (Mu d) [] (NC H e) F s.heap Aq.heap:=J.base;let enf:e∉Mu d:=λz=>by rw[j.aal e z] at h;cases h
 let he':=R.keep e eo O WT enf ⋯;let i2:=Is.pure _ _ _ pr i;subst i2
 let we:AJ H (upd F e (.Er eo (.own 1))):=λb o G=>by
  by_cases z:b=e
  ·subst z;rw[h] at G;cases G;apply bh
  ·rw[a_ z];apply X b o (by rw[X1 z];apply G)
 apply⟨v,_,J.os,J.bare,Zgx R h B,Vv J.L5 B he',ry,q v _ we (i.mono (AJ.new B _))⟩
end
def Hi(T:G5->PV->List PV->Option PV)(i:Nat)(fs:List XE):XE:=λs=>match s[i]? with
 | some (aA (.ox L l))=>(A2 fs s).bind λls=>if(KC l&&Ik ls)=aD then(T L l ls).bind (λr=>if MS r=aD then aA r else aB) else aB
 | _=>aB
section
variable {X:Cx} {x:bJ} {k:Nat} {e:bT} {Gi:Mk} {fs:List XE} {p pos:g6}
def Zlo(i:Nat)(GF:X.N[i]?=aA x)(Ey:BC X.env.scope x)(hT:∀L,(∃l ls r,T L l ls=aA r)->DL X.prog X.w X.K X.mg X.base k L (T L) n)(hr:Cm k X.A)(Mi:Kr X (e::Gi) fs)(Ay:la fs=n|>On)
  (F:(x==("__debug__" : bJ))=aC|>Op) (O:(x==("__classdict__" : bJ))=aC|>Op) (he:aN (e::Gi) X.env=(aC,eval e X.env)::aN Gi X.env|>On) (A:(ck pos (aN Gi X.env)).any (·.1)=aC|>On) :
  AU X (.Call (.Name x p) (e::Gi) [] pos) (Hi T i fs):=by
 intro C s D H Q I ⟨st,r,env,t,q⟩;delta Hi at t;split at t
 ·rename_i L l hs;let⟨ls,W,E⟩:=Zc t;split at E
  ·rename_i m;dsimp[af] at m;let⟨Kd,Z,J⟩:=Zc E;split at J
   ·rename_i G;cases J;let⟨v,Gh,R,N9,_⟩:=env.is i _ hs;let B:=N9;let⟨u,y,a,ry,il⟩:=B;let⟨f,U,c,Cp,ce,eo,pm,Gq,N,hf,P,_⟩:=id a;subst N;let b:∀{s1:aR}{d:Hp},Inv X C D d s1->d f=aA (.Er U (.own 0))->PySem.W.FnAt f s1.heap:=λ{s1 d} w Es=>by let:=(w.L5 f _ Es).1;let⟨oc',od',dat,sl'⟩:=U;cases (P);apply⟨_,_,_,_,this⟩
    show cU (Z8 (Tx GF Ey F O C s D H (λY d=>Y = .ref f/\d=H) I ⟨_,R,rfl,rfl⟩) λuf s1 ⟨Y,d,w,aba,ef,eH⟩=>?_);subst ef eH;obtain rfl:=aba;show PySem.W.callWith_F (b w hf) (Z8 (Mi pos C s1 D d (λvs j=>AJ d j/\∃bD,JX X.K j ls vs bD) w ⟨λ_=>False,st,ls,λ_ z=>z.elim,env,W,λvs j bD g o _=>⟨g,bD,o⟩⟩) λus s2 ⟨vs,j,S,rv,g,bD,o⟩=>⟨b S (g f _ hf),?_⟩) he A;show jx (fX (hT L ⟨l,ls,r,Z⟩ X.A X.stack s2 j f us vs Q E0 hr S.se rv ⟨by rw[o.len,Xu W,Ay],l,ls,u,y,Gh,bD,r,a.Aw (AJ.rf g),ry,il.mono g,m.1,o,m.2,Z,G,λv H' M i'=>q v H' [] (g.trans M) i' cI λp m=>by simp at m⟩) λMn Aq h=>?_)
    cases Mn with
    | error er=>apply(h).elim
    | ok fl=>
     cases fl with
     | ret aa8=>apply S.after h
     | next=>apply bz h
     | brk=>apply bz h
     | cont=>apply bz h
   ·cases J
  ·cases E
 ·cases t
end
end _v
namespace _v
open PySem PySem.Spec PyProof.Rows _l
variable {K:aG}
def t6{pos pos':g6}{c v:aI}{a b:Int}(l:Gr)(h:TriplesOk l)(d:lT pos (l++[fJ a,fJ b,c])=aA v):lT pos l=aA v\/v=c:=by
 fun_induction TriplesOk l with
 | case1=>
  dsimp[rb,lT,fJ] at d;split at d
  ·apply .inr (bM d).symm
  ·cases d
 | case2 a' t b' u x EH N8=>
  dsimp[rS,lT] at d ⊢;split at d
  ·rename_i e;rw[An e];apply .inl d
  ·rename_i e;rw[N4 e];apply N8 h d
 | case3 l Es Md=>apply h.elim
def LU(X:Cx)(L:G5):TE:=λ_ H Q=>∀f fo c Cp e pm Gq H1,AJ H H1->H1 f=aA (.Er fo (.own 0))->fo.data = .func (jM "<lambda>" L.qual L.params L.body L.scope [(L.free,e)] pm (.ref c) Gq)->
 H1 c=aA (.Er Cp (.own 0))->GO Cp L.qual->X.env.cells.lookup L.free=aA e->Q (.ref f) H1
section
variable {X:Cx}
def Zlp{q:bJ}{L:G5}{f:g6}(hfn:X.env.func≠aB)(hq:X.env.qual=q++".<locals>.")(N:KZ q=aD)(hL:L.qual=Nl q)(Y:sY L.params X.env=([],[]))
  (y:∃e,X.env.cells.lookup L.free=aA e/\nU L.scope X.env=pure [(L.free,e)]):JY X (.Lambda L.params L.body L.scope f) (LU X L):=by
 ext N5 s σ H Q I h;let⟨e,O,y⟩:=y;let j:=I.ok.abe q hfn hq N
 obtain⟨m,i⟩:∃m,X.env.code = .ref m:=by
  cases z:X.env.code with
  | ref c=>apply⟨c,rfl⟩
  | _=>rw[z] at j;simp[dS] at j
 rw[i] at j;let⟨Pt,ps,tk,hC,Z,T,hB⟩:=(Ld.un I.ok.tab I.base) q m N j;let⟨EE,tk',R,eq,Gz,x,G'⟩:=(show J6 X.prog X.w H s.heap Pt (.aaj ps) from I.L5 Pt _ Z);rw[T] at eq;injection eq with eq;injection eq with zqa zqb;subst zqa zqb;let C:s.heap.Ns bY X.mg:=I.mod.glob.keeps I.Gw;let hgP:bY≠Pt:=λz=>by let⟨o,Gi,ep,J,hd,_⟩:=C;rw[z,Gz] at J;cases J;cases hd
 let P:s.heap.BuiltinsAt X.mg Pt:=by let⟨bm,aak,b1,b2,b3,b4,b5,b6⟩:=hB;apply⟨bm,aak,b1,b2,b3,b4,I.Gw _ _ b5,b6⟩
 let A:X.env.qual++"<lambda>" = L.qual:=by rw[hq,hL];rfl
 let fresh:∀b,s.heap.objs.size<=b->H b=aB:=λb a=>I.L5.fresh a;show PySem.W.kla_eval Y ?_;rw[A]
 cases hf:lT f R.toList with
 | none=>
  show PySem.W.kla_makeFunction (mg:=X.mg) y I.ok.glob C i (hC.keeps I.Gw) Gz x hf hgP P λd g h' rf hx B vY M htb=>?_;let⟨c2,w,vs,t,e2,vX,hd,Ey⟩:=M;cases e2;generalize p:PySem.W.kla_obj "<lambda>" L.qual L.params L.body L.scope [(L.free,e)] ((X.mg "__name__").getD .none) d g=fo;let E:fo.data = .func (jM "<lambda>" L.qual L.params L.body L.scope [(L.free,e)] ((X.mg "__name__").getD .none) (.ref d) g):=by rw[<-p]
  let W:h'.objs.size≠d:=gL vY;let k:s.heap.objs.size<=h'.objs.size:=cG B (dR vY);let nc:H d=aB:=fresh _ B;let nf:H h'.objs.size=aB:=fresh _ k;let hP1:Pt<s.heap.objs.size:=aV Gz;let r:∀b o,H b=aA o->upd (upd H d (.Er w (.own 0))) h'.objs.size (.Er fo (.own 0)) b=aA o:=λb o a=>by rw[a_ (Zk a nf),a_ (Zk a nc)];apply a
  let F:∀b o,b≠Pt->s.heap.get? b=aA o->(h'.push fo).get? b=aA o:=λb o a D=>aH _ (hx b o a D);let gP:(h'.push fo).get? Pt=aA (jQ (R++#[fJ f.line,fJ f.col,.ref d])):=aH _ htb
  let un:Au X.fs [] H (upd (upd H d (.Er w (.own 0))) h'.objs.size (.Er fo (.own 0))) s.heap (h'.push fo):=by
   show⟨λb o a n _ _=>F b o (λz=>by rw[z,Z] at n;cases n) a,λb o a n _ _=>⟨o.slots,F b o (λz=>by rw[z,Z] at n;cases n) a⟩,λb o a n _=>?_,λb o a _=>?_,λb xs a=>r b _ a,λb o u a=>r b _ a,λb ps a=>⟨#[],by rw[r b _ a];simp⟩⟩
   ·let U:=aV a;rw[a_ (bC (ay U k)),a_ (bC (ay U B))];apply n
   ·by_cases z:b=Pt
    ·rw[z];apply⟨_,gP⟩
    ·apply⟨o,F b o z a⟩
  let gc:(h'.push fo).get? d=aA w:=aH _ vX;let gf:(h'.push fo).get? h'.objs.size=aA fo:=aX _ (by rw[<-p];rfl);let S:upd (upd H d (.Er w (.own 0))) h'.objs.size (.Er fo (.own 0)) d=aA (.Er w (.own 0)):=by rw[a_ (bU W),bh]
  let G:AX X.prog X.w (upd (upd H d (.Er w (.own 0))) h'.objs.size (.Er fo (.own 0))) (h'.push fo):=λb u a=>by
   by_cases z1:b=h'.objs.size
   ·subst z1;rw[bh] at a;cases a;apply⟨gf,_,gf⟩
   ·rw[a_ z1] at a;by_cases z2:b=d
    ·subst z2;rw[bh] at a;cases a;apply⟨gc,_,gc⟩
    ·rw[a_ z2] at a;by_cases z3:b=Pt
     ·subst z3;rw[Z] at a;cases a;show⟨_,tk,_,T,gP,?_,λpos v l=>?_⟩
      ·rw[gG];apply TriplesOk_snoc _ _ _ _ x
      ·rw[gG] at l;rcases t6 (pos':=pos) _ x l with l | l
       ·let⟨c3,o3,J,e2,Gy⟩:=G' pos v l;apply⟨c3,o3,J,r _ _ e2,Gy⟩
       ·apply⟨d,w,l,S,vs,t,hd,by rw[<-hL];apply Ey⟩
     ·apply(I.L5 b u a).EC (λb' o hb' q=>F b' o (by
       rcases hb' with z | z
       ·rw[z];apply z3
       ·apply λabg=>by rw[abg,Z] at z;cases z) q) (λb' q=>r _ _ q) (λb' xs q=>r _ _ q) λb' aa8 q=>r _ _ q
  let I1:=I.un (t':=rf) un G;apply⟨.ref h'.objs.size,_,I1,rfl,h _ fo d w e _ g _ r bh E S ⟨vs,t,hd,Ey⟩ O⟩
 | some cv=>
  let⟨d,w,J,hc1,hc2⟩:=G' f cv hf;subst J;show PySem.W.kla_makeFunctionHit (mg:=X.mg) y I.ok.glob C i (hC.keeps I.Gw) Gz x hf P λg h' rf hk k=>?_;generalize p:({ cls:=.type "function",data:=.func (jM "<lambda>" L.qual L.params L.body L.scope [(L.free,e)] ((X.mg "__name__").getD .none) (.ref d) g) }:fE)=fo;let E:fo.data = .func (jM "<lambda>" L.qual L.params L.body L.scope [(L.free,e)] ((X.mg "__name__").getD .none) (.ref d) g):=by rw[<-p]
  let nf:H h'.objs.size=aB:=fresh _ k;let r:∀b o,H b=aA o->upd H h'.objs.size (.Er fo (.own 0)) b=aA o:=λb o a=>by rw[a_ (Zk a nf)];apply a
  let F:∀b o,s.heap.get? b=aA o->(h'.push fo).get? b=aA o:=λb o D=>aH _ (hk b o D);let gf:(h'.push fo).get? h'.objs.size=aA fo:=aX _ (by rw[<-p];rfl);let un:Au X.fs [] H (upd H h'.objs.size (.Er fo (.own 0))) s.heap (h'.push fo):=Au.laid F k nf;let G:AX X.prog X.w (upd H h'.objs.size (.Er fo (.own 0))) (h'.push fo):=I.L5.laid F k ⟨gf,_,gf⟩;let I1:=I.un (t':=rf) un G;apply⟨.ref h'.objs.size,_,I1,rfl,h _ fo d w e _ g _ r bh E (r _ _ hc1) (by rw[hL];apply hc2) O⟩
end
section
variable {X:Cx} {x:bJ} {ps:Gm} {sp:Sp} {k:Nat} {e:bT} {Gi:Mk} {t:Az} {p pos:g6}
def Aj(X:Cx)(i:Nat)(y:bJ)(sp:Sp)(t:Az):TE:=λσ H Q=>t σ H λvs H1=>∀ce eo u v,X.env.cells.lookup y=aA ce->H1 ce=aB->σ[i]?=aA (aA v)->RelV v u->eo.data = .cell (aA u)->
 ∃Q':Me,sp vs (upd H1 ce (.Er eo (.own 1))) Q' E0/\∀z H',H' ce=aA (.Er eo (.own 1))->Q' z H'->Q z (NC H' ce)
def Zck(C:AG X.prog X.w X.K X.mg X.base x ps sp k)(hr:Cm k X.A)(Gz:Gl X x)(i:Nat){y:bJ}(GF:X.N[i]?=aA y)(hk:X.env.scope.names.lookup y=aA .cell)(N:X.fn y=aD)(R:∀n H Q,t n H Q->∃v,n[i]?=aA (aA v))(Mi:MY X (e::Gi) t)
  (U:(x==("__debug__" : bJ))=aC|>Op) (he:aN (e::Gi) X.env=(aC,eval e X.env)::aN Gi X.env|>On) (O:(ck pos (aN Gi X.env)).any (·.1)=aC|>On) :
  JY X (.Call (.Name x p) (e::Gi) [] pos) (Aj X i y sp t):=by
 let⟨f,fd,hm,T,g,F⟩:=C.ex;ext N5 s n H Q I h;let⟨v,Z⟩:=R n H _ h;show cU (Wx I Gz hm ?_ U);show gU I.ok.mod.aav T (Z8 (Mi pos N5 s n H _ I h) λM s1 ⟨vs,H1,a,r,q⟩=>⟨a.GA,?_⟩) he O;let⟨m,I8,Kb⟩:=a.loc;let⟨u,ru,lk⟩:=Kb i y v GF Z (.inr (.inl hk));rcases lk with⟨z,_⟩ | ⟨_,c,l,P,E,hd⟩
 ·let z:X.env.scope.names.lookup y=aA .local:=z;rw[hk] at z;cases z
 let j:=a.GH y c l;let⟨Q',D,W⟩:=q c P u v l j Z ru hd;let J:=a.ok.aa2 y c N l
 let w:c∉Mu X.stack:=λz=>by
  rcases aY.mp (a.abn c z) with z | z
  ·apply a.aaf y c l z
  ·let⟨_,o,ho,_⟩:=a.ok.ED.mem z;apply absurd (ay (aV ho) J) (cR _)
 let d:=a.se
 let Mc:lL X.prog X.w X.K X.mg X.base X.A X.stack s1 (upd H1 c (.Er P (.own 1))):=by
  show⟨d.frames,d.mod,λb o g=>⟨(d.bs b o g).1,?_⟩,d.aae,d.ED,λb g=>?_,Ld.add d.tab j,Vv d.L5 j E,d.bare⟩
  ·have:b≠c:=λz=>by let:=aV g;let Md:=a.ok.aae;rw[z] at this;apply absurd (ay this (cG Md J)) (cR _)
   rw[a_ this];apply(d.bs b o g).2
  ·let nb:b≠c:=λz=>by rw[z] at g;apply w g
   rw[a_ nb];apply d.aal b g
 let S:M.length=la ps:=by rw[<-r.length];apply F.len _ _ _ _ D
 let L:=g s1 M a.GA (~~~S);rw[bx] at L;show jx (fX (F.run X.A X.stack s1 _ ⟨M,[]⟩ M vs Q' E0 hr Mc L r D) λMn Aq B=>?_)
 cases Mn with
 | error er=>apply(B).elim
 | ok fl=>
  cases fl with
  | ret aa8=>
   let⟨aar,H',os,A,un,G,rv,qq⟩:=(B);let Y:=un.AE c P _ bh;apply a.after ⟨aar,NC H' c,os,A,Zlm un j E w G,Zcg G Y,rv,W aar H' Y qq⟩
  | next=>apply bz B
  | brk=>apply bz B
  | cont=>apply bz B
end
end _v
namespace _v
open PySem PySem.Spec PyProof.Rows _l
variable {K:aG}
def FN(D:List PV->Option PV)(f1 f2:XE)(L:G5)(i:Nat):XE:=λs=>(f1 s).bind λl1=>(f2 s).bind λl2=>match s[i]? with
 | some (aA l)=>(D [l1,l2,.ox L l]).bind λr=>if KC r=aD then aA r else aB
 | _=>aB
section
variable {X:Cx} {x:bJ} {ps:Gm} {k:Nat} {a b:bT} {f1 f2:XE} {p pos jk:g6}
def Zcl(C:AG X.prog X.w X.K X.mg X.base x ps (EV X.K D 3) k)(hr:Cm k X.A)(Gz:Gl X x)(i:Nat)(GF:X.N[i]?=aA L.free)(hk:X.env.scope.names.lookup L.free=aA .cell)(N:X.fn L.free=aD)
  (Es:JW X a f1) (Md:JW X b f2) (hfu:X.env.func≠aB) (hq:X.env.qual=q++".<locals>.") (O:KZ q=aD) (hL:L.qual=Nl q) (n:sY L.params X.env=([],[]))
  (S:∃e,X.env.cells.lookup L.free=aA e/\nU L.scope X.env=pure [(L.free,e)])
  (B:aN (a::b::[.Lambda L.params L.body L.scope jk]) X.env=(aC,eval a X.env)::aN (b::[.Lambda L.params L.body L.scope jk]) X.env) (T:aN (b::[.Lambda L.params L.body L.scope jk]) X.env=(aC,eval b X.env)::aN [.Lambda L.params L.body L.scope jk] X.env)
  (hs3:aN [.Lambda L.params L.body L.scope jk] X.env=(aC,eval (.Lambda L.params L.body L.scope jk) X.env)::aN [] X.env) (I:(ck pos (aN (b::[.Lambda L.params L.body L.scope jk]) X.env)).any (·.1)=aC)
  (U:(x==("__debug__" : bJ))=aC|>Op):AU X (.Call (.Name x p) (a::b::[.Lambda L.params L.body L.scope jk]) [] pos) (FN D f1 f2 L i):=by
 let pa:=ZQ Es (ZQ Md (ZQ (Zlp hfu hq O hL n S) YN hs3) T) B;let pa2:=MY.imp pa (t':=λG H Q=>(∃v,G[i]?=aA (aA v))/\_) λG H Q z=>z.2;show JY.imp (Zck C hr Gz i GF hk N (λG H Q z=>z.1) pa2 U B I) ?_;ext G H Q ⟨s,r,env,e,qq⟩;let⟨l1,Mc,e⟩:=Zc e;let⟨l2,e2,e⟩:=Zc e;split at e
 ·rename_i lc hs;let⟨Kd,hD,e⟩:=Zc e;split at e
  ·rename_i W;cases e;let⟨v,fpc,Ey,ic,_⟩:=env.is i _ hs;show⟨⟨v,Ey⟩,λ_=>False,s,l1,λ_ z=>z.elim,env,Mc,λv1 H1 vp s1 i1 _=>⟨λ_=>False,s,l2,λ_ z=>z.elim,env.mono s1,e2,λv2 H2 vn s2 i2 _=>?_⟩⟩;ext f fo c Cp d pm Gq l w hf hfd Ex Z m ce A u aar R Ay E ru hd;let t:=bM (m.symm.trans R);subst t;rw[Ey] at E;cases E;let h:AJ l (upd l d (.Er A (.own 1))):=AJ.new Ay _;let M:Is X.K (upd l d (.Er A (.own 1))) (.ox L lc) (.ref f) fpc:=by apply⟨u,v,⟨f,fo,c,Cp,d,A,pm,Gq,rfl,h _ _ hf,hfd,h _ _ Ex,Z,bh,hd⟩,ru,ic.mono (((s1.trans s2).trans w).trans h)⟩
   show⟨λz j=>∃g,AJ (upd l d (.Er A (.own 1))) j/\Is X.K j r z g/\g.Nodup/\∀p∈g,upd l d (.Er A (.own 1)) p=aB/\EN (j p),?_,λz j hz ⟨g,J,ir,Y,nw⟩=>?_⟩
   ·apply⟨rfl,[l1,l2,.ox L lc],_,r,JX.cons (i1.mono ((s2.trans w).trans h)) (JX.cons (i2.mono (w.trans h)) (JX.one M)),hD,λz j g J ir Y nw=>⟨g,J,ir,Y,nw⟩⟩
   ·let s5:AJ H (NC j d):=λy o P=>by let h3:=((s1.trans s2).trans w) y o P;rw[X1 (Zk h3 Ay)];apply J y o (h y o h3)
    show qq z _ g s5 (Is.rm hz _ _ _ W ir) Y λy P=>?_;let⟨F,n2⟩:=nw y P;let ne:y≠d:=λz=>by rw[z,bh] at F;cases F
    rw[a_ ne] at F;apply⟨AJ.off ((s1.trans s2).trans w) F,by rw[X1 ne];apply n2⟩
  ·cases e
 ·cases e
def Zcm(s:L.params=pa)(d:L.body=bo)(j:L.scope=sc)(C:AG X.prog X.w X.K X.mg X.base x ps (EV X.K D 3) k)(A:Cm k X.A)(w:Gl X x)(y:X.N[i]?=aA L.free)(B:X.env.scope.names.lookup L.free=aA .cell)(f:X.fn L.free=aD)
  (u:JW X a f1) (E:JW X b f2) (m:X.env.func≠aB) (v:X.env.qual=q++".<locals>.") (h:KZ q=aD) (z:L.qual=Nl q) (c:sY pa X.env=([],[]))
  (n:∃e,X.env.cells.lookup L.free=aA e/\nU sc X.env=pure [(L.free,e)])
  (r:aN (a::b::[.Lambda pa bo sc jk]) X.env=(aC,eval a X.env)::aN (b::[.Lambda pa bo sc jk]) X.env) (o:aN (b::[.Lambda pa bo sc jk]) X.env=(aC,eval b X.env)::aN [.Lambda pa bo sc jk] X.env)
  (l:aN [.Lambda pa bo sc jk] X.env=(aC,eval (.Lambda pa bo sc jk) X.env)::aN [] X.env) (g:(ck pos (aN (b::[.Lambda pa bo sc jk]) X.env)).any (·.1)=aC)
  (t:(x==("__debug__" : bJ))=aC|>Op):AU X (.Call (.Name x p) (a::b::[.Lambda pa bo sc jk]) [] pos) (FN D f1 f2 L i):=by
 subst s d j;apply Zcl C A w i y B f u E m v h z c n r o l g t
end
end _v
namespace _v
open PySem PySem.Spec PyProof.Rows _l
variable {K:aG}
def LA(K:aG):List (bJ×aP×aP):=(["tree_of","still_by","made_of"]:Gm).filterMap λx=>(kf K x).map λcp=>(x,cp)
def Jo(K:aG)(q:bO):Bool:=
 s9 K&&decide ((LA K).map (·.2.2)).Nodup&&(LA K).all (λr=>((recsOf q).find? (λe=>e.name==r.1)).isSome)&&
 K.all λp=>match p.2.data with
  | .fields vs=>(match vs.toList with
   | _::.str n _::_=>!(KZ n) || (match kf K n with
    | some (c,_)=>c==p.1
    | none=>aC)
   | _=>aD)
  | _=>aD
def TG(h:(x,c,Pt)∈LA K):kf K x=aA (c,Pt)/\KZ x=aD:=by
 let⟨y,a,e⟩:=jv.mp h
 cases z:kf K y with
 | none=>rw[z] at e;cases e
 | some cp=>
  rw[z] at e;cases e;show⟨z,?_⟩;dsimp[aY,dZ,or_false] at a;rcases a with rfl | rfl | rfl<;>decide
def Zcn(h:kf K x=aA (c,Pt))(a:KZ x=aD):(x,c,Pt)∈LA K:=by
 show jv.mpr ⟨x,?_,by rw[h];rfl⟩;delta KZ at a;dsimp[jq,beq_iff_eq] at a;dsimp[aY,dZ,or_false];rcases a with(h | h) | h
 ·apply .inl h
 ·apply .inr (.inl h)
 ·apply .inr (.inr h)
def dK(g:Jo K q=aD)(h:KZ x=aD)(a:dS K (.ref c) x=aD):∃Pt,(x,c,Pt)∈LA K:=by
 delta Jo at g;dsimp[af] at g;let b:=g.2
 let a:(match K.lookup c with
   | some ⟨_,_,.fields vs,_⟩=>(match vs.toList with | _::.str n _::_=>n==x | _=>aC)
   | _=>aC)=aD:=a
 split at a
 ·rename_i m l vs o f;split at a
  ·rename_i y n t r e;let i:=beq_iff_eq.mp a;subst i;let d:=bN.mp b (c,_) (nh f);dsimp[e,h] at d;split at d
   ·rename_i c2 j k;let:=beq_iff_eq.mp d;subst this;apply⟨j,Zcn k h⟩
   ·cases d
  ·cases a
 ·cases a
def T5:∀{l:List (bJ×aP×aP)}{x:bJ}{c Pt:aP},(l.map (·.2.2)).Nodup->(x,c,Pt)∈l->l.find? (λr=>r.2.2==Pt)=aA (x,c,Pt)
 | [],_,_,_,_,h=>by simp at h
 | r::l,x,c,Pt,nd,h=>by
  rw[ak] at nd;rw[i9];rcases aY.mp h with e | h
  ·subst e;simp
  ·have:r.2.2≠Pt:=λz=>(av.mp nd).1 (aa.mpr ⟨_,h,z.symm⟩);let a:(r.2.2==Pt)=aC:=by simpa using this
   rw[a];apply T5 (av.mp nd).2 h
def FP(l:List (bJ×aP×aP))(H:Hp):Hp:=λb=>match l.find? (λr=>r.2.2==b) with
 | some r=>aA (.aaj #[.str (Nl r.1) 0])
 | none=>H b
def te(h:∀r∈l,r.2.2≠b):FP l H b=H b:=by delta FP;rw[jz.mpr λr a=>by simpa using h r a]
def SQ(l:List (bJ×aP×aP))(H:Hp)(b:aP):(∃r∈l,r.2.2=b/\FP l H b=aA (.aaj #[.str (Nl r.1) 0]))\/((∀r∈l,r.2.2≠b)/\FP l H b=H b):=by
 delta FP
 cases z:l.find? (λr=>r.2.2==b) with
 | some r=>apply .inl ⟨r,jZ z,by simpa using oM z,rfl⟩
 | none=>apply .inr ⟨λr a=>by simpa using jz.mp z r a,rfl⟩
def eE{w:bX}{mg aa1:JM}{k:Nat}{fa a:aP}{fd:gj}{x:bJ}{D:List PV->Option PV}{f:aR}{vs:Gr}{ns:Gj}{l:List (bJ×aP×aP)}
  (KX:K.In f.heap) (U:f.heap.Ns bY mg) (Y:f.heap.Ns nK aa1) (K':∀x:bJ,x≠"__name__"->aa1 x=dj x) (yX:f.heap.NoLimit) (A:f.heap.NoSeer) (Gz:f.gens = #[])
  (hbm:∃W N,mg "__builtins__" = aA (.ref W)/\W≠nK/\f.heap.get? W=aA N/\N.cls = .type "module"/\N.dict=aA nK/\N.data = .plain)
  (hT:∀r∈l,oV f.heap r.2.1 r.2.2/\f.heap.get? r.2.2=aA (jQ #[])) (hK:s9 K=aD) (y8:∀(q:bJ)(c:aP),KZ q=aD->dS K (.ref c) q=aD->∃Pt,(q,c,Pt)∈l) (hnd:(l.map (·.2.2)).Nodup)
  (Q:f.heap.get? a=aA { cls:=.type "list",data:=.seq vs.toArray }) (N9:jA vs ns) (Kb:la ns<=sizeLine) (B:Cm k qt)
  (F:∀base:bp,K.In base->base.Ns bY mg->S7 P w K mg base Mq k fa fd [x] (EV K D 1)) (R:∀(s:aR)(u:aI),pM s fd ⟨[u],[]⟩ [(x,u)])
  (hD:D [.cst (iL ns)]=aA (.Ap aD)) :
  jT (model P w) qt (.call (.ref fa) ⟨[.ref a],[]⟩) (λr I=>r = .ok (.ret (.bool aD))/\OldK f.heap I.heap/\I.os=f.os/\mI I.gens) f:=by
 let rv:=Qp N9;let yL:=N9.length
 let L:∀C:Hp,K6 K C a (ns.map V.int)->(C a=aB\/(K.lookup a=aB/\∃xs,C a=aA (.Er { cls:=.type "list",data:=.seq vs.toArray } (.lst xs))/\J6 P w C f.heap a (.Er { cls:=.type "list",data:=.seq vs.toArray } (.lst xs))))->(∀b,b≠a->C b=aB)->
   jT (model P w) qt (.call (.ref fa) ⟨[.ref a],[]⟩) (λr I=>r = .ok (.ret (.bool aD))/\OldK f.heap I.heap/\I.os=f.os/\mI I.gens) f:=by
  ext C hS hA hO;let na:∀r∈l,r.2.2≠a:=λr B z=>by let e:=(hT r B).2;rw[z,Q] at e;cases e
  generalize hH:FP l C=H;let Gx:∀r∈l,H r.2.2=aA (.aaj #[.str (Nl r.1) 0]):=λr B=>by rw[<-hH];delta FP;rw[T5 hnd B]
  let Ha:H a=C a:=by rw[<-hH];apply te na
  let free:∀{b:aP}{o:fE},f.heap.get? b=aA o->o≠jQ #[]->b≠a->H b=aB:=λ{b o} e no nb=>by
   rw[<-hH];rcases SQ l C b with⟨r,B,J,_⟩ | ⟨_,J⟩
   ·let G:=(hT r B).2;rw[J,e] at G;apply absurd (bM G) no
   ·rw[J];apply hO b nb
  let g:∀{b:aP}{o:fE},f.heap.get? b=aA o->H b=aB->(Kf f.heap H).get? b=aA o:=λe n=>r2 e n;let j:∀{b:aP}{m:JM},f.heap.Ns b m->(Kf f.heap H).Ns b m:=λ{b m} ⟨o,Gi,ep,e,d,r⟩=>⟨o,Gi,ep,g e (free e (λz=>by rw[z] at d;cases d) λz=>by rw[z,Q] at e;cases e;cases d),d,r⟩
  let M2:=λb o e=>g (KX b o e) (by
   by_cases z:b=a
   ·subst z;rw[Ha];rcases hA with h | ⟨h,_⟩
    ·apply h
    ·rw[e] at h;cases h
   ·show free (KX b o e) (λz2=>?_) z;let p:=bN.mp hK (b,o) (nh e);subst z2;apply absurd (p) br)
  let hfm:∀{b:aP}{o:fE},f.heap.get? b=aA o->o.cls = .type "module"->H b=aB:=λ{b o} e d=>free e (λz=>by rw[z] at d;first | (injection d;done) | (injection d with d;apply absurd d ∅)) λz=>by rw[z,Q] at e;cases e;injection d with d;apply absurd d ∅
  let hM:Mod K mg (Kf f.heap H):=⟨M2,j U,⟨aa1,j Y,K'⟩,let⟨mc,t,p⟩:=yX;⟨mc,j t,p⟩,⟨let⟨mc,t,p⟩:=A.statics;⟨mc,j t,p⟩,let⟨mm,t,p⟩:=A.mods;⟨mm,j t,p⟩,⟨aa1,j Y,K'⟩,let⟨mg',W,N,t,p,h3,Mp,S⟩:=A.main;⟨mg',W,N,j t,p,g h3 (hfm h3 Mp),Mp,S⟩⟩⟩
  let L5:AX P w H f.heap:=λb u e=>by
   rw[<-hH] at e;rcases SQ l C b with⟨r,B,J,G⟩ | ⟨Ay,G⟩
   ·rw[G] at e;cases e;show⟨Nl r.1,0,#[],rfl,?_,trivial,λpos v Ey=>?_⟩
    ·rw[<-J];apply(hT r B).2
    ·simp[lT] at Ey
   ·rw[G] at e;by_cases z:b=a
    ·subst z;rcases hA with h | ⟨_,xs,h,ok⟩
     ·rw[h] at e;cases e
     ·rw[h] at e;cases e;let⟨o1,o2⟩:=ok;apply⟨o1,o2⟩
    ·rw[hO b z] at e;cases e
  let tab:Ld K mg (Kf f.heap H) H:=λq c t p=>by
   let⟨Pt,hm⟩:=y8 q c t p;let⟨⟨o,us,file,tf,X,Eu,inF,text,tt,f1,Z,f3,f4,f5,f6,f7,f8,f9,f10⟩,hP⟩:=hT _ hm;let⟨W,N,b1,b2,O,T,b5,b6⟩:=hbm;show⟨Pt,_,0,⟨o,us,file,tf,X,Eu,inF,text,tt,g f1 (free f1 (λz=>by rw[z] at Z;cases Z) λz=>?_),Z,f3,f4,f5,f6,f7,f8,f9,f10⟩,Gx _ hm,rfl,W,N,b1,b2,λz=>?_,λz=>?_,g O (free O (λz=>by rw[z] at T;cases T) λz=>?_),T,b5,b6⟩
   ·rw[z,Q] at f1;cases f1;injection Z with Z;apply absurd Z ∅
   ·let⟨JR,Gi,ep,e',hd',_⟩:=U;rw[z,e'] at O;cases O;rw[hd'] at b6;cases b6
   ·rw[z,hP] at O;cases O;cases T
   ·rw[z,Q] at O;cases O;injection T with T;apply absurd T ∅
  let e0:lL P w K mg (Kf f.heap H) qt [] f H:=⟨rfl,hM,λb o e=>Zen e,Nat.le_of_eq (Un _ _),trivial,λb Y=>absurd (show b∈([]:Gs) from Y) ⋯,tab,L5,.of_eq Gz⟩
  let hS':K6 K H a (ns.map V.int):=by
   rcases hS with⟨o,h⟩ | h
   ·apply .inl ⟨o,by rw[Ha];apply h⟩
   ·apply .inr h
  show fX ((F _ M2 (j U)).run qt [] f H ⟨[.ref a],[]⟩ [.ref a] [.ref a] (λv _=>v = .Ap aD) E0 B e0 (R f (.ref a)) (.cons rfl .nil)
   ⟨rfl,[.cst (iL ns)],[],.Ap aD,JX.one (Is.cst hS' (JX.ofInts ns)),hD,λv H' fq _ i _ _=>i.dV.1⟩) λr I h=>?_
  cases r with
  | error e=>apply(h).elim
  | ok fl=>
   cases fl with
   | next=>apply bz h
   | brk=>apply bz h
   | cont=>apply bz h
   | ret u=>
    let⟨v,H',os,bare,un,M,Kd,q⟩:=h;let EE:=q;subst EE;obtain rfl:=Kd
    let key:∀b o,f.heap.get? b=aA o->I.heap.get? b=aA o\/(isCodeTable f.heap b/\o=jQ #[]/\∃ps,I.heap.get? b=aA (jQ ps)):=λb o e=>by
     cases z:H b with
     | none=>apply .inl (un.keep b o e z (by ext z;apply absurd (show b∈([]:Gs) from z) ⋯) ⋯)
     | some u=>
      let E:=z;rw[<-hH] at E;rcases SQ l C b with⟨r,B,J,G⟩ | ⟨Ay,G⟩
      ·rw[G] at E;cases E;let⟨more,z4⟩:=un.Cv b _ z;let⟨_,_,abm,_,e4,_⟩:=(M b _ z4);let S:=(hT r B);rw[J] at S;show .inr ⟨(S.1.tab S.2).isCodeTable,?_,abm,e4⟩;rw[e] at S;apply bM S.2
      ·rw[G] at E;by_cases y:b=a
       ·subst y;rcases hA with h | ⟨_,xs,h,_⟩
        ·rw[h] at E;cases E
        ·rw[h] at E;cases E;let z2:=un.AE b _ _ z;let Mc:=(L5 b _ z).1;let J:=(M b _ z2).1;rw[e] at Mc;cases Mc;apply .inl J
       ·rw[hO b y] at E;cases E
    show⟨rfl,⟨λb o e=>?_,λb o e=>?_⟩,os,bare⟩
    ·rcases key b o e with h | ⟨t,p,ps,h3⟩
     ·apply .inl h
     ·subst p;apply .inr (.inl ⟨t,rfl,#[],ps,rfl,by rw[Array.empty_append];apply h3⟩)
    ·rcases key b o e with h | ⟨t,p,ps,h3⟩
     ·apply⟨_,h⟩
     ·apply⟨_,h3⟩
 cases hk:K.lookup a with
 | some o=>
  let e:=KX a o hk;rw[Q] at e;cases e;apply L (λ_=>aB) (.inr ⟨_,vs.toArray,_,hk,rfl,rfl,rfl,by rw[aT,yL];apply Kb,by simpa using rv⟩) (.inl rfl) λ_ _=>rfl
 | none=>
  show L (λb=>if b=a then aA (.Er { cls:=.type "list",data:=.seq vs.toArray } (.lst (ns.map V.int))) else aB) (.inl ⟨{ cls:=.type "list",data:=.seq vs.toArray },An rfl⟩) (.inr ⟨hk,_,An rfl,Q,?_⟩) λb Y=>N4 Y;apply⟨by rw[aJ];apply Kb,vs,_,rv,Q⟩
open PySem.W PySem.Calls in
def law_walkT{l:PySem.W.OpenLaw}{q:bO}{m:Gm}{XP:(bJ->Option aI)->bp->Prop}{W:bX->bp->Prop}{d:DefRec}{KK:Params->aG}{x:bJ}{D:List PV->Option PV}(k:Nat)(Ay:l.most=aA 63)(Q:d.params.defaults=[])
  (hr:Cm k qt) (B:∀w:bX,Jo (KK w.params) q=aD) (hD:∀ns:List Int,ns.length<=63->(∀n∈ns,n.natAbs.log2<=1048576)->D [.cst (iL ns)]=aA (.Ap aD))
  (Y:∀(w:bX)(h:bp),W w h->(KK w.params).In h)
  (F:∀(w:bX)(mg:JM)(E:aP)(h:bp),(KK w.params).In h->h.Ns bY mg->mg d.name=aA (.ref E)->
   ∃M:gj,(∀(s:aR)(u:aI),pM s M ⟨[u],[]⟩ [(x,u)])/\∀base:bp,(KK w.params).In base->base.Ns bY mg->S7 l.prog w (KK w.params) mg base Mq k E M [x] (EV (KK w.params) D 1)) (C:PyProof.Rows.importsNone q=aD|>Pi) :
  PySem.W.WalkO q m XP W l.row.toRowW d [] (λf vs=>PySem.call f vs):=by
 ext w U i mg aa1 e yy E o pm cd doc dv kv ho hd J' v R p T S as A z hrd O hlo;obtain rfl:dv = .none:=Dflts.none v Q;obtain rfl:kv = .none:=Dflts.noKw v;let⟨a,vs,ns,rfl,rfl,t,j,b⟩:=z8.tq Ay A O
 let hw:∀n∈ns,n.natAbs.log2<=1048576:=λn h=>by
  let G:(WData.list (ns.map rF)).layable=aD:=bN.mp z _ (aO.mpr rfl);delta WData.layable at G;let y:=of_decide_eq_true (Bool.and_eq_true_iff.mp G).2;let L:WData.weightAll (ns.map rF)<=1048576:=by simpa [WData.weight] using y
  apply cG (Vf h) L
 let N:=Y w _ yy;let⟨M,X,hF⟩:=F w mg E _ N e.T.g R;let g:=B w;let I:=g;delta Jo at I;dsimp[af] at I;let⟨⟨⟨g1,g2⟩,g3⟩,_⟩:=I;let hT:∀r∈LA (KK w.params),oV i.heap r.2.1 r.2.2/\i.heap.get? r.2.2=aA (jQ #[]):=λr H=>by let⟨abu,P⟩:=dY.mp (bN.mp g3 r H);apply PySem.W.tab_of e.T N P (TG (x:=r.1) (c:=r.2.1) (Pt:=r.2.2) H).1
 let J:=e.T.bmain;show enter_call (fX (eE N e.T.g e.T.b e.T.builtins e.T.nolimit (e.T.seer C) p (let⟨bm,aak,b1,b2,b3,b4,b5,b6⟩:=J;⟨bm,aak,b1,b2,b3,b4,b5,b6⟩) hT g1 (λq c G y=>dK g G y) (of_decide_eq_true g2) t j (cG b ∅) hr hF X (hD ns b hw)) λr Aq Z=>?_);let⟨rfl,y,L,Mp⟩:=Z;apply⟨.inl ⟨.bool aD,.bool aD,[],rfl,λ_=>rfl,.bool aD,z8.tu l _,λ_=>⟨List.Pairwise.nil,λ_ H=>(nomatch H)⟩⟩,y,L,Mp⟩
end _v
namespace _v
open PySem PySem.Spec PyProof.Rows _l
def n_(a d:aI):argsOk "min" ⟨[a],[(fO "default",d)]⟩:=by delta argsOk;kernel_rfl
section
variable {prog:bO} {w:bX} {A:bg} {R:tG->aR->Prop} {I:aP} {Gh wr:Gs} {n:Nat} {P:Lm} {St:N_} {kw:List (bJ×aI)}
def kl(T:Walks prog w A.in1 I Gh wr n P St)(f:Nat->Nat->Bool)(C:CmpOf prog w A.in1 .Lt P f)(S:aP)(u:S∉Gh) :
  ∀(k j:Nat)(s:aR)(vb:aI)(c:Nat),n-(j+1)=k->j+1<=n->St (j+1) s.heap->P (jo f j) vb->s.heap.get? S=aA { cls:=.type "list",dict:=aB,data:=.seq #[vb,vb] c,slots:=#[] }->
   (∀v g tk,P (jo f (n-1)) v->(∀b o,b∉wr->b≠S->s.heap.get? b=aA o->g.get? b=aA o)->R (.ok (.ret v)) { s with heap:=g,toks:=tk })->jT (model prog w) A (.builtin "min.loop" ⟨[.ref I,.none,.ref S],kw⟩) R s:=by
 let x:=λz=>u (T.sub _ z);ext k
 induction k with
 | zero=>
  ext j s vb c E D st m l done;let t:j+1=n:=by omega
  show fR F.entry_min_loop ?_;rw[gx F.plain_min_loop _];change az _ A.in1 (pS (.ref S) >>= _) _ _ s;show aE (eZ l rfl ?_);change az _ A.in1 (tryCatch (kY (.ref I)) _ >>= _) _ _ s;show aE (kT (T.done s _ _ (t▸st) λg tk e=>?_));let a:=e S _ x l;change az _ A.in1 (updateSeq S (λ_=>#[]) >>= _) _ _ _;show aE ?_;show oN a rfl (aE (kC (aM ?_)));apply done vb _ tk (by rw[<-t];apply m) λb o d h q=>(bj _ _ (bU h)).trans (e b o d q)
 | succ k N8=>
  ext j s vb c E D st m l done;let lt:j+1<n:=by omega
  show fR F.entry_min_loop ?_;rw[gx F.plain_min_loop _];change az _ A.in1 (pS (.ref S) >>= _) _ _ s;show aE (eZ l rfl ?_);change az _ A.in1 (tryCatch (kY (.ref I)) _ >>= _) _ _ s;show aE (kT (T.item (j+1) s _ _ lt st λv g tk pv i e=>?_));let a:=e S _ x l;change az _ A.in1 (tryCatch (holding [v,v] (richCompare .Lt v vb >>= _)) _ >>= _) _ _ _;show aE (kT (cg (aE (C (j+1) (jo f j) v vb _ _ _ pv m ?_))));show aE (cg (dJ ?_));show aE (kC (aM ?_))
  cases z:f (j+1) (jo f j) with
  | true=>
   show aE ?_;show oN a rfl (aE (kC ?_));show aM ⟨jf F.plain_min_loop _,N8 (j+1) _ v _ (by omega) lt (T.frame _ _ _ i λb B o q=>?_) (by dsimp[jo,z];apply pv) (cS _ a rfl) λr p rf p2 k2=>?_⟩
   ·apply(bj _ _ (λy:S=b=>u (by rw[y];apply B))).trans q
   ·apply done r p rf p2 λb o d h q=>k2 b o d h ((bj _ _ (bU h)).trans (e b o d q))
  | false=>
   show aE (kC ?_);apply aM ⟨jf F.plain_min_loop _,N8 (j+1) _ vb c (by omega) lt i (by dsimp[jo,z];apply m) a λr p rf p2 k2=>done r p rf p2 λb o d h q=>k2 b o d h (e b o d q)⟩
def l4(T:Walks prog w A.in1 I Gh wr n P St)(j:Nat->Nat->Bool)(r:CmpOf prog w A.in1 .Lt P j)(S:aP)(i:S∉Gh)(st:St 0 s.heap)
  (l:s.heap.get? S=aA { cls:=.type "list",dict:=aB,data:=.seq #[] c,slots:=#[] })
  (done:∀v g tk,(n=0/\v=d)\/(0<n/\P (jo j (n-1)) v)->(∀b o,b∉wr->b≠S->s.heap.get? b=aA o->g.get? b=aA o)->R (.ok (.ret v)) { s with heap:=g,toks:=tk }) :
  jT (model prog w) A (.builtin "min.loop" ⟨[.ref I,.none,.ref S],[(fO "default",d)]⟩) R s:=by
 let t:=λz=>i (T.sub _ z);show fR F.entry_min_loop ?_;rw[gx F.plain_min_loop _];change az _ A.in1 (pS (.ref S) >>= _) _ _ s;show aE (eZ l rfl ?_);change az _ A.in1 (tryCatch (kY (.ref I)) _ >>= _) _ _ s;by_cases a:n=0
 ·show aE (kT (T.done s _ _ (a▸st) λg tk f=>?_));show aE (l9 ?_);apply aM (done d g tk (.inl ⟨a,rfl⟩) λb o h _ q=>f b o h q)
 ·let a:=Nat.pos_of_ne_zero a;show aE (kT (T.item 0 s _ _ a st λv g tk pv k f=>?_));let e:=f S _ t l;change az _ A.in1 (updateSeq S (λ_=>#[v,v]) >>= _) _ _ _;show aE ?_;show oN e rfl ?_;show aM ⟨jf F.plain_min_loop _,kl T j r S i _ 0 _ v _ rfl a (T.frame _ _ _ k λb p o q=>?_) pv (cS _ e rfl) λx u rf p2 k2=>?_⟩
  ·apply(bj _ _ (λy:S=b=>i (by rw[y];apply p))).trans q
  ·apply done x u rf (.inr ⟨a,p2⟩) λb o h m q=>k2 b o h m ((bj _ _ (bU m)).trans (f b o h q))
end
section
variable {prog:bO} {w:bX} {A:bg} {E:Gu} {s:aR}
def o_
  (h:az (model prog w) A.in1 (nM x) (λit a=>∃I i l n P St f,it = .ref I/\Walks prog w A.in1 I i l n P St/\St 0 a.heap/\(∀b∈i,b<a.heap.objs.size)/\CmpOf prog w A.in1 .Lt P f/\
   ∀v g tk,(n=0/\v=d)\/(0<n/\P (jo f (n-1)) v)->(∀b o,b∉l->a.heap.get? b=aA o->g.get? b=aA o)->Q v { a with heap:=g,toks:=tk }) E s) :
  az (model prog w) A (call (.builtin "min") [x] [(fO "default",d)]) Q E s:=by
 show kmk_tree PySem.F.kind_min PySem.F.plain_min PySem.F.entry_min (n_ _ _) ?_;change az _ A.in1 (sE "min" ["key","default"] 0 ⟨[],[(fO "default",d)]⟩ >>= _) _ _ s;show aE (mM (rfl) ?_);show aE (aM ?_);show aE (bq h (λit a c=>?_) λ_ _ e=>e);let⟨I,i,l,n,P,St,f,rfl,T,st,j,p,t⟩:=c;show aE (cA ?_);let m:=λq=>cR _ (j _ q);show aM ⟨jf F.plain_min_loop _,l4 T f p a.heap.objs.size m (T.frame _ _ _ st λb _ o e=>aH _ e) (aX _ rfl) λv g tk r u=>?_⟩;apply t v g tk r λb o k e=>u b o k (bC (aV e)) (aH _ e)
end
def Jt:PV->Option PV
 | .tup l=>(J9 l).bind λns=>if ns=[] then aA (.int 0) else aA (.int (M4 ns))
 | _=>aB
section
variable {X:Cx} {e:bT} {f:XE} {np kp cp pos:g6} {j:Nat}
def Zgz(Ex:X.calm=aD)(Gz:Gl X "min")(T:X.mg "min" = aB)(d:dj "min" = aA (.builtin "min"))(Mi:JW X e f)
  (hs:aN [e] X.env=(aC,eval e X.env)::aN [] X.env|>On) (he:ck pos (aN [e] X.env)=(aC,eval e X.env)::ck pos (aN [] X.env)|>On) (M:(ck pos (aN [e] X.env)).any (·.1)=aC|>On) :
  JW X (.Call (.Name "min" np) [e] [⟨aA "default",.Constant (.int 0) j cp,kp⟩] pos) (A6 Jt f):=by
 intro F s P H Q I ⟨Rm,st,l,hd,env,S,q⟩;let⟨m,Mc,Z⟩:=Zc S;show cU (Xv I Gz T d ?_);show callWith_kw (Z8 ((Y4 Mi Ue hs) pos F s P H (λvs w=>∃v N,vs=[v]/\AJ H w/\Is X.K w m v N) I ⟨Rm,st,[m],hd,env,by dsimp[A2,Mc,aZ,dz],λvs w N O i _=>?_⟩) λus s1 ⟨vs,w,I1,rv,v,N,S,O,i⟩=>?_) he M
 ·let⟨v,r,f1,f2,Gy,i1,i2,_⟩:=i.inv;apply⟨v,f1,by rw[Gy,i2.1],O,i1⟩
 ·subst S;let⟨u,rfl,U⟩:=Vy rv;show kws_cons (Z8 (Xp F s1 P w (λv2 L=>v2 = .int 0/\L=w) I1 ⟨rfl,rfl⟩) λF s2 ⟨v2,L,W,aam,e4,e5⟩=>?_);subst e4 e5;let⟨t0,rfl⟩:=aam;show kws_nil ?_
  cases m with
  | tup ms=>
   let⟨ns,e6,J⟩:=Zc (Z);let em:=Yn e6;subst em;let⟨p,xs,rfl,Y,R⟩:=i.b_;cases U;let⟨rfl,rfl⟩:=R.iL;let⟨B,E,a,hz⟩:=W.CM (b:=aC) (CG.of Y);let C:=let⟨_,e⟩:=a.has;aV e;let n:=E.length;rw[aJ] at n
   let g:∀(i:Nat)(v:aI),B.toArray[i]?=aA v->∃t,v=fT (ns.getD i 0) t:=λi v d=>by
    let d:B[i]?=aA v:=by simpa using d
    let N9:i<ns.length:=by rw[n];apply(aQ.mp d).1
    let⟨u,Ax,U⟩:=E.get (i:=i) (x:=.int ns[i]) ⋯;rw[d] at Ax;cases Ax;let⟨t,rfl⟩:=U;show⟨t,?_⟩;rw[aK,aF N9];rfl
   show o_ (Ym a ?_);show⟨_,_,_,_,_,_,λi j=>decide (ns.getD i 0<ns.getD j 0),rfl,Walks.CM (A:=X.A.in1) aC (W.ok.hd Ex) s2.heap.objs.size p (bC C) B.toArray,⟨J8.new (aX _ rfl),a.at λo e=>aH _ e⟩,λc h=>?_,su (λi=>ns.getD i 0) g,λv h' tk d hk=>?_⟩
   ·change c<(s2.heap.push _).objs.size;rw[dH];rcases aY.mp h with rfl | h
    ·apply iK _
    ·rw[aO.mp h];apply fN C
   ·let D:∀z t,v=fT z t->l = .int z->EP X F P Q v { s2 with heap:=h',toks:=tk }:=λz t ez el=>by subst ez el;show⟨.int z,L,W.kept (λc o k=>hk c o ?_ (aH _ k)),⟨t,rfl⟩,q _ L [] O (Is.int _) λp Y=>by simp at Y⟩;ext T;rw[aO.mp T] at k;apply absurd (aV k) (cR _)
    rcases d with⟨G,rfl⟩ | ⟨G,d⟩
    ·let en:=bV.mp (by rw[n];simpa using G);rw[An en] at J;apply D 0 t0 rfl (bM J).symm
    ·let y:ns≠[]:=λz=>by rw[aT,<-n,z] at G;simp at G
     rw[N4 y] at J;let⟨t,rfl⟩:=g _ _ d;let⟨g1,g2⟩:=SM (λi=>ns.getD i 0) (B.toArray.size-1);let hpos:=j8.mpr y;rw[aT,<-n] at g1 g2
     let e:M4 ns=ns.getD (jo (λi j=>decide (ns.getD i 0<ns.getD j 0)) (B.toArray.size-1)) 0:=by
      rw[aT,<-n];show zt ?_ λx hx=>?_
      ·rw[aK,aF (by omega)];apply bw _
      ·let⟨j,hj,ej⟩:=cW hx;let:=g2 j (by omega);rw[aK (i:=j),aF hj,ej] at this;apply this
     apply D _ t rfl (by rw[<-e];apply(bM J).symm)
  | _=>cases Z
end
end _v
namespace _v
open PySem _l
def N1:cD->Option (pO×bT×jX)
 | .Return (aA (.Call _ [_,_,.Lambda a b sc _] _ _)) _=>aA (a,b,sc)
 | .Assign _ (.Call _ [_,_,.Lambda a b sc _] _ _) _=>aA (a,b,sc)
 | _=>aB
def Ej(st:cD)(i:Nat)(q free:bJ):G5:=match (Kv st)[i]? with
 | some s=>(match N1 s with
  | some (a,b,sc)=>⟨Nl q,a,b,sc,free⟩
  | none=>⟨Nl q,M9 st,.Name free ⟨0,0,0,0⟩,GV st,free⟩)
 | none=>⟨Nl q,M9 st,.Name free ⟨0,0,0,0⟩,GV st,free⟩
end _v
namespace _p
open PySem _l _v _x
def AR(i:Nat):cD:=lI.main.body.getD i (.Pass ⟨0,0,0,0⟩)
def DA:G5:=Ej (AR 52) 1 "still_by" "tree"
def HA:XE:=(Cy (J7 aC) (Cw 0) (Cw 3))
open Classical in
def NF(L:G5)(l:PV)(ls:List PV):Option PV:=if L=DA then HA (ls.map aA++[aA l]) else aB
def Ly:XS:=(GP (EI (AO (Cy (J1 aC) (Cy XG (Cy WU (Cw 0) (AL (.int 4))) (AL (.int 4))) (AL (.int 3)))) (AQ (AN (Cy YD (AL (.int 5)) (Cy XG (Cy WU (Cw 0) (AL (.int 16))) (AL (.int 3)))))) GX)
  (AQ (AN (Cy YD (AL (.int 1)) (Cy XG (Cw 0) (AL (.int 4)))))))
def Jz:=CB 1 Ly
def BZ:=CB 1 (AQ (AN (Cy JZ (AK Bt [Cw 0]) (AL (.int 0)))))
def NG:=CB 1 (AQ (AK MH [Cw 0,AL (.int 0)]))
def B2:=CB 1 (AQ (AK BZ [AK NG [Cw 0]]))
def F9:XS:=(AQ (AN (Cy (J1 aD) (Cy JZ (Cw 0) (Cy JZ (Cw 1) (AL (.int 0)))) (Cy JZ (Cw 0) (Cy JZ (Cw 1) (AL (.int 1)))))))
def Jy:=CB 2 F9
def Jp:=CB 7 (GP (Kg 3 (Mv []))
  (GP (GZ [3] (G6 (Cw 2)) (.one 4) (GP (Kg 5 (AK Lx [Cw 0,Cw 1,Cw 4]))
  (GP (Kg 6 (AN (CW (AO (Cy E3 (AK CD [Cw 4]) (AL (.int 0)))) (Cy YD (Cy JZ (Cw 4) (A6 K4 (AL (.int 1)))) (AL (.int 1))) (AL (.int 0)))))
  (Bn 3 (AS 1 [4,5,1] (C3 [Cw 6,AK CD [Cw 1]]) (.one 0) (AO (AK Jy [Cw 2,Cy JZ (Cw 3) (Cw 0)])) (AN (Cy E1 (Cw 1) (EM [Cw 0]))))))))
  (AQ (Cw 3))))
def Jl:XS:=(GP (EI (AO (Cy E3 (AK B2 [Cw 0]) (Cw 1))) Hb GX)
  (GP (Kg 2 (AK Hm [Cw 0]))
  (GP (Kg 3 (Mv [AN (EM [])]))
  (GP (GZ [3] (C3 [AL (.int 1),AK CD [Cw 0]]) (.one 4) (Kg 3 (AK Jp [Cw 0,Cw 2,Cw 3])))
  (AQ (Cw 3))))))
def IS:=CB 5 Jl
def BN:=CB 4 (GP (EI (AO (Cy (J1 aC) (Cw 1) (AL (.int 0)))) (AQ (AN (Cy E1 (MW Ff (Cw 0) CP (AY (Cw 2))) (MW Ff (Cw 0) (AY (Cy YD (Cw 2) (AL (.int 1)))) CP)))) GX)
  (GP (EI (AO (Cy (J1 aC) (Cw 1) (AL (.int 1)))) (AQ (AN (Cy E1 (Cy E1 (MW Ff (Cw 0) CP (AY (Cw 2))) (MW Ff (Cw 0) (AY (Cw 2)) (AY (Cy YD (Cw 2) (AL (.int 1)))))) (MW Ff (Cw 0) (AY (Cw 2)) CP)))) GX)
  (GP (EI (AO (Cy (J1 aC) (Cw 1) (AL (.int 2)))) (AQ (AN (A6 HW (Cw 0)))) GX)
  (GP (EI (AO (Cy (J1 aC) (Cw 1) (AL (.int 3)))) (AQ (AN (Cy E1 (Cy E1 (MW Ff (Cw 0) CP (AY (Cw 2))) (EM [Cw 3])) (MW Ff (Cw 0) (AY (Cy YD (Cw 2) (AL (.int 1)))) CP)))) GX)
  (GP (EI (AO (Cy (J1 aC) (Cw 1) (AL (.int 4)))) (AQ (AN (Cy E1 (Cy E1 (MW Ff (Cw 0) CP (AY (Cw 2))) (EM [Cy Vc (Cw 3) (AL (.int 9))])) (MW Ff (Cw 0) (AY (Cw 2)) CP)))) GX)
  (AQ (AN (AK Ii [AK Hn [Cy E1 (Cw 0) (EM [Cw 3])]]))))))))
def Hz:=CB 12 (GP (Kg 3 (AK M8 [Cw 0,Cw 1]))
  (GP (Kg 4 (AN (Cy JZ (Mv [AL (.int 8),Cy YD (Cw 2) (AL (.int 1))]) (AK IH [Cy E3 (Cw 2) (AL (.int 4))]))))
  (GP (EI (KJ (AO (Cy (J1 aC) (Cy XG (Cw 3) (AL (.int 2))) (AL (.int 1)))) (AO (C9 aD (AK DF [Cy WU (Cw 3) (AL (.int 2)),Cw 2,Cw 4,AL (.int 9)])))) (AQ (AK DF [Cy WU (Cw 3) (AL (.int 2)),Cw 2,Cw 4,AL (.int 9)])) GX)
  (GP (Kg 5 (AL (.L8 [] [])))
  (GP (GZ [5] (C3 [AL (.int 1),Cw 2]) (.one 6) (GP (Kg 7 (AK M8 [Cw 0,Cy YD (Cw 1) (Cw 6)]))
  (GP (Kg 8 (AN (AK IT [Cy JZ (Mv [AL (.int 1),AL (.int 1),AL (.int 1),AL (.int 2),AL (.int 3)]) (Cy XG (Cy WU (Cw 7) (Cw 6)) (AL (.int 5))),Cy Vc (Cw 4) (Cy Vc (Cy Vc (Cw 2) (AL (.int 1))) (Cw 6))])))
  (GP (Nh 5 (EM [Cy XG (Cw 7) (Cw 6),Cw 6]) (Cw 8))
  (Kg 4 (AN (Cy Vc (Cw 4) (Cw 8))))))))
  (GP (Kg 9 (AN (Cy YD (Cw 1) (Cy JZ (Mv [AL (.int 5),AL (.int 27)]) (AK IH [Cy E3 (Cw 2) (AL (.int 4))])))))
  (GP (GZ [5] (Ib [Cw 2]) (.one 10) (GZ [5] (C3 [Cy YD (Cw 10) (AL (.int 1)),Cw 2]) (.one 11) (GP (Kg 8 (AN (Cy JZ (Mv [AL (.int 0),AL (.int 1),AL (.int 0),AL (.int 1),AL (.int 2)]) (Cy XG (AK M8 [Cw 0,Cw 9]) (AL (.int 5))))))
  (GP (Kg 9 (AN (Cy YD (Cw 9) (AL (.int 1)))))
  (EI (KJ (AO (FL aD (EM [Cw 10,Cw 11]) (Cw 5))) (AO (IV CV oLe (AL (.int 0)) (Cw 8) (Cw 4)))) (GP (Nh 5 (EM [Cw 10,Cw 11]) (Cw 8))
  (Kg 4 (AN (Cy Vc (Cw 4) (Cw 8))))) GX)))))
  (AQ (AK BO [Cw 5,Cy WU (AK M8 [Cw 0,Cw 1]) (AL (.int 7)),Cw 2])))))))))
def BM:=CB 5 (GP (GZ [] (Lf aD [Cw 0]) (.many [3,4]) (EI (KJ (AO (Cy (J7 aD) (Cw 3) (Cw 1))) (AO (Cy (J1 aD) (Cy (J7 aC) (Cy JZ (Cw 4) (AL (.int 0))) (Cw 2)) (Cy (J7 aC) (Cy JZ (Cw 4) (AL (.int 1))) (Cw 2))))) (AQ (AN (Cw 3))) GX))
  (AQ (AN (AL .Ma))))
def BQ:=CB 10 (GP (Kg 3 (AK Hm [Cw 0]))
  (GP (Kg 4 (Mv [AN (Cw 1)]))
  (GP (Kg 5 (Mv []))
  (GP (Kg 6 (Mv []))
  (GP (Kg 7 (AK BM [Cw 3,Cw 5,Cw 4]))
  (GP (K9 (AO (C9 aD (Cw 7))) (GP (KR 5 (AN (Cw 7)))
  (GP (Kg 8 (AN (CW (AO (Cy (J7 aC) (Cy JZ (Cy JZ (Cw 3) (Cw 7)) (AL (.int 0))) (Cw 4))) (Cy JZ (Cy JZ (Cw 3) (Cw 7)) (AL (.int 1))) (Cy JZ (Cy JZ (Cw 3) (Cw 7)) (AL (.int 0))))))
  (GP (Kg 9 (AN (AK CD [AS 1 [8,3] (G6 (Cw 5)) (.one 0) (AO (Cy (J7 aC) (Cw 1) (MW G7 (Cy JZ (Cw 2) (Cw 0)) CP (AY (AL (.int 2)))))) (Cw 0)])))
  (GP (EI (By (Hi NF 2 [Cw 7,Cw 8,Cw 9])) (GP (KR 4 (AN (Cw 8)))
  (KR 6 (AN (EM [Cw 7,Cw 8,Cw 9])))) GX)
  (Kg 7 (AK BM [Cw 3,Cw 5,Cw 4])))))))
  (AQ (Cw 6))))))))
def Hk:=CB 8 (GP (Kg 3 (Cy Fh (Mv [AL (.int 0)]) (AK CD [Cw 0])))
  (GP (Kg 4 (FN BQ (Cw 0) (Cw 1) DA 2))
  (GP (GZ [3] (G6 (Cw 4)) (.many [5,6,7]) (DJ 3 (Cw 6) (Cy Vc (Cw 7) (AL (.int 1)))))
  (AQ (AN (AK Ii [Cw 3]))))))
def Hr:XS:=(AQ (AK FH [AS 1 [0,1] (G6 (AK IS [Cw 0,Cw 2])) (.one 0) MV (AK Hk [Cw 1,Cw 2,Cw 0])]))
def FI:=CB 3 Hr
def B1:=CB 7 (GP (Kg 3 (Mv [AN (Cw 2)]))
  (GP (GZ [3] (Ib [AK CD [Cw 0]]) (.one 4) (GZ [3] (Ib [AK CD [Cw 0]]) (.one 5) (GP (Kg 6 (AN (AK Nd [AS 1 [0,5] (G6 (Cw 3)) (.one 0) MV (Cy JZ (Cy JZ (Cw 1) (Cw 2)) (Cw 0))])))
  (EI (KJ (AO (Cy (J7 aD) (Cw 5) (Cw 3))) (AO (Cy CV (Cy JZ (Cw 1) (Cw 5)) (Cw 6)))) (KR 3 (AN (Cw 5))) GX))))
  (AQ (AN (Cy (J1 aC) (AK CD [Cw 3]) (AK CD [Cw 0]))))))
def IY:=CB 4 (GP (Kg 3 (AN (Cy E1 (MW G7 (Cw 1) CP (AY (Cw 2))) (MW G7 (Cw 1) (AY (Cy YD (Cw 2) (AL (.int 1)))) CP))))
  (GP (EI (AO (Cy CV (A6 Jt (Cw 3)) (AL (.int 0)))) (AQ (AN (AL (.Ap aC)))) GX)
  (AQ (AK B1 [Cw 0,Cw 1,Cw 2]))))
def Lk:=CB 3 (AQ (AN (Fp (Cy (J1 aC) (AK CD [AK Jj [Cw 1,Cw 2]]) (AL (.int 0))) (Cy (J1 aC) (AK CD [AK Nw [Cw 0,Cw 1,Cw 2]]) (AK CD [Cw 0])))))
def My:List PV->Option bJ:=Lr 3 (GL (Ky (AO (Cy (J1 aD) (Cy JZ (Cw 2) (Cw 1)) (AL (.int 0)))) (Kt (AO (AK Lk [Cw 0,Cw 2,Cw 1])))) (Lz "NotSettled" (Cw 1) (Cw 2)) Nt)
def Xo:∀ls m,My ls=aA m->m = "NoTree"\/m = "NotSettled":=RH (VP (dT ∅) Tn)
def Dl:=CB 3 (EI (Ky (AO (Cy (J1 aD) (Cy JZ (Cw 2) (Cw 1)) (AL (.int 0)))) (Kt (AO (AK Lk [Cw 0,Cw 2,Cw 1])))) Hb GX)
def NQ:=CB 4 (GP (Kg 3 (AN (Cy JZ (AK FV [Cw 0,Cw 2,Cw 1]) (AL (.int 1)))))
  (AQ (AN (Cy E1 (Cy E1 (MW G7 (Cw 3) CP (AY (Cw 1))) (EM [AL (.int 0)])) (MW G7 (Cw 3) (AY (Cy YD (Cw 1) (AL (.int 1)))) CP)))))
def Hf:List PV->Option bJ:=Lr 4 (M6 (E8 My [Cw 0,Cw 1,Cw 2]) (DE (AK Dl [Cw 0,Cw 1,Cw 2]))
  (M6 (E8 My [Cw 0,Cw 1,Cw 3]) (DE (AK Dl [Cw 0,Cw 1,Cw 3]))
  Nt))
def xy:∀ls m,Hf ls=aA m->m = "NoTree"\/m = "NotSettled":=RH (Sa (To Xo) (Sa (To Xo) Tn))
def Ny:=CB 4 (GP (DE (AK Dl [Cw 0,Cw 1,Cw 2]))
  (GP (DE (AK Dl [Cw 0,Cw 1,Cw 3]))
  (AQ (AK NQ [Cw 0,Cw 1,AK Nk [Cw 2,Cw 3]]))))
def DG:=CB 8 (GP (Kg 2 (Mv []))
  (GP (GZ [] (Ib [AK CD [Cw 0]]) (.one 3) (GZ [] (C3 [Cy YD (Cw 3) (AL (.int 1)),AK CD [Cw 0]]) (.one 4) (Kg 2 (Cy Hd (Cw 2) (Cy Fh (Mv [EM [Cw 3,Cw 4]]) (Cy JZ (Cy JZ (Cw 0) (Cw 3)) (Cw 4)))))))
  (GP (EI (Ky (Kt (AO (AK ME [Cw 1,Cy Vc (AK CD [Cw 0]) (AL (.int 1))]))) (AO (Cy (J1 aD) (AK MD [Cw 1]) (AK Hn [Cw 1])))) (AQ (AN (AL (.Ap aC)))) GX)
  (GP (Kg 5 (AS 1 [] (Ib [AK CD [Cw 0]]) (.one 0) MV (AN (Cw 0))))
  (GP (GZ [] (KW (Cw 1)) (.one 6) (GP (EI (Ky (AO (Cy CV (Cw 6) (AL (.int 0)))) (AO (Cy vS (Cw 6) (AK CD [Cw 2])))) (AQ (AN (AL (.Ap aC)))) GX)
  (GP (Lh (.many [3,4]) (Cy JZ (Cw 2) (Cw 6)))
  (GP (Kg 7 (AN (Cy JZ (Cw 5) (Cw 4))))
  (GP (EI (AO (Cy (J1 aC) (Cy JZ (Cw 5) (Cw 3)) (Cw 7))) (AQ (AN (AL (.Ap aC)))) GX)
  (Kg 5 (AS 1 [5,3,7] (G6 (Cw 5)) (.one 0) MV (AN (Cy JZ (Mv [Cw 0,Cy JZ (Cw 1) (Cw 2)]) (AK IH [Cy (J1 aC) (Cw 0) (Cw 3)]))))))))))
  (AQ (AN (AL (.Ap aD)))))))))
def Lu:List PV->Option bJ:=Lr 3 (M6 (GL (Kt (AO (AK Fe [Cw 0,Cw 2]))) (Lp "NoTree" (Cw 2)) Nt) (EI (Kt (AO (AK Fe [Cw 0,Cw 2]))) Hb GX)
  Nt)
def Px:∀ls m,Lu ls=aA m->m = "NoTree"\/m = "NotSettled":=RH (Sa (VP (uU ∅) Tn) Tn)
def JU:=CB 3 (GP (EI (Kt (AO (AK Fe [Cw 0,Cw 2]))) Hb GX)
  (AQ (AK Hk [Cw 0,Cw 1,Cw 2])))
def Ht:XS:=(GP (Kg 1 (Mv [AN (Lc (BE "NoWeb") (Cw 0)),AN (Lc (BE "Apart") (Cw 0)),AN (Lc (BE "NoText") (Cw 0)),AN (Lc (BE "NoOrder") (Cw 0))]))
  (GP (Kg 1 (Cy Hd (Cw 1) (Mv [Lc (BE "TooMany") (Cw 0),Lc (BE "NotSettled") (Cw 0),Lc (BE "NoTree") (Cw 0)])))
  (GP (Kg 1 (Cy Hd (Cw 1) (Mv [Lc (BE "NoTotal") (Cw 0),Lc (BE "NoEnds") (Cw 0),Lc (BE "NoRow") (Cw 0),Lc (BE "NoName") (Cw 0)])))
  (GP (EI (Ky (Kt (AO (Lc HG (Cw 0)))) (AO (Cy (J1 aD) (Cy Je (Cw 1) (AL (.Ap aD))) (AL (.int 1))))) (AQ (AN (A6 K4 (AL (.int 1))))) GX)
  (AQ (AN (Cy Jd (Cw 1) (AL (.Ap aD)))))))))
def Bh:=CB 2 Ht
def Bv:=CB 6 (GP (Kg 3 (AN (AL .Ma)))
  (GP (Kg 4 (AN (AL .Ma)))
  (GP (Bf (Nv Lu [Cw 0,Cw 1,Cw 2] 5 (Kg 4 (AK Bh [Cw 5]))) (Kg 3 (AK JU [Cw 0,Cw 1,Cw 2])))
  (GP (EI (AO (AK DG [Cw 0,Cw 2])) (AQ (AN (Fp (C9 aC (Cw 4)) (Fp (AK ME [Cw 3,AK CD [Cw 0]]) (Fp (Cy (J1 aC) (Cy JZ (Cw 3) (Cw 1)) (AL (.int 0))) (AK IY [Cw 0,Cw 3,Cw 1])))))) GX)
  (AQ (AN (Cy (J1 aC) (Cw 4) (AL (.int 6)))))))))
def Jg:List PV->Option bJ:=Lr 3 (M6 (E8 My [Cw 0,Cw 1,Cw 2]) (DE (AK Dl [Cw 0,Cw 1,Cw 2]))
  Nt)
def q5:∀ls m,Jg ls=aA m->m = "NoTree"\/m = "NotSettled":=RH (Sa (To Xo) Tn)
def HX:=CB 3 (GP (DE (AK Dl [Cw 0,Cw 1,Cw 2]))
  (AQ (AK NQ [Cw 0,Cw 1,AK Dq [Cy Ni (EM [AL (.int 0)]) (AK CD [Cw 0]),Cw 2]])))
def He:=CB 7 (GP (Kg 5 (AN (AL .Ma)))
  (GP (Bf (EI (AO (Cw 4)) (Nv Jg [Cw 0,Cw 1,Cw 2] 6 (Kg 5 (AK Bh [Cw 6]))) (Nv Hf [Cw 0,Cw 1,Cw 2,Cw 3] 6 (Kg 5 (AK Bh [Cw 6])))) (EI (AO (Cw 4)) (DE (AK HX [Cw 0,Cw 1,Cw 2])) (DE (AK Ny [Cw 0,Cw 1,Cw 2,Cw 3]))))
  (AQ (AN (Cy (J1 aC) (Cw 5) (AL (.int 5)))))))
def DY:XS:=(GP (Kg 1 (AK Jz [AK M8 [Cw 0,AL (.int 0)]]))
  (GP (Kg 2 (AK LR [AK Hz [Cw 0,AL (.int 1),Cw 1],Cw 1]))
  (GP (Kg 3 (AN (Cy XG (AK M8 [Cw 0,AL (.int 12)]) (Cw 1))))
  (GP (Kg 4 (AK (λls=>IS (ls++[.int 300])) [Cw 2]))
  (GP (Kg 5 (AN (Cy JZ (Cw 4) (Cy XG (AK M8 [Cw 0,AL (.int 13)]) (AK CD [Cw 4])))))
  (GP (Kg 6 (AN (Cy XG (AK M8 [Cw 0,AL (.int 15)]) (Cw 1))))
  (GP (Kg 7 (AK BN [Cw 5,Cy XG (AK M8 [Cw 0,AL (.int 14)]) (AL (.int 6)),Cw 6,Cy XG (AK M8 [Cw 0,AL (.int 16)]) (AL (.int 10))]))
  (GP (EI (Ky (Kt (AO (AK Bv [Cw 2,Cw 3,Cw 7]))) (Kt (AO (AK Bv [Cw 2,Cw 3,Cw 5])))) (AQ (AN (AL (.Ap aC)))) GX)
  (GP (Kg 8 (AN (Cy JZ (AK (λls=>FI (ls++[.int 300])) [Cw 2,Cw 3]) (Cy XG (AK M8 [Cw 0,AL (.int 17)]) (AK CD [Cw 4])))))
  (GP (Kg 9 (AN (Cy XG (AK M8 [Cw 0,AL (.int 18)]) (Cw 1))))
  (GP (Kg 10 (AK M8 [Cw 0,AL (.int 19)]))
  (GP (Kg 11 (AN (Cy JZ (Mv [A6 K4 (AL (.int 1)),AK Nd [Cy JZ (Cw 2) (Cw 9)],Cy YD (AL (.int 1)) (Cy XG (Cw 10) (Cy Znt (AL (.int 10)) (AL (.int 9)))),Cy Vc (AL (.int 0)) (Cy XG (Cw 10) (AL (.int 7)))]) (Cy XG (AK M8 [Cw 0,AL (.int 20)]) (AL (.int 4))))))
  (GP (Kg 12 (AN (Cy E1 (Cy E1 (MW G7 (Cw 8) CP (AY (Cw 9))) (EM [Cw 11])) (MW G7 (Cw 8) (AY (Cy YD (Cw 9) (AL (.int 1)))) CP))))
  (GP (EI (KJ (AO (Cy (J1 aC) (Cy JZ (Cw 12) (Cw 3)) (AL (.int 0)))) (AO (AK IY [Cw 2,Cw 12,Cw 3]))) (AQ (AN (Cy (J1 aC) (AK Ny [Cw 2,Cw 3,Cw 12,Cy Ni (EM [AL (.int 0)]) (Cw 1)]) (Cw 12)))) GX)
  (GP (GZ [] (G6 (Mv [EM [Cw 12,Cw 8,AL (.Ap aC)],EM [Cw 8,Cw 12,AL (.Ap aC)],EM [Cw 12,Cw 8,AL (.Ap aD)]])) (.one 13) (EI (Kt (AO (AK He [Cw 2,Cw 3,Cy JZ (Cw 13) (AL (.int 0)),Cy JZ (Cw 13) (AL (.int 1)),Cy JZ (Cw 13) (AL (.int 2))]))) (AQ (AN (AL (.Ap aC)))) GX))
  (AQ (AN (Cy (J1 aC) (AK Ny [Cw 2,Cw 3,Cw 8,Cy Ni (EM [AL (.int 0)]) (Cw 1)]) (Cw 8)))))))))))))))))))
def D_law:=CB 14 DY
end _p
namespace _v
open PySem PySem.Spec PyProof.Rows _l
def uw(a:sc.kind = .function|>On)(b:sc.isCoroutine=aC|>On)(c:sc.isGenerator=aC|>On)(d:N.Nodup|>Pi)(e:N.take P.length=P|>On)
  (f:(∀x∈P,sc.names.lookup x=aA .local\/sc.names.lookup x=aA .cell)|>Pi) (g:(∀y∈sc.names,y.2≠.free)|>Pi):Z2 N P sc:=⟨a,b,c,d,e,f,g⟩
section
variable {X:Cx} {e Mc e2 Gy e4 e5:bT} {f f1 f2 f3 f4 f5:XE} {Gi:Mk} {fs:List XE} {x:bJ} {p pos pos':g6} {k k' n:Nat} {O W:N6}
def vo(i:Nat)(d:X.N[i]?=aA x|>On)(c:BC X.env.scope x:=by first | apply mY rfl | apply o8 (mY rfl) | apply o8 (o8 rfl))(b:(x==("__debug__" : bJ))=aC|>Op)
  (a:(x==("__classdict__" : bJ))=aC|>Op):JW X (.Name x pos) (Cw i):=PR (pv i d c b a)
def YU(a:JW X Mc f1:=by first | apply vo _ | apply Zj)(hs:aN [Mc] X.env=(aC,eval Mc X.env)::aN [] X.env|>On):Kr X [Mc] [f1]:=Y4 a Ue hs
def XI(a:JW X Mc f1:=by first | apply vo _ | apply Zj)(b:JW X e2 f2:=by first | apply vo _ | apply Zj)(hs:aN [Mc,e2] X.env=(aC,eval Mc X.env)::aN [e2] X.env|>On)(c:aN [e2] X.env=(aC,eval e2 X.env)::aN [] X.env|>On):Kr X [Mc,e2] [f1,f2]:=Y4 a (YU b c) hs
def Wr(a:JW X Mc f1:=by first | apply vo _ | apply Zj)(b:JW X e2 f2:=by first | apply vo _ | apply Zj)(c:JW X Gy f3:=by first | apply vo _ | apply Zj)(hs:aN [Mc,e2,Gy] X.env=(aC,eval Mc X.env)::aN [e2,Gy] X.env|>On)(d:aN [e2,Gy] X.env=(aC,eval e2 X.env)::aN [Gy] X.env|>On)(e:aN [Gy] X.env=(aC,eval Gy X.env)::aN [] X.env|>On):Kr X [Mc,e2,Gy] [f1,f2,f3]:=Y4 a (XI b c d e) hs
def dy(a:JW X Mc f1:=by first | apply vo _ | apply Zj)(b:JW X e2 f2:=by first | apply vo _ | apply Zj)(c:JW X Gy f3:=by first | apply vo _ | apply Zj)(d:JW X e4 f4:=by first | apply vo _ | apply Zj)(hs:aN [Mc,e2,Gy,e4] X.env=(aC,eval Mc X.env)::aN [e2,Gy,e4] X.env|>On)(e:aN [e2,Gy,e4] X.env=(aC,eval e2 X.env)::aN [Gy,e4] X.env|>On)(g:aN [Gy,e4] X.env=(aC,eval Gy X.env)::aN [e4] X.env|>On)(f:aN [e4] X.env=(aC,eval e4 X.env)::aN [] X.env|>On):Kr X [Mc,e2,Gy,e4] [f1,f2,f3,f4]:=Y4 a (Wr b c d e g f) hs
def UR(C:AG X.prog X.w X.K X.mg X.base x ps (EV X.K D n) k)(d:Cm k' X.A)(i:Kr X (e::Gi) fs)(h:k<=k'|>Op)(f:Gl X x|>On)(g:la fs=n|>On)
  (a:(x==("__debug__" : bJ))=aC|>Op) (c:aN (e::Gi) X.env=(aC,eval e X.env)::aN Gi X.env|>On) (b:(ck pos (aN Gi X.env)).any (·.1)=aC|>On) :
  AU X (.Call (.Name x p) (e::Gi) [] pos) (AK D fs):=P' C (d.mono h) f i g a c b
def X3(C:AG X.prog X.w X.K X.mg X.base x ps (EV X.K D n) k)(d:Cm k' X.A)(i:Kr X (e::Gi) fs)(h:k<=k'|>Op)(f:Gl X x|>On)(g:la fs=n|>On)
  (a:(x==("__debug__" : bJ))=aC|>Op) (c:aN (e::Gi) X.env=(aC,eval e X.env)::aN Gi X.env|>On) (b:(ck pos (aN Gi X.env)).any (·.1)=aC|>On) :
  JW X (.Call (.Name x p) (e::Gi) [] pos) (AK D fs):=AU.ve (P' C (d.mono h) f i g a c b)
def vb{id:L_}{r:List V->Hp->Me->Prop}{g:List PV->Option PV}(j:Ie X (.builtin id) r)(k:Ir X.K r g)(l:X.mg x=aB)(i:Kr X (e::Gi) fs)(d:Gl X x|>On)(f:dj x=aA (.builtin id)|>Pi)(h:x≠"__name__"|>Op)(a:(x==("__debug__" : bJ))=aC|>Op)
  (c:aN (e::Gi) X.env=(aC,eval e X.env)::aN Gi X.env|>On) (b:(ck pos (aN Gi X.env)).any (·.1)=aC|>On):JW X (.Call (.Name x p) (e::Gi) [] pos) (AK g fs):=XX j k d l f i h a c b
def yn{id:L_}{r:List V->Hp->Me->Prop}{g:List PV->Option PV}(j:Ie X (.builtin id) r)(k:Bj X.K r g)(l:X.mg x=aB)(i:Kr X (e::Gi) fs)(d:Gl X x|>On)(f:dj x=aA (.builtin id)|>Pi)(h:x≠"__name__"|>Op)(a:(x==("__debug__" : bJ))=aC|>Op)
  (c:aN (e::Gi) X.env=(aC,eval e X.env)::aN Gi X.env|>On) (b:(ck pos (aN Gi X.env)).any (·.1)=aC|>On):AU X (.Call (.Name x p) (e::Gi) [] pos) (AK g fs):=Zae j k d l f i h a c b
def Sl(g:X.mg "len" = aB)(d:JW X e f:=by first | apply vo _ | apply Zj)(c:Gl X "len"|>On)(b:aN [e] X.env=(aC,eval e X.env)::aN [] X.env|>On)(a:(ck pos (aN [] X.env)).any (·.1)=aC|>On):JW X (.Call (.Name "len" p) [e] [] pos) (AK CD [f]):=
 XX tc Zkw c g (by decide +kernel) (YU d b) ∅ ∅ b a
def Yf(i:Nat)(d:X.N.Nodup)(a:AU X e fe)(b:X.N[i]?=aA x|>On)(f:Loc X.env.scope x:=by first | apply mY rfl | apply o8 rfl)(hs:gO e (aA (.Name x pos')) pos.line X.env=pure aC|>On)(c:X.fn x=aD\/X.env.scope.names.lookup x=aA .local:=by first | apply .inl rfl | apply .inr rfl | assumption) :
  MX X O [i] (.Assign [.Name x pos'] e pos) (Kg i fe):=Zk2 d b f a hs c
def UU(i:Nat)(c:X.N.Nodup)(a:X.N[i]?=aA x|>On)(d:Loc X.env.scope x:=by first | apply mY rfl | apply o8 rfl)(b:X.fn x=aD\/X.env.scope.names.lookup x=aA .local:=by first | apply .inl rfl | apply .inr rfl | assumption):CY X (.Name x pos) (IM i):=P7 c a d b
def Ol(i:Nat)(c:N.Nodup|>Pi)(a:N[i]?=aA x|>On)(d:Loc (MT X N scope cl C s H ex).env.scope x:=by apply mY rfl)(b:(MT X N scope cl C s H ex).env.scope.names.lookup x=aA .local|>On):CY (MT X N scope cl C s H ex) (.Name x pos) (IM i):=P7 c a d (.inr b)
end
section
variable {X:Cx} {Eu iter elt Mc e2:bT} {fi:XL} {T:lZ} {ft:XT} {fe f1 f2:XE} {p pos pos':g6} {O W:N6} {body:Cs} {fb:XS} {scope:jX}
def YO(a:La X Eu iter fi)(c:CY X Eu (Lj X.K T))(b:Lb X O W body fb)(e:pL (model X.prog X.w) X.A X.env X.Ar:=by apply gh)(d:X.calm=aD|>On)(f:(∀i∈T.slots,i∉O)|>Op)
  (hs:∀x,cw iter X.env x=pure x:=by ext _;rfl):MX X O (T.slots++W) (.For Eu iter body [] pos) (GZ O fi T fb):=Zk3 e d a c b f hs
def Wg(c:X.mg "range" = aB)(b:JW X Mc f1)(a:Gl X "range"|>On)(hs:aN [Mc] X.env=[(aC,eval Mc X.env)]|>On):La X Eu (.Call (.Name "range" p) [Mc] [] pos) (Ib [f1]):=pb a c (YU b (by rw[hs];rfl)) hs
def uK(e:X.mg "range" = aB)(d:JW X Mc f1)(b:JW X e2 f2)(c:Gl X "range"|>On)(hs:aN [Mc,e2] X.env=[(aC,eval Mc X.env),(aC,eval e2 X.env)]|>On)(a:aN [e2] X.env=[(aC,eval e2 X.env)]|>On):La X Eu (.Call (.Name "range" p) [Mc,e2] [] pos) (C3 [f1,f2]):=sh c e (XI d b (by rw[hs,a]) (by rw[a];rfl)) hs a
def ui(o:bJ)(fr:Gm)(a:N6)(b:La X (.Name o pos') iter fi)(c:∀{cl C s H ex},JW (MT X ([o]++fr) scope cl C s H ex) elt fe)(S:Fs X.N X.env.scope scope [o] fr a=aD:=by kernel_rfl)
  (e:([o]++fr).Nodup|>Pi) (d:∀cl C s H ex,Loc (MT X ([o]++fr) scope cl C s H ex).env.scope o:=by ext _ _ _ _ _;apply mY rfl) (f:∀cl C s H ex,(MT X ([o]++fr) scope cl C s H ex).env.scope.names.lookup o=aA .local:=by ext _ _ _ _ _;rfl) (g:X.calm=aD|>On) (hs:∀x,cw iter X.env x=pure x:=by ext _;rfl) :
  JW X (.ListComp elt [⟨.Name o pos',iter,[],0⟩] scope pos) (AS 1 a fi (.one 0) MV fe):=Vi [o] fr a g b S (λ_ _ _ _ _=>P7 (i:=0) e rfl (d _ _ _ _ _) (.inr (f _ _ _ _ _))) (λ_ _ _ _ _=>YR) (λ_ _ _ _ _=>c) (λi b=>by cases b with | head=>apply rp | tail _ h=>cases h) hs
def vcq(o:bJ)(fr:Gm)(a:N6)(b:La X (.Name o pos') iter fi)(c:∀{cl C s H ex},FA (MT X ([o]++fr) scope cl C s H ex) ifs ft)(d:∀{cl C s H ex},JW (MT X ([o]++fr) scope cl C s H ex) elt fe)(S:Fs X.N X.env.scope scope [o] fr a=aD:=by kernel_rfl)
  (f:([o]++fr).Nodup|>Pi) (e:∀cl C s H ex,Loc (MT X ([o]++fr) scope cl C s H ex).env.scope o:=by ext _ _ _ _ _;apply mY rfl) (g:∀cl C s H ex,(MT X ([o]++fr) scope cl C s H ex).env.scope.names.lookup o=aA .local:=by ext _ _ _ _ _;rfl) (j:X.calm=aD|>On) (hs:∀x,cw iter X.env x=pure x:=by ext _;rfl) :
  JW X (.ListComp elt [⟨.Name o pos',iter,ifs,0⟩] scope pos) (AS 1 a fi (.one 0) ft fe):=Vi [o] fr a j b S (λ_ _ _ _ _=>P7 (i:=0) f rfl (e _ _ _ _ _) (.inr (g _ _ _ _ _))) (λ_ _ _ _ _=>c) (λ_ _ _ _ _=>d) (λi b=>by cases b with | head=>apply rp | tail _ h=>cases h) hs
end
structure BX(P:bO)(w:bX)(K:aG)(mg:JM)(base:bp):Prop extends Blt mg
section
variable {K:aG} {P:bO} {w:bX} {mg:JM} {base:bp} {x a b c d e:bJ} {st:cD} {k m:Nat} {W:N6} {f:XS}
abbrev Zqa(P:bO)(w:bX)(K:aG)(mg:JM)(base:bp)(N:Gm)(x:bJ)(st:cD)(k:Nat)(O W:N6)(f:XS):Prop:=∀{fa:aP}{tX:aI}{A:bg}{outer:GB}{s:aR}{H:Hp}{E:Ml},N.Nodup->Cm k (A.deeper (j6 x (GV st) s.heap.objs.size fa tX))->Lb (Ip Mq P w K mg base N x (GV st) fa tX A outer s H E).EA O W (Kv st) f
abbrev Tc(_:BX P w K mg base)(x:bJ)(ps:Gm)(D:List PV->Option PV)(n k:Nat):Prop:=AG P w K mg base x ps (EV K D n) k
def lS{u:Gr}{n:Nat}(h:la u=n+1):∃a l,u=a::l/\l.length=n:=by
 cases u with
 | nil=>cases h
 | cons a l=>apply⟨a,l,rfl,Nat.succ.inj h⟩
def ek {ps:Gm} {n:Nat} (O:N6) (N:Gm) (D:Def K mg x st) (q:Zqa P w K mg base N x st k O W f) (S:Z2 N ps (GV st):=by apply uw) (a:∀(GS doc pm:aI)(an:Co)(tX Gq:aI)(us:Gr),us.length=la ps->jc (cf x x (M9 st) (Kv st) (GV st) .none GS doc pm an tX Gq) ⟨us,[]⟩=pure (ps.zip us):=by
  ext _ _ _ _ _ _ u h
  repeat (have g:=lS h;clear h;let⟨_,u,rfl,h⟩:=g)
  cases List.eq_nil_of_length_eq_zero h;rfl) (b:la ps=n|>On) (e:la N=m|>On) (c:(∀i∈O,n<=i)|>Op):AG P w K mg base x ps (EV K (CB m f) n) (k+1):=Zk5 m f D S a b e c λ_ _ _ _ _ _ _ d=>q S.nd d
variable {X:Cx} {Mc e2:bT} {f1 f2:XE} {pos:g6}
def it(b:JW X Mc f1:=by first | apply vo _ | apply Zj)(a:JW X e2 f2:=by first | apply vo _ | apply Zj)(hs:MI e2:=by apply λ_ _=>rfl):JW X (.Subscript Mc e2 pos) (Cy JZ f1 f2):=Zfp b a hs
def ad(b:JW X Mc f1:=by first | apply vo _ | apply Zj)(a:JW X e2 f2:=by first | apply vo _ | apply Zj):JW X (.BinOp Mc .Add e2 pos) (Cy YD f1 f2):=Zko b a
def md(b:JW X Mc f1:=by first | apply vo _ | apply Zj)(a:JW X e2 f2:=by first | apply vo _ | apply Zj):JW X (.BinOp Mc .Mod e2 pos) (Cy XG f1 f2):=Zkp b a
end
end _v
namespace _x
open PySem _l _v
def N3(K:aG)(C:aP)(n:bJ):Bool:=Ju.all λm=>match dm K bY m with
 | some (aA (.ref D))=>c9 K (.ref C) (.ref D)==aA (decide (m=n))
 | _=>aC
def qn_mk{K:aG}{h:bp}{mg:JM}{n:bJ}{C a:aP}(X:K.In h)(G:h.Ns bY mg)(q:dm K bY n=aA (aA (.ref C)))(b:dm K bY "PurseError" = aA (aA (.ref a)))
  (d:ip K C [.type "ValueError",.type "Exception",.type "BaseException",.type "object"] "ValueError.__new__" = aD) (l:eY K (.ref C) "__getattribute__" = aA (aA (.builtin "BaseException.__getattribute__"))) (o:eY K (.ref C) "__getattr__" = aA aB) (r:eY K (.ref C) "__class__" = aA (aA (.builtin "object.__class__"))) (j:mW K C (.type "object")=aA aD) (i:fF K C "BaseException" = aD) (f:fF K a "BaseException" = aD) (c:IZ K C a=aD) (k:N3 K C n=aD) (p:c9 K (.ref C) (.type "ValueError")=aA aD):QN n K mg C a:=
 ⟨q,k9 X G q,k9 X G b,d,⟨l,o,r,j,i⟩,f,c,λm g=>(by
  let:=bN.mp k m g;split at this
  ·rename_i D e;apply⟨D,k9 X G e,by simpa using this⟩
  ·cases this),p⟩
end _x
namespace _p
open PySem _l _v _x
section
variable {P:bO} {w:bX} {K:aG} {mg:JM} {base:bp}
variable (B:BX P w K mg base)
abbrev NH:=Tc B "_law_houses" ["_law_cell_here"] Jz 1 1
abbrev NI:=Tc B "_law_square" ["_law_times_here","_law_many"] LR 2 1
abbrev V1:=Tc B "ties_of" ["web"] Hm 1 1
abbrev LB:=Tc B "reduced" ["row","by","place","divisor"] LS 4 1
abbrev NJ:=Tc B "evened" ["rows"] Bt 1 2
abbrev Sx:=Tc B "determinant" ["square"] BZ 1 3
abbrev LC:=Tc B "ties_at" ["web","house"] BP 2 1
abbrev Hu:=Tc B "row_of" ["web","house","others"] Nn 3 2
abbrev We:=Tc B "square_without" ["web","base"] MH 2 3
abbrev Pb:=Tc B "square_of" ["web"] NG 1 4
abbrev Uz:=Tc B "tree_count" ["web"] B2 1 5
abbrev Tr:=Tc B "pieces_of" ["web","ties","grove"] Lx 3 1
abbrev RL:=Tc B "is_between" ["pieces","ends"] Jy 2 1
abbrev Jm:=Tc B "grown" ["web","ties","groves"] Jp 3 2
abbrev DM:=Tc B "trees" ["web","most"] IS 2 6
abbrev Pc:=Tc B "_law_changed" ["_law_tree","_law_way","_law_at","_law_number"] BN 4 1
abbrev NK:=Tc B "_law_cell" ["_law_script","_law_k"] M8 2 1
abbrev Pd:=Tc B "_law_renamed" ["_law_found","_law_cell_here","_law_many"] BO 3 1
abbrev Ts:=Tc B "_law_read_times" ["_law_rest","_law_many","_law_room","_law_most"] DF 4 1
abbrev NL:=Tc B "_law_times" ["_law_script","_law_at","_law_many"] Hz 3 2
abbrev V2:=Tc B "tie_to_look_at" ["ties","looked","fire"] BM 3 1
abbrev Hv:=Tc B "walked" ["web","base","burns"] BQ 3 2
abbrev SU:=Tc B "still_by" ["web","base","tree"] Hk 3 3
abbrev RM:=Tc B "_law_all_burn" ["_law_web","_law_purse","_law_base"] B1 3 1
abbrev Tt:=Tc B "_law_settled" ["_law_web","_law_purse","_law_base"] IY 3 2
abbrev QE:=Tc B "in_debt" ["purse","base"] Jj 2 1
abbrev LD:=Tc B "ties_to" ["web","house","others"] FT 3 1
abbrev UM:=Tc B "house_to_burn" ["web","purse","fire"] Hj 3 2
abbrev Jn:=Tc B "burnt" ["web","purse","base"] Nw 3 3
abbrev UA:=Tc B "is_settled" ["web","purse","base"] Lk 3 4
abbrev YC:=Tc B "refuse_unstill" ["web","base","purse"] Dl 3 5
abbrev Tu:=Tc B "solved_below" ["square","column"] Jw 2 3
abbrev LF:=Tc B "nearing" ["web","purse","base"] HC 3 4
abbrev Zcq:=Tc B "gain" ["web","script","house"] Nj 3 1
abbrev Zi7:=Tc B "run" ["web","purse","script"] IC 3 2
abbrev Pe:=Tc B "borrowing" ["web","houses"] B3 2 1
abbrev FR:=Tc B "plus" ["one","other"] Nk 2 1
abbrev DN:=Tc B "least" ["script"] MJ 1 1
abbrev Hw:=Tc B "settle" ["web","purse","base"] FV 3 5
abbrev QF:=Tc B "stilled" ["web","base","purse"] NQ 3 6
abbrev NM:=Tc B "joined" ["web","base","one","other"] Ny 4 7
abbrev LG:=Tc B "_law_whole" ["_law_thing"] FU 1 1
abbrev QG:=Tc B "_law_tuple" ["_law_found","_law_many"] ME 2 2
abbrev Pf:=Tc B "_law_is_tree" ["_law_web","_law_tree"] DG 2 3
abbrev QH:=Tc B "is_tree" ["web","numbers"] Fe 2 2
abbrev NN:=Tc B "still_of" ["web","base","tree"] JU 3 4
abbrev Hy:=Tc B "_law_told" ["_law_web","_law_base","_law_tree"] Bv 3 5
abbrev DO:=Tc B "minus" ["one","other"] Dq 2 1
abbrev Zcr:=Tc B "back" ["web","base","one"] HX 3 7
abbrev Pg:=Tc B "_law_refused" ["_law_web","_law_base","_law_one","_law_other","_law_alone"] He 5 8
end
section
variable {P:bO} {w:bX} {K:aG} {mg:JM} {base:bp} (B:BX P w K mg base)
def So:ND (["tie","house","seen","tree"]:Gm) (["tie","house","seen"]:Gm) DA:=⟨rfl,rfl,rfl,by decide +kernel,by decide +kernel,rfl,by decide +kernel,rfl,by decide +kernel,by decide +kernel⟩
def Zb(B:BX P w K mg base):DL P w K mg base 1 DA (λl ls=>HA (ls.map aA++[aA l])) 3:=
 Zln (k:=0) HA So (λ_ _ _ _ b f=>match b,f with | [_,_,_],_=>rfl) rfl (λg c e A a s H d=>(zR d.units (PR (pv 0)) (PR (pv 3))))
def Zg1(B:BX P w K mg base):∀L,(∃l ls r,NF L l ls=aA r)->DL P w K mg base 1 L (NF L) 3:=by
 intro L ⟨l,ls,r,h⟩;by_cases a:L=DA
 ·let q:NF L=λl ls=>HA (ls.map aA++[aA l]):=by funext l ls;delta NF;rw[An a]
  rw[q,a];apply Zb B
 delta NF at h;rw[N4 a] at h;cases h
abbrev NO:cD:=AR 63
def Zo(a:Def K mg "_law_houses" NO):NH B:=
 ek [] ["_law_cell_here"] a λc b=>
  (Zd (Yc (UJ b.units (md (XU (vo 0) Zj)) Zj) (Zf (Zq (JW.pure (ad Zj (md (XU (vo 0) Zj)))))) ZI)
  (Zf (Zq (JW.pure (ad Zj md)))))
abbrev NP:cD:=AR 65
def Z_(c:Def K mg "_law_square" NP):NI B:=
 ek [2] ["_law_times_here","_law_many","_law_rows","_law_one","_law_other"] c λa b=>
  (Zd (h8 (["_law_house"]:Gm) (["_law_many"]:Gm) [1] (i:=2) a rfl rfl rfl (Wg B.range (vo 1)) (by kernel_rfl) (λ_ _ _ _ _=>(Ol 0)) (λ_ _ _ _ _=>YR) (λ_ _ _ _ _=>(xB (XW YU) (vo 1))))
  (Zd (YH (Sh gh rfl (ZR (pv 0)) (Xi (n:=2) rfl (Zv (UU 3 a) (Zv (UU 4 a) Ys))) (Zd (Rr (zV (d_ (Q2 b) (vo 0) (Z4 XI)) (gI (yf mi (pv 2) (vo 3) (λ_ _=>rfl)) (vo 4) OD)))
  (Zf (Rr (zV (d_ (Q2 b) (vo 0) (Z4 XI)) (gI (yf mi (pv 2) (vo 4) (λ_ _=>rfl)) (vo 3) OD)))))))
  (Zf (Zq (JW.pure (ZW ZJ Yz rfl B.tuple (by decide +kernel) (YU (ui "_law_row" [] [] (Y5 (vo 2)) (ZW ZJ Yz rfl B.tuple (by decide +kernel) YU)))))))))
abbrev LH:cD:=AR 21
def wa(b:Def K mg "ties_of" LH):V1 B:=
 ek [1] ["web","ties","a","row","b"] b λa c=>
  (Zd (Yf 1 a (Wa YQ))
  (Zd (YO (Ui aC rfl B.enumerate YU) (Xi (n:=2) rfl (Zv (UU 2 a) (Zv (UU 3 a) Ys))) (Zf (YO (uK B.range ad (Sl B.len)) (UU 4 a) (Zf (lB (Xr (VB cF mh mj Xg (pv 1) (ZQ (Uk (["nth"]:Gm) (["a","b"]:Gm) [2,4] rfl (Wg B.range it) (by kernel_rfl) (λ_ _ _ _ _=>(Ol 0)) (λ_ _ _ _ _=>YR) (λ_ _ _ _ _=>(JW.pure (Z4 Wr)))) YN))))))))
  (Zf (Vj (pv 1)))))
abbrev LI:cD:=AR 32
def ys(a:Def K mg "reduced" LI):LB B:=
 ek [] ["row","by","place","divisor"] a λb c=>
  (Zf (Zq (JW.pure (ZW ZJ Yz rfl B.tuple (by decide +kernel) (YU (Vi (["number","other"]:Gm) (["divisor","by","place","row"]:Gm) [3,1,2,0] rfl (w_ aC aC rfl B.zip XI) (by kernel_rfl) (λ_ _ _ _ _=>(Xi (n:=2) rfl (Zv (Ol 0) (Zv (Ol 1) Ys)))) (λ_ _ _ _ _=>YR) (λ_ _ _ _ _=>(n7 (Xw (Vm it (vo 0)) (Vm it (vo 1))) (vo 2)))))))))
abbrev HD:cD:=AR 31
def xq(d:Def K mg "evened" HD)(a:LB B):NJ B:=
 ek [1] ["rows","left","divisor","place","by"] d λb c=>
  (Zd (Yf 1 b (Qo V9 OT rfl B.list (by decide +kernel) YU))
  (Zd (Yf 2 b (JW.pure Zj))
  (Zd (YO (Wg B.range (Sl B.len)) (UU 3 b) (Zd (Yf 4 b (JW.pure it))
  (Zd (h8 (["at","row"]:Gm) (["place","by","divisor"]:Gm) [3,4,2] (i:=1) b rfl rfl rfl (Ui aD rfl B.enumerate YU) (by kernel_rfl) (λ_ _ _ _ _=>(Xi (n:=2) rfl (Zv (Ol 0) (Zv (Ol 1) Ys)))) (λ_ _ _ _ _=>YR) (λ_ _ _ _ _=>(JW.pure (g_ (UJ c.units (vo 0) (vo 2)) (vo 1) (X3 a c dy)))))
  (Zf (Yf 2 b (JW.pure it))))))
  (Zf (Zbo (Zg (ZQ (vo 2) (ZQ (pv 1) YN))))))))
abbrev Sy:cD:=AR 30
def dP(b:Def K mg "determinant" Sy)(a:NJ B):Sx B:=
 ek [] ["square"] b λd c=>
  (Zf (Zq (JW.pure (it (X3 a c YU)))))
abbrev LJ:cD:=AR 20
def bE(a:Def K mg "ties_at" LJ):LC B:=
 ek [] ["web","house"] a λc b=>
  (Zf (Zq (JW.pure (vb (VD rfl) OU B.sum (YU it)))))
abbrev HE:cD:=AR 36
def tA(c:Def K mg "row_of" HE)(a:LC B):Hu B:=
 ek [] ["web","house","others"] c λd b=>
  (Zf (Zq (JW.pure (ZW ZJ Yz rfl B.tuple (by decide +kernel) (YU (ui "other" ["house","web"] [1,0] (Y5 (vo 2)) (g_ (UJ b.units (vo 0) (vo 1)) (X3 a b XI) (SG (it it)))))))))
abbrev V3:cD:=AR 35
def RN(d:Def K mg "square_without" V3)(a:Hu B):We B:=
 ek [] ["web","base","others"] d λc b=>
  (Zd (Yf 2 c (Uk (["house"]:Gm) (["base"]:Gm) [1] rfl (Wg B.range (Sl B.len)) (by kernel_rfl) (λ_ _ _ _ _=>(Ol 0)) (λ_ _ _ _ _=>(Od (Q4 b.units (vo 0) (vo 1)))) (λ_ _ _ _ _=>(JW.pure (vo 0)))))
  (Zf (Zq (JW.pure (ZW ZJ Yz rfl B.tuple (by decide +kernel) (YU (ui "house" ["web","others"] [0,2] (Y5 (vo 2)) (X3 a b Wr))))))))
abbrev Ph:cD:=AR 34
def Yi(b:Def K mg "square_of" Ph)(a:We B):Pb B:=
 ek [] ["web"] b λd c=>
  (Zf (Zq (UR a c XI)))
abbrev RO:cD:=AR 42
def sN(d:Def K mg "tree_count" RO)(a:Sx B)(b:Pb B):Uz B:=
 ek [] ["web"] d λe c=>
  (Zf (Zq (UR a c (YU (X3 b c YU)))))
abbrev Pj:cD:=AR 45
def Vx(b:Def K mg "pieces_of" Pj):Tr B:=
 ek [3] ["web","ties","grove","pieces","tie","ends","kept","gone"] b λa c=>
  (Zd (Yf 3 a (QP rfl rfl B.list rfl B.range (Sl B.len)))
  (Zd (YO (Qq (vo 2)) (UU 4 a) (Zd (Yf 5 a (JW.pure it))
  (Zd (Yf 6 a (JW.pure (it (vo 3) it)))
  (Zd (Yf 7 a (JW.pure (it (vo 3) it)))
  (Zf (h8 (["piece"]:Gm) (["kept","gone"]:Gm) [6,7] (i:=3) a rfl rfl rfl (Y5 (vo 3)) (by kernel_rfl) (λ_ _ _ _ _=>(Ol 0)) (λ_ _ _ _ _=>YR) (λ_ _ _ _ _=>(JW.pure (g_ (UJ c.units (vo 0) (vo 2)) (vo 1) (vo 0))))))))))
  (Zf (Vj (pv 3)))))
abbrev RP:cD:=AR 46
def XY(a:Def K mg "is_between" RP):RL B:=
 ek [] ["pieces","ends"] a λc b=>
  (Zf (Zq (JW.pure (Zn1 b.units (it (vo 0) it) (it (vo 0) it)))))
abbrev DP:cD:=AR 44
def Zcs(e:Def K mg "grown" DP)(b:Tr B)(a:RL B):Jm B:=
 ek [3] ["web","ties","groves","found","grove","pieces","behind"] e λc d=>
  (Zd (Yf 3 c (Wa YQ))
  (Zd (YO (Y5 (vo 2)) (UU 4 c) (Zd (Yf 5 c (UR b d Wr))
  (Zd (Yf 6 c (JW.pure (g_ (Sz (Sl B.len) Zj) (ad (it (vo 4) (SG Zj))) Zj)))
  (Zf (lB (Xr (VB cF mh mj Xg (pv 3) (ZQ (Uk (["tie"]:Gm) (["grove","pieces","ties"]:Gm) [4,5,1] rfl (uK B.range (vo 6) (Sl B.len)) (by kernel_rfl) (λ_ _ _ _ _=>(Ol 0)) (λ_ _ _ _ _=>(Od (Xj (X3 a d (XI (vo 2) it))))) (λ_ _ _ _ _=>(JW.pure (Yv Yt Yu (vo 1) (Z4 YU))))) YN))))))))
  (Zf (Vj (pv 3)))))
abbrev Om:cD:=AR 43
def z7:Z2 ["web","most","ties","groves","size"] ["web","most"] (GV Om):=uw
def Zct(h:IL K mg "trees" Om 300)(a:Uz B)(b:V1 B)(c:Jm B):Be P w K mg base "trees" (["web","most"]:Gm) (EV K IS 2) 6 300:=
 Wk (O:=[3]) (k:=5) 5 Jl h z7 (λ_ _ _ _ _ _ _ _ f g=>match f,g with | [_],_=>⟨_,rfl,rfl⟩) rfl rfl ∅ (λj i A e s H E d=>
  (Zd (Yc (Sz (X3 a d YU) (vo 1)) (Zf (U9 (W:=[]))) ZI)
  (Zd (Yf 2 z7.nd (UR b d YU))
  (Zd (Yf 3 z7.nd (Wa (Yy (JW.pure (Z4 Ue)) YQ)))
  (Zd (YO (uK B.range Zj (Sl B.len)) (UU 4 z7.nd) (Zf (Yf 3 z7.nd (UR c d Wr))))
  (Zf (Vj (pv 3))))))))
def q4(h:IL K mg "trees" Om 300)(a:Uz B)(b:V1 B)(c:Jm B):DM B:=
 _x.uC (O:=[3]) (k:=5) 5 Jl h z7 (λ_ _ _ _ _ _ _ _ f g=>match f,g with | [_,_],_=>⟨_,rfl,rfl⟩) rfl rfl ∅ (λj i A e s H E d=>
  (Zd (Yc (Sz (X3 a d YU) (vo 1)) (Zf (U9 (W:=[]))) ZI)
  (Zd (Yf 2 z7.nd (UR b d YU))
  (Zd (Yf 3 z7.nd (Wa (Yy (JW.pure (Z4 Ue)) YQ)))
  (Zd (YO (uK B.range Zj (Sl B.len)) (UU 4 z7.nd) (Zf (Yf 3 z7.nd (UR c d Wr))))
  (Zf (Vj (pv 3))))))))
abbrev Pk:cD:=AR 71
def Zx(b:Def K mg "_law_changed" Pk):Pc B:=
 ek [] ["_law_tree","_law_way","_law_at","_law_number"] b λc a=>
  (Zd (Yc (UJ a.units (vo 1) Zj) (Zf (Zq (JW.pure (Yv Yt Yu (YG (vo 0) Yo (Z3 (vo 2))) (YG (vo 0) (Z3 ad) Yo))))) ZI)
  (Zd (Yc (UJ a.units (vo 1) Zj) (Zf (Zq (JW.pure (Yv Yt Yu (Yv Yt Yu (YG (vo 0) Yo (Z3 (vo 2))) (YG (vo 0) (Z3 (vo 2)) (Z3 ad))) (YG (vo 0) (Z3 (vo 2)) Yo))))) ZI)
  (Zd (Yc (UJ a.units (vo 1) Zj) (Zf (Zq (JW.pure (Zgr (vo 0) (SG Zj))))) ZI)
  (Zd (Yc (UJ a.units (vo 1) Zj) (Zf (Zq (JW.pure (Yv Yt Yu (Yv Yt Yu (YG (vo 0) Yo (Z3 (vo 2))) (Z4 YU)) (YG (vo 0) (Z3 ad) Yo))))) ZI)
  (Zd (Yc (UJ a.units (vo 1) Zj) (Zf (Zq (JW.pure (Yv Yt Yu (Yv Yt Yu (YG (vo 0) Yo (Z3 (vo 2))) (Z4 (YU (Xw (vo 3) Zj)))) (YG (vo 0) (Z3 (vo 2)) Yo))))) ZI)
  (Zf (Zq (JW.pure (ZW ZJ Yz rfl B.tuple (by decide +kernel) (YU (AU.ve (yn Rx Q5 B.sorted (YU (Yv Yt Yu (vo 0) (Z4 YU)))))))))))))))
abbrev HF:cD:=AR 59
def tb(a:Def K mg "_law_cell" HF):NK B:=
 ek [] ["_law_script","_law_k"] a λc b=>
  (Zf (Zq (JW.pure (it (AU.ve (Of (sz (vo 0) (Z3 (vo 1)) (Z3 ad)) (XW YU))) Zj))))
abbrev Pl:cD:=AR 61
def uz(c:Def K mg "_law_renamed" Pl):Pd B:=
 ek [3,5] ["_law_found","_law_cell_here","_law_many","_law_names","_law_house","_law_told_here","_law_one","_law_other","_law_pair"] c λa b=>
  (Zd (Yf 3 a (Wa YQ))
  (Zd (YO (Wg B.range (vo 2)) (UU 4 a) (Zd (j' (Xr (VB cF mq mw Vh (pv 3) (ZQ (md (vo 1) ad) (ZQ (vo 4) YN)))))
  (Zf (Yf 1 a (JW.pure (XU (vo 1) ad))))))
  (Zd (Yf 5 a OS)
  (Zd (YH (Sh gh rfl (ZR (pv 0)) (Xi (n:=2) rfl (Zv (UU 6 a) (Zv (UU 7 a) Ys))) (Zd (Yf 8 a (JW.pure (Z4 (XI (vb (Qg rfl) Ub B.min (XI it it)) (vb (ro rfl) Zft B.max (XI it it))))))
  (Zf (Oe (P9 (Q2 b) (pv 5) (vo 8) (d_ (Q2 b) (vo 0) (Z4 XI)) rfl))))))
  (Zf (Vj (pv 5)))))))
abbrev Tv:cD:=AR 62
def P4(c:Def K mg "_law_read_times" Tv):Ts B:=
 ek [4,5] ["_law_rest","_law_many","_law_room","_law_most","_law_found","_law_met","_law_one","_law_other","_law_deep","_law_turn"] c λa b=>
  (Zd (Yf 4 a OS)
  (Zd (Yf 5 a (Wa (Yy (JW.pure Zj) YQ)))
  (Zd (YO (Wg B.range (vo 1)) (UU 6 a) (Zf (YO (uK B.range ad (vo 1)) (UU 7 a) (Zd (Yf 8 a (JW.pure (vb (Qg rfl) Ub B.min (XI (Zab md (ad Zj (md (XU (vo 0) Zj)))) (vo 2)))))
  (Zd (Yf 0 a (JW.pure (it (XW (XI (XU (vo 0) Zj) (XU (XU (vo 0) Zj) (vo 3)))) md)))
  (Zf (Yc (Sz (vo 8) Zj) (Zd (Oe (P9 (Q2 b) (pv 4) (Z4 XI) (vo 8) rfl))
  (Zf (Yf 2 a (JW.pure (Xw (vo 2) (vo 8)))))) ZI)))))))
  (Zd (YO (Wg B.range (vo 1)) (UU 9 a) (Zf (Zat (O':=[5]) (Sh gh rfl (ZR (pv 4)) (Xi (n:=2) rfl (Zv (UU 6 a) (Zv (UU 7 a) Ys))) (Zd (Yc (EL.vt (Ud (mv b.units (vo 6) (vo 5)) (WA (U6 b.units (vo 7) (vo 5))))) (Zf (Wb (Xr (VB cF da df X6 (pv 5) (ZQ (JW.pure (vo 7)) YN))))) ZI)
  (Zf (Yc (EL.vt (Ud (mv b.units (vo 7) (vo 5)) (WA (U6 b.units (vo 6) (vo 5))))) (Zf (Wb (Xr (VB cF da df X6 (pv 5) (ZQ (JW.pure (vo 6)) YN))))) ZI)))) ∅ (by ext j;simp;try omega))))
  (Zf (yI (yf mi (RB (ZQ Xh (ZQ (pv 4) YN))) (ZW TQ Ob rfl B.int (by decide +kernel) (YU (VJ b.units (Sl B.len) (vo 1)))) (λ_ _=>rfl))))))))
abbrev NR:cD:=AR 64
def uN(f:Def K mg "_law_times" NR)(b:NK B)(a:Ts B)(c:Pd B):NL B:=
 ek [5] ["_law_script","_law_at","_law_many","_law_first","_law_room","_law_found","_law_house","_law_cell_here","_law_deep","_law_k","_law_one","_law_other"] f λd e=>
  (Zd (Yf 3 d (UR b e XI))
  (Zd (Yf 4 d (JW.pure (it (XW (XI Zj ad)) (ZW TQ Ob rfl B.int (by decide +kernel) (YU (Zik (vo 2) Zj))))))
  (Zd (Yc (EL.vt (Ud (UJ e.units md Zj) (WA (Yl (X3 a e (dy (XU (vo 3) Zj))))))) (Zf (Zq (UR a e (dy (XU (vo 3) Zj))))) ZI)
  (Zd (Yf 5 d OS)
  (Zd (YO (uK B.range Zj (vo 2)) (UU 6 d) (Zd (Yf 7 d (UR b e (XI (vo 0) ad)))
  (Zd (Yf 8 d (JW.pure (vb (Qg rfl) Ub B.min (XI (it (XW (Y4 Zj dy)) (md (XU (vo 7) (vo 6)))) (Xw (vo 4) (Xw (Xw (vo 2) Zj) (vo 6)))))))
  (Zd (Oe (P9 (Q2 e) (pv 5) (Z4 (XI md)) (vo 8) rfl))
  (Zf (Yf 4 d (JW.pure (Xw (vo 4) (vo 8)))))))))
  (Zd (Yf 9 d (JW.pure (ad (vo 1) (it (XW XI) (ZW TQ Ob rfl B.int (by decide +kernel) (YU (Zik (vo 2) Zj)))))))
  (Zd (YO (Wg B.range (vo 2)) (UU 10 d) (Zf (YO (uK B.range ad (vo 2)) (UU 11 d) (Zd (Yf 8 d (JW.pure (it (XW (Y4 Zj dy)) (md (X3 b e XI)))))
  (Zd (Yf 9 d (JW.pure ad))
  (Zf (Yc (EL.vt (Ud (bk (Q2 e) (Z4 XI) (vo 5)) (WA (Zas RC Zie (g' _) (g' _) Zj (vo 8) (vo 4))))) (Zd (Oe (P9 (Q2 e) (pv 5) (Z4 XI) (vo 8) rfl))
  (Zf (Yf 4 d (JW.pure (Xw (vo 4) (vo 8)))))) ZI)))))))
  (Zf (Zq (UR c e (Wr (vo 5) (XU (X3 b e XI) Zj))))))))))))
abbrev V4:cD:=AR 50
def RQ(c:Def K mg "tie_to_look_at" V4):V2 B:=
 ek [] ["ties","looked","fire","tie","ends"] c λb a=>
  (Zd (YO (Ui aD rfl B.enumerate YU) (Xi (n:=2) rfl (Zv (UU 3 b) (Zv (UU 4 b) Ys))) (Zf (Yc (EL.vt (Ud (U6 a.units (vo 3) (vo 1)) (WA (Q4 a.units (zR a.units it (vo 2)) (zR a.units it (vo 2)))))) (Zf (Zq (JW.pure (vo 3)))) ZI)))
  (Zf (Zq (JW.pure OK))))
abbrev HH:cD:=AR 49
def ta(e:Def K mg "walked" HH)(b:V1 B)(a:V2 B):Hv B:=
 ek [4,5,6] ["web","base","burns","ties","fire","looked","burning","tie","house","seen"] e λc d=>
  (Zd (Yf 3 c (UR b d YU))
  (Zd (Yf 4 c (Wa (Yy (JW.pure (vo 1)) YQ)))
  (Zd (Yf 5 c (Wa YQ))
  (Zd (Yf 6 c (Wa YQ))
  (Zd (Yf 7 c (UR a d Wr))
  (Zd (O1 gh (Yl (vo 7)) (Zd (Wb (Xr (VB cF da df X6 (pv 5) (ZQ (JW.pure (vo 7)) YN))))
  (Zd (Yf 8 c (JW.pure (g_ (mv d.units (it it) (vo 4)) (it it) (it it))))
  (Zd (Yf 9 c (JW.pure (Sl B.len (vcq "other" ["house","ties"] [8,3] (Y5 (vo 5)) (Od (mv d.units (vo 1) (Y7 it Yo (Z3 Zj)))) (vo 0)))))
  (Zd (Yc (Zac (AU.ve (Zlo 2 rfl (mY rfl) (Zg1 B) (d.mono ∅) Wr))) (Zd (Wb (Xr (VB cF da df X6 (pv 4) (ZQ (JW.pure (vo 8)) YN))))
  (Zf (Wb (Xr (VB cF da df X6 (pv 6) (ZQ (JW.pure (Z4 Wr)) YN)))))) ZI)
  (Zf (Yf 7 c (UR a d Wr))))))))
  (Zf (Vj (pv 6)))))))))
abbrev NS:cD:=AR 52
def Sm(c:Def K mg "still_by" NS)(a:Hv B):SU B:=
 ek [3] ["web","base","tree","coins","burning","number","end","looked_at"] c λb d=>
  (Zd (Yf 3 b (xB (XW YU) (Sl B.len)))
  (Zd (Yf 4 b (Zcm (q:="still_by") (L:=DA) (i:=2) rfl rfl rfl a (d.mono ∅) rfl rfl rfl rfl (vo 0) (vo 1) (Option.some_ne_none _) rfl ∅ rfl rfl ⟨_,rfl,rfl⟩ rfl rfl rfl rfl))
  (Zd (YO (Y5 (vo 4)) (Xi (n:=3) rfl (Zv (UU 5 b) (Zv (UU 6 b) (Zv (UU 7 b) Ys)))) (Zf (Zam (zV (Xw (vo 7) Zj) (gI (pv 3) (vo 6) OD)))))
  (Zf (Zq (JW.pure (ZW ZJ Yz rfl B.tuple (by decide +kernel) YU)))))))
abbrev NT:cD:=AR 53
def z6:Z2 ["web","base","most"] ["web","base","most"] (GV NT):=uw
def TS(g:IL K mg "stills" NT 300)(a:SU B)(b:DM B):Be P w K mg base "stills" (["web","base","most"]:Gm) (EV K FI 3) 7 300:=
 Wk (O:=[]) (k:=6) 3 Hr g z6 (λ_ _ _ _ _ _ _ _ e f=>match e,f with | [_,_],_=>⟨_,rfl,rfl⟩) rfl rfl ∅ (λi h A c s H E d=>
  (Zf (Zq (yn Yr vT B.sorted (YU (ui "tree" ["web","base"] [0,1] (Y5 (X3 b d XI)) (X3 a d Wr)))))))
abbrev RS:cD:=AR 69
def wY(c:Def K mg "_law_all_burn" RS):RM B:=
 ek [3] ["_law_web","_law_purse","_law_base","_law_lit","_law_turn","_law_house","_law_near"] c λa b=>
  (Zd (Yf 3 a (Wa (Yy (JW.pure (vo 2)) YQ)))
  (Zd (YO (Wg B.range (Sl B.len)) (UU 4 a) (Zf (YO (Wg B.range (Sl B.len)) (UU 5 a) (Zd (Yf 6 a (JW.pure (vb (VD rfl) OU B.sum (YU (ui "_law_other" ["_law_web","_law_house"] [0,5] (Y5 (vo 3)) (it it))))))
  (Zf (Yc (EL.vt (Ud (U6 b.units (vo 5) (vo 3)) (WA (tC it (vo 6))))) (Zf (Wb (Xr (VB cF da df X6 (pv 3) (ZQ (JW.pure (vo 5)) YN))))) ZI))))))
  (Zf (Zq (JW.pure (VJ b.units (Sl B.len) (Sl B.len)))))))
abbrev Pn:cD:=AR 70
def ZH(c:Def K mg "_law_settled" Pn)(a:RM B):Tt B:=
 ek [] ["_law_web","_law_purse","_law_base","_law_rest"] c λb d=>
  (Zd (Yf 3 b (JW.pure (Yv Yt Yu (Y7 (vo 1) Yo (Z3 (vo 2))) (Y7 (vo 1) (Z3 ad) Yo))))
  (Zd (Yc (tC (Zgz rfl rfl B.min (by decide +kernel) (vo 3)) Zj) (Zf (Zq (JW.pure VF))) ZI)
  (Zf (Zq (UR a d Wr)))))
abbrev LK:cD:=AR 18
def vr(a:Def K mg "in_debt" LK):QE B:=
 ek [] ["purse","base"] a λc b=>
  (Zf (Zq (Uk (["house","coins"]:Gm) (["base"]:Gm) [1] rfl (Ui aC rfl B.enumerate YU) (by kernel_rfl) (λ_ _ _ _ _=>(Xi (n:=2) rfl (Zv (Ol 0) (Zv (Ol 1) Ys)))) (λ_ _ _ _ _=>(Od (EL.vt (Ud (Q4 b.units (vo 0) (vo 2)) (WA (tC (vo 1) Zj)))))) (λ_ _ _ _ _=>(JW.pure (vo 0))))))
abbrev LL:cD:=AR 16
def uT(a:Def K mg "ties_to" LL):LD B:=
 ek [] ["web","house","others"] a λc b=>
  (Zf (Zq (JW.pure (vb (VD rfl) OU B.sum (YU (ui "other" ["web","house"] [0,1] (Zn8 (vo 2)) (it it)))))))
abbrev UN:cD:=AR 15
def QI(d:Def K mg "house_to_burn" UN)(a:LD B):UM B:=
 ek [] ["web","purse","fire","house","coins"] d λb c=>
  (Zd (YO (Ui aC rfl B.enumerate YU) (Xi (n:=2) rfl (Zv (UU 3 b) (Zv (UU 4 b) Ys))) (Zf (Yc (EL.vt (Ud (U6 c.units (vo 3) (vo 2)) (WA (tC (vo 4) (X3 a c Wr))))) (Zf (Zq (JW.pure (vo 3)))) ZI)))
  (Zf (Zq (JW.pure OK))))
abbrev DQ:cD:=AR 14
def Zcu(d:Def K mg "burnt" DQ)(a:UM B):Jn B:=
 ek [3] ["web","purse","base","fire","house"] d λb c=>
  (Zd (Yf 3 b (Wa (Yy (JW.pure (vo 2)) YQ)))
  (Zd (Yf 4 b (UR a c Wr))
  (Zd (O1 gh (Yl (vo 4)) (Zd (Wb (Xr (VB cF da df X6 (pv 3) (ZQ (JW.pure (vo 4)) YN))))
  (Zf (Yf 4 b (UR a c Wr)))))
  (Zf (Vj (pv 3))))))
abbrev RT:cD:=AR 17
def XC(d:Def K mg "is_settled" RT)(b:Jn B)(a:QE B):UA B:=
 ek [] ["web","purse","base"] d λe c=>
  (Zf (Zq (JW.pure (U2 (VJ c.units (Sl B.len (X3 a c XI)) Zj) (ON (VJ c.units (Sl B.len (X3 b c Wr)) (Sl B.len)))))))
abbrev Xc:cD:=AR 56
def z4:Z2 ["web","base","purse"] ["web","base","purse"] (GV Xc):=uw
def RU(c:Def K mg "refuse_unstill" Xc)(a:UA B):YC B:=
 ek [] ["web","base","purse"] c λd b=>
  (Zf (Yc (EL.vt (OM (Q4 b.units it Zj) (SF (WV (Xj (X3 a b Wr)))))) (Zf (U9 (W:=[]))) ZI))
def SV{j f e:aP}(h:Def K mg "refuse_unstill" Xc)(Q:_x.Q9 K mg j f e)(a:UA B):_x.kx P w K mg base "refuse_unstill" (["web","base","purse"]:Gm) (_x.KA K My 3) 5:=
 _x.sF (O:=[]) (k:=4) 3 (GL (Ky (AO (Cy (J1 aD) (Cy JZ (Cw 2) (Cw 1)) (AL (.int 0)))) (Kt (AO (AK Lk [Cw 0,Cw 2,Cw 1])))) (Lz "NotSettled" (Cw 1) (Cw 2)) Nt) h z4 (λ_ _ _ _ _ _ d g=>match d,g with | [_,_,_],_=>rfl) rfl rfl ∅ (λl i A c s H E b=>
  (T7 (Zix (EL.vt (OM (Q4 b.units it Zj) (SF (WV (Xj (X3 a b Wr)))))) (T7 (zE F.excBase_ValueError Q.e.ex rfl Q.e.Fn Q.e.no rfl RA b (vo 1) (vo 2))) Zbz)))
abbrev Tw:cD:=AR 29
def P5(c:Def K mg "solved_below" Tw)(a:NJ B):Tu B:=
 ek [] ["square","column","told"] c λb d=>
  (Zd (Yf 2 b (UR a d (YU (Vi (["row","number"]:Gm) ([]:Gm) [] rfl (w_ aC aC rfl B.zip XI) (by kernel_rfl) (λ_ _ _ _ _=>(Xi (n:=2) rfl (Zv (Ol 0) (Zv (Ol 1) Ys)))) (λ_ _ _ _ _=>YR) (λ_ _ _ _ _=>(Yv Yt Yu (vo 0) (Z4 YU)))))))
  (Zf (Zq (Uk (["row"]:Gm) (["told"]:Gm) [2] rfl (Y5 it) (by kernel_rfl) (λ_ _ _ _ _=>(Ol 0)) (λ_ _ _ _ _=>YR) (λ_ _ _ _ _=>(JW.pure (n7 (it (vo 0) (SG Zj)) it)))))))
abbrev LM:cD:=AR 39
def bl(e:Def K mg "nearing" LM)(b:Tu B)(a:We B):LF B:=
 ek [4] ["web","purse","base","column","script"] e λc d=>
  (Zd (Yf 3 c (JW.pure (Yv Yt Yu (Y7 (vo 1) Yo (Z3 (vo 2))) (Y7 (vo 1) (Z3 ad) Yo))))
  (Zd (Yf 4 c (UR b d (XI (X3 a d XI))))
  (Zd (j' (Xr (VB cF mq mw Vh (pv 4) (ZQ (vo 2) (ZQ Zj YN)))))
  (Zf (Zq (JW.pure (ZW ZJ Yz rfl B.tuple (by decide +kernel) YU)))))))
abbrev Zcv:cD:=AR 24
def Zg2(a:Def K mg "gain" Zcv):Zcq B:=
 ek [] ["web","script","house"] a λb c=>
  (Zf (Zq (JW.pure (vb (VD rfl) OU B.sum (YU (Vi (["other","times"]:Gm) (["script","house"]:Gm) [1,2] rfl (Ui aC rfl B.enumerate (YU it)) (by kernel_rfl) (λ_ _ _ _ _=>(Xi (n:=2) rfl (Zv (Ol 0) (Zv (Ol 1) Ys)))) (λ_ _ _ _ _=>YR) (λ_ _ _ _ _=>(Zab (vo 1) (Xw it it)))))))))
abbrev Zi8:cD:=AR 23
def Zls(b:Def K mg "run" Zi8)(a:Zcq B):Zi7 B:=
 ek [] ["web","purse","script"] b λd c=>
  (Zf (Zq (JW.pure (ZW ZJ Yz rfl B.tuple (by decide +kernel) (YU (Vi (["house","coins"]:Gm) (["web","script"]:Gm) [0,2] rfl (Ui aC rfl B.enumerate YU) (by kernel_rfl) (λ_ _ _ _ _=>(Xi (n:=2) rfl (Zv (Ol 0) (Zv (Ol 1) Ys)))) (λ_ _ _ _ _=>YR) (λ_ _ _ _ _=>(ad (vo 1) (X3 a c Wr)))))))))
abbrev Po:cD:=AR 40
def Xe(a:Def K mg "borrowing" Po):Pe B:=
 ek [] ["web","houses"] a λc b=>
  (Zf (Zq (JW.pure (ZW ZJ Yz rfl B.tuple (by decide +kernel) (YU (ui "house" ["houses"] [1] (Wg B.range (Sl B.len)) (g_ (mv b.units (vo 0) (vo 1)) (SG Zj) Zj)))))))
abbrev Zcw:cD:=AR 26
def Zg3(a:Def K mg "plus" Zcw):FR B:=
 ek [] ["one","other"] a λb c=>
  (Zf (Zq (JW.pure (ZW ZJ Yz rfl B.tuple (by decide +kernel) (YU (Vi (["first","second"]:Gm) ([]:Gm) [] rfl (w_ aC aC rfl B.zip XI) (by kernel_rfl) (λ_ _ _ _ _=>(Xi (n:=2) rfl (Zv (Ol 0) (Zv (Ol 1) Ys)))) (λ_ _ _ _ _=>YR) (λ_ _ _ _ _=>ad)))))))
abbrev DR:cD:=AR 25
def Zcx(a:Def K mg "least" DR):DN B:=
 ek [] ["script","lowest"] a λb c=>
  (Zd (Yf 1 b (JW.pure (vb (TA rfl) Zf7 B.min YU)))
  (Zf (Zq (JW.pure (ZW ZJ Yz rfl B.tuple (by decide +kernel) (YU (ui "often" ["lowest"] [1] (Qq (vo 0)) (Xw (vo 0) (vo 1)))))))))
abbrev HJ:cD:=AR 38
def ct(j:Def K mg "settle" HJ)(c:LF B)(f:Zi7 B)(a:QE B)(b:Pe B)(g:FR B)(d:Jn B)(e:DN B):Hw B:=
 ek [] ["web","purse","base","script","near","indebted","step"] j λi h=>
  (Zd (Yf 3 i (UR c h Wr))
  (Zd (Yf 4 i (UR f h Wr))
  (Zd (Yf 5 i (UR a h XI))
  (Zd (O1 gh (Sz (Sl B.len) Zj) (Zd (Yf 6 i (UR b h XI))
  (Zd (Yf 3 i (UR g h XI))
  (Zd (Yf 4 i (UR f h Wr))
  (Zf (Yf 5 i (UR a h XI)))))))
  (Zf (Zq (Zku (Yy (UR e h YU) (Yy (JW.pure (vo 4)) (Yy (UR d h Wr) YQ))))))))))
abbrev LN:cD:=AR 57
def c8(c:Def K mg "stilled" LN)(a:Hw B):QF B:=
 ek [] ["web","base","purse","settled"] c λb d=>
  (Zd (Yf 3 b (JW.pure (it (X3 a d Wr))))
  (Zf (Zq (JW.pure (Yv Yt Yu (Yv Yt Yu (Y7 (vo 3) Yo (Z3 (vo 1))) (Z4 YU)) (Y7 (vo 3) (Z3 ad) Yo))))))
abbrev RV:cD:=AR 54
def z1:Z2 ["web","base","one","other"] ["web","base","one","other"] (GV RV):=uw
def rt(e:Def K mg "joined" RV)(a:YC B)(b:QF B)(c:FR B):NM B:=
 ek [] ["web","base","one","other"] e λf d=>
  (Zd (Q7 (X3 a d Wr))
  (Zd (Q7 (X3 a d Wr))
  (Zf (Zq (UR b d (Wr (vo 0) (vo 1) (X3 c d XI)))))))
def so{i j f:aP}(h:Def K mg "joined" RV)(Q:_x.Q9 K mg i j f)(a:YC B)(b:_x.kx P w K mg base "refuse_unstill" (["web","base","purse"]:Gm) (_x.KA K My 3) 5):_x.kx P w K mg base "joined" (["web","base","one","other"]:Gm) (_x.KA K Hf 4) 7:=
 _x.sF (O:=[]) (k:=6) 4 (M6 (E8 My [Cw 0,Cw 1,Cw 2]) (DE (AK Dl [Cw 0,Cw 1,Cw 2]))
  (M6 (E8 My [Cw 0,Cw 1,Cw 3]) (DE (AK Dl [Cw 0,Cw 1,Cw 3]))
  Nt)) h z1 (λ_ _ _ _ _ _ e g=>match e,g with | [_,_,_,_],_=>rfl) rfl rfl ∅ (λm l A d s H E c=>
  (RE (uq b (c.mono ∅) rfl Wr RA) (Q7 (X3 a c Wr))
  (RE (uq b (c.mono ∅) rfl Wr RA) (Q7 (X3 a c Wr))
  (T7 zM))))
abbrev LO:cD:=AR 60
def yD(a:Def K mg "_law_whole" LO):LG B:=
 ek [] ["_law_thing"] a λc b=>
  (Zf (Zq (JW.pure (U2 (vb U0 TK B.isinstance (XI (vo 0) (zS rfl B.int (by decide +kernel)))) (ON (Zks (vb U0 TK B.isinstance (XI (vo 0) (zS rfl B.bool (by decide +kernel))))))))))
abbrev LP:cD:=AR 67
def uZ(c:Def K mg "_law_tuple" LP)(a:LG B):QG B:=
 ek [] ["_law_found","_law_many"] c λd b=>
  (Zf (Zq (JW.pure (U2 (vb U0 TK B.isinstance (XI (vo 0) (zS rfl B.tuple (by decide +kernel)))) (U2 (VJ b.units (Sl B.len) (vo 1)) (ON (vb (ZE rfl) Zaf B.all (YU (ui "_law_number" [] [] (Qq (vo 0)) (X3 a b YU))))))))))
abbrev Pp:cD:=AR 68
def uk(d:Def K mg "_law_is_tree" Pp)(a:QG B):Pf B:=
 ek [] ["_law_web","_law_tree","_law_ties","_law_one","_law_other","_law_marks","_law_number","_law_gone"] d λb c=>
  (Zd (Yf 2 b (Wa YQ))
  (Zd (YO (Wg B.range (Sl B.len)) (UU 3 b) (Zf (YO (uK B.range ad (Sl B.len)) (UU 4 b) (Zf (Yf 2 b (Of (vo 2) (AU.ve (xB (XW (YU (Z4 XI))) (it it)))))))))
  (Zd (Yc (EL.vt (OM (WV (Xj (X3 a c (XI (vo 1) (Xw (Sl B.len) Zj))))) (SF (Q4 c.units (AU.ve (Qo V9 OT rfl B.list (by decide +kernel) YU)) (AU.ve (yn Rx Q5 B.sorted YU)))))) (Zf (Zq (JW.pure VF))) ZI)
  (Zd (Yf 5 b (Uk (["_law_house"]:Gm) ([]:Gm) [] rfl (Wg B.range (Sl B.len)) (by kernel_rfl) (λ_ _ _ _ _=>(Ol 0)) (λ_ _ _ _ _=>YR) (λ_ _ _ _ _=>(JW.pure (vo 0)))))
  (Zd (YO (Qq (vo 1)) (UU 6 b) (Zd (Yc (EL.vt (OM (tC (vo 6) Zj) (SF (Znw (vo 6) (Sl B.len))))) (Zf (Zq (JW.pure VF))) ZI)
  (Zd (Zfw (T:=(.many [3,4])) (zV it (Xi (n:=2) rfl (Zv (UU 3 b) (Zv (UU 4 b) Ys)))))
  (Zd (Yf 7 b (JW.pure it))
  (Zd (Yc (UJ c.units it (vo 7)) (Zf (Zq (JW.pure VF))) ZI)
  (Zf (Yf 5 b (Uk (["_law_mark"]:Gm) (["_law_marks","_law_one","_law_gone"]:Gm) [5,3,7] rfl (Y5 (vo 5)) (by kernel_rfl) (λ_ _ _ _ _=>(Ol 0)) (λ_ _ _ _ _=>YR) (λ_ _ _ _ _=>(JW.pure (it (XW (XI (vo 0) it)) (ZW TQ Ob rfl B.int (by decide +kernel) (YU (VJ c.units (vo 0) (vo 3)))))))))))))))
  (Zf (Zq (JW.pure VF))))))))
abbrev LQ:cD:=AR 47
def wc(e:Def K mg "is_tree" LQ)(b:V1 B)(a:Tr B):QH B:=
 ek [] ["web","numbers","ties"] e λd c=>
  (Zd (Yf 2 d (UR b c YU))
  (Zd (Yc (EL.vt (OM (Q4 c.units (Sl B.len) (Xw (Sl B.len) Zj)) (SF (WV (Xj (vb (ZE rfl) Zaf B.all (YU (ui "number" ["ties"] [2] (Qq (vo 1)) (Zar Zie RC (g' _) (g' _) Zj (vo 0) (Sl B.len)))))))))) (Zf (Zq (JW.pure VF))) ZI)
  (Zf (Zq (JW.pure (U2 (VJ c.units (AU.ve (Qo V9 OT rfl B.list (by decide +kernel) YU)) (AU.ve (EL.oq rfl rfl B.sorted rfl B.set (vo 1)))) (ON (VJ c.units (AU.ve (EL.tj rfl rfl B.len rfl B.set (X3 a c Wr))) Zj))))))))
abbrev UB:cD:=AR 51
def z5:Z2 ["web","base","tree"] ["web","base","tree"] (GV UB):=uw
def xc(d:Def K mg "still_of" UB)(b:QH B)(a:SU B):NN B:=
 ek [] ["web","base","tree"] d λe c=>
  (Zd (Yc (WV (Xj (X3 b c XI))) (Zf (U9 (W:=[]))) ZI)
  (Zf (Zq (UR a c Wr))))
def ZM{j f e:aP}(h:Def K mg "still_of" UB)(Q:_x.Q9 K mg j f e)(a:QH B):_x.kx P w K mg base "still_of" (["web","base","tree"]:Gm) (_x.KA K Lu 3) 4:=
 _x.sF (O:=[]) (k:=3) 3 (M6 (GL (Kt (AO (AK Fe [Cw 0,Cw 2]))) (Lp "NoTree" (Cw 2)) Nt) (EI (Kt (AO (AK Fe [Cw 0,Cw 2]))) Hb GX)
  Nt) h z5 (λ_ _ _ _ _ _ d g=>match d,g with | [_,_,_],_=>rfl) rfl rfl ∅ (λl i A c s H E b=>
  (RE (Zix (WV (Xj (X3 a b XI))) (T7 (ov F.excBase_ValueError Q.t.ex rfl Q.t.Fn Q.t.no rfl RA b (vo 2))) Zbz) (Yc (WV (Xj (X3 a b XI))) (Zf (U9 (W:=[]))) ZI)
  (T7 zM)))
abbrev NU:cD:=AR 66
def z2:Z2 ["_law_e","_law_found"] ["_law_e"] (GV NU):=uw
def nx(g:Def K mg "_law_kind" NU)(B:BX P w K mg base){i d c:aP}(Q:_x.Q9 K mg i d c):w4 P w K mg base "_law_kind" (["_law_e"]:Gm) (EV K Bh 1) 1:=
 Zgt (O:=[]) 2 Ht g z2 (λ_ _ _ _ _ _ b f=>match b,f with | [_],_=>rfl) rfl rfl ∅ (λj h A a s H E e=>
  (Zd (Yf 1 z2.nd (Wa (Yy (JW.pure (AU.ve (W3 Q rfl B.isinstance (vo 0) ∅ rfl))) (Yy (JW.pure (AU.ve (W3 Q rfl B.isinstance (vo 0) ∅ rfl))) (Yy (JW.pure (AU.ve (W3 Q rfl B.isinstance (vo 0) ∅ rfl))) (Yy (JW.pure (AU.ve (W3 Q rfl B.isinstance (vo 0) ∅ rfl))) YQ))))))
  (Zd (Yf 1 z2.nd (Of (vo 1) (XW (Wr (AU.ve (W3 Q rfl B.isinstance (vo 0) ∅ rfl)) (AU.ve (W3 Q rfl B.isinstance (vo 0) ∅ rfl)) (AU.ve (W3 Q rfl B.isinstance (vo 0) ∅ rfl))))))
  (Zd (Yf 1 z2.nd (Of (vo 1) (XW (dy (AU.ve (W3 Q rfl B.isinstance (vo 0) ∅ rfl)) (AU.ve (W3 Q rfl B.isinstance (vo 0) ∅ rfl)) (AU.ve (W3 Q rfl B.isinstance (vo 0) ∅ rfl)) (AU.ve (W3 Q rfl B.isinstance (vo 0) ∅ rfl))))))
  (Zd (Yc (EL.vt (OM (WV (Xj (AU.ve (Zgv Q rfl B.isinstance (vo 0) rfl B.ValueError)))) (SF (Q4 e.units (hl (vo 1) VF) Zj)))) (Zf (Zq (JW.pure (SG Zj)))) ZI)
  (Zf (Zq (JW.pure (oL (vo 1) VF)))))))))
abbrev HL:cD:=AR 72
def fp(l:Def K mg "_law_told" HL)(f:w4 P w K mg base "_law_kind" (["_law_e"]:Gm) (EV K Bh 1) 1)(c:NN B)(b:Pf B)(a:Tt B)(e:QG B){k j i:aP}(Q:_x.Q9 K mg k j i)(d:_x.kx P w K mg base "still_of" (["web","base","tree"]:Gm) (_x.KA K Lu 3) 4):Hy B:=
 ek [] ["_law_web","_law_base","_law_tree","_law_found","_law_kind_here","_law_e"] l λh g=>
  (Zd (Yf 3 h (JW.pure OK))
  (Zd (Yf 4 h (JW.pure OK))
  (Zd (Zi0 (Zcf Q d Px (g.mono ∅) rfl Wr rfl rfl rfl h rfl rfl rfl (λ_=>(Zf (Yf 4 h (PO f (zJ g ∅) rfl YU)))) ∅) (Uw (Zf (Yf 3 h (UR c g Wr)))))
  (Zd (Yc (Xj (X3 b g XI)) (Zf (Zq (JW.pure (U2 (Zkt (vo 4)) (U2 (X3 e g (XI (vo 3) (Sl B.len))) (U2 (VJ g.units it Zj) (ON (X3 a g Wr)))))))) ZI)
  (Zf (Zq (JW.pure (VJ g.units (vo 4) Zj))))))))
abbrev DS:cD:=AR 27
def Zcy(a:Def K mg "minus" DS):DO B:=
 ek [] ["one","other"] a λb c=>
  (Zf (Zq (JW.pure (ZW ZJ Yz rfl B.tuple (by decide +kernel) (YU (Vi (["first","second"]:Gm) ([]:Gm) [] rfl (w_ aC aC rfl B.zip XI) (by kernel_rfl) (λ_ _ _ _ _=>(Xi (n:=2) rfl (Zv (Ol 0) (Zv (Ol 1) Ys)))) (λ_ _ _ _ _=>YR) (λ_ _ _ _ _=>(Xw (vo 0) (vo 1)))))))))
abbrev Jx:cD:=AR 55
def z0:Z2 ["web","base","one"] ["web","base","one"] (GV Jx):=uw
def Zg4(e:Def K mg "back" Jx)(a:YC B)(b:QF B)(c:DO B):Zcr B:=
 ek [] ["web","base","one"] e λf d=>
  (Zd (Q7 (X3 a d Wr))
  (Zf (Zq (UR b d (Wr (vo 0) (vo 1) (X3 c d (XI (Yv Z7 ZG (Z4 YU) (Sl B.len)))))))))
def Zcz{i j f:aP}(h:Def K mg "back" Jx)(Q:_x.Q9 K mg i j f)(a:YC B)(b:_x.kx P w K mg base "refuse_unstill" (["web","base","purse"]:Gm) (_x.KA K My 3) 5):_x.kx P w K mg base "back" (["web","base","one"]:Gm) (_x.KA K Jg 3) 7:=
 _x.sF (O:=[]) (k:=6) 3 (M6 (E8 My [Cw 0,Cw 1,Cw 2]) (DE (AK Dl [Cw 0,Cw 1,Cw 2]))
  Nt) h z0 (λ_ _ _ _ _ _ e g=>match e,g with | [_,_,_],_=>rfl) rfl rfl ∅ (λm l A c s H E d=>
  (RE (uq b (d.mono ∅) rfl Wr RA) (Q7 (X3 a d Wr))
  (T7 zM)))
abbrev Pq:cD:=AR 73
def Yh(j:Def K mg "_law_refused" Pq)(a:w4 P w K mg base "_law_kind" (["_law_e"]:Gm) (EV K Bh 1) 1)(d:Zcr B)(c:NM B){k h i:aP}(Q:_x.Q9 K mg k h i)(e:_x.kx P w K mg base "back" (["web","base","one"]:Gm) (_x.KA K Jg 3) 7)(b:_x.kx P w K mg base "joined" (["web","base","one","other"]:Gm) (_x.KA K Hf 4) 7):Pg B:=
 ek [] ["_law_web","_law_base","_law_one","_law_other","_law_alone","_law_kind_here","_law_e"] j (λg f=>
  (Zd (Yf 5 g (JW.pure OK))
  (Zd (Zi0 (Zn5 (Zn6 (Xj (vo 4)) (Vn Q e q5 (f.mono ∅) rfl Wr rfl rfl rfl g rfl rfl rfl (λ_=>(Zf (Yf 5 g (PO a (zJ f ∅) rfl YU)))) ∅) (Vn Q b xy (f.mono ∅) rfl dy rfl rfl rfl g rfl rfl rfl (λ_=>(Zf (Yf 5 g (PO a (zJ f ∅) rfl YU)))) ∅))) (Uw (Zf (Yc (Xj (vo 4)) (Zf (Q7 (X3 d f Wr))) (Zf (Q7 (X3 c f dy)))))))
  (Zf (Zq (JW.pure (VJ f.units (vo 5) Zj)))))))
abbrev zL:cD:=AR 74
def z3:Z2 ["_law_script","_law_many","_law_web","_law_base","_law_some","_law_tree","_law_at","_law_spoilt","_law_good","_law_house","_law_cell_here","_law_coins","_law_purse","_law_pair"] ["_law_script"] (GV zL):=uw
def Zlt{p:aP}{o:gj}(q:uG K "law" "law" zL p o)(i:NH B)(a:NK B)(j:NI B)(h:NL B)(m:Be P w K mg base "trees" (["web","most"]:Gm) (EV K IS 2) 6 300)(e:Pc B)(d:Hy B)(l:Be P w K mg base "stills" (["web","base","most"]:Gm) (EV K FI 3) 7 300)(g:Tt B)(c:NM B)(f:Pg B):S7 P w K mg base Mq 9 p o (["_law_script"]:Gm) (EV K D_law 1):=
 Zk6 (O:=[]) (k:=8) 14 DY q z3 rfl rfl ∅ (λt r A n s H E b=>
  (Zd (Yf 1 z3.nd (UR i b (YU (X3 a b XI))))
  (Zd (Yf 2 z3.nd (UR j b (XI (X3 h b Wr))))
  (Zd (Yf 3 z3.nd (JW.pure (md (X3 a b XI))))
  (Zd (Yf 4 z3.nd (WE m (b.mono ∅) rfl YU))
  (Zd (Yf 5 z3.nd (JW.pure (it (vo 4) (md (X3 a b XI) (Sl B.len)))))
  (Zd (Yf 6 z3.nd (JW.pure (md (X3 a b XI))))
  (Zd (Yf 7 z3.nd (UR e b (dy (vo 5) (md (X3 a b XI)) (vo 6) (md (X3 a b XI)))))
  (Zd (Yc (EL.vt (OM (WV (Xj (X3 d b Wr))) (SF (WV (Xj (X3 d b Wr)))))) (Zf (Zq (JW.pure VF))) ZI)
  (Zd (Yf 8 z3.nd (JW.pure (it (AU.ve (WE l (b.mono ∅) rfl XI)) (md (X3 a b XI) (Sl B.len)))))
  (Zd (Yf 9 z3.nd (JW.pure (md (X3 a b XI))))
  (Zd (Yf 10 z3.nd (UR a b XI))
  (Zd (Yf 11 z3.nd (JW.pure (it (XW (dy (SG Zj) (vb (VD rfl) OU B.sum (YU it)) (ad Zj (md (vo 10) (Zkq Zj Zj))) (Xw Zj md))) (md (X3 a b XI)))))
  (Zd (Yf 12 z3.nd (JW.pure (Yv Yt Yu (Yv Yt Yu (Y7 (vo 8) Yo (Z3 (vo 9))) (Z4 YU)) (Y7 (vo 8) (Z3 ad) Yo))))
  (Zd (Yc (EL.vt (Ud (UJ b.units it Zj) (WA (Xj (X3 g b Wr))))) (Zf (Zq (JW.pure (VJ b.units (X3 c b (dy (vo 2) (vo 3) (vo 12) (Yv Z7 ZG (Z4 YU) (vo 1)))) (vo 12))))) ZI)
  (Zd (YO (Y5 (XW (Wr (Z4 (Wr (vo 12) (vo 8) VF)) (Z4 (Wr (vo 8) (vo 12) VF)) (Z4 (Wr (vo 12) (vo 8) VF))))) (UU 13 z3.nd) (Zf (Yc (WV (Xj (X3 f b (Y4 (vo 2) (dy (vo 3) it it it))))) (Zf (Zq (JW.pure VF))) ZI)))
  (Zf (Zq (JW.pure (VJ b.units (X3 c b (dy (vo 2) (vo 3) (vo 8) (Yv Z7 ZG (Z4 YU) (vo 1)))) (vo 8)))))))))))))))))))))
end
end _p
namespace _p
open PySem _l _v
def EF(l:N6):List Int:=l.map λ(i:Nat)=>(i:Int)
def Zqb{f g:XS}{s s1:ZK}(a:f s=aA (.L4 s1)):GP f g s=g s1:=by dsimp[yb,a,aZ]
def TP{f g:XS}{s:ZK}{v:PV}(a:f s=aA (.Cj v)):GP f g s=aA (.Cj v):=by rw[yb,a];rfl
section
variable {s:ZK} {f g:XE} {a b:Int} {C:L1} [∀i j,Decidable (C i j)] {op:M_}
def vC(d:f s=aA (.int a))(e:g s=aA (.int b))(c:C a b):Cy (A9 C op) f g s=aA (.int (op a b)):=by rw[Og,d,e];dsimp[aZ,Zk7,An c]
def vI(c:f s=aA (.int a))(d:g s=aA (.int b)):Cy (Bm op) f g s=aA (.int (op a b)):=by rw[Og,c,d];rfl
def vP(b:f s=aA (.int a)):AN f s=aA (.int a):=by rw[Zav,b];rfl
def w6{v:PV}(a:f s=aA v):AQ f s=aA (.Cj v):=by rw[Za0,a];rfl
end
def Zlu(l:Gj)(k:Nat)(x:Int):(iL l).take k++PV.int x::(iL l).drop k=iL (l.take k++x::l.drop k):=⋯
section
variable {f g h k l:XE} {s s1:ZK} {a b c d e v r:PV} {i m:Nat} {F G:XS} {x y:XT} {o:Option Out} {p:Bool} {D:List PV->Option PV} {R:Option PV} {ls:List PV}
def XQ(q:F (MQ m ls)=aA (.Cj v)):CB m F ls=aA v:=by change(F (MQ m ls)).bind MB=_;rw[q];rfl
def sq(q:F s=aA (.L4 s1))(w:G s1=o):GP F G s=o:=(Zqb q).trans w
def Zh(q:f s=aA v):Kg i f s=aA (.L4 (s.set i (aA v))):=by rw[Za1,q];rfl
def ep(q:f s=aA v)(w:MS v=aD|>On):AN f s=aA v:=by rw[Zav,q,aZ,An w]
def PJ{l:Gj}(q:f s=aA (pP l)):AN f s=aA (pP l):=ep q (Y3 _)
def c1(q:f s=aA a)(w:D [a]=R):AK D [f] s=R:=by change((f s).bind λx=>aA [x]).bind D=_;rw[q];apply w
def c2(q:f s=aA a)(c:g s=aA b)(w:D [a,b]=R):AK D [f,g] s=R:=by rw[Wc,Zt,q,Zt,c];apply w
def c3(q:f s=aA a)(d:g s=aA b)(e:h s=aA c)(w:D [a,b,c]=R):AK D [f,g,h] s=R:=by rw[Wc,Zt,q,Zt,d,Zt,e];apply w
def c4(q:f s=aA a)(i:g s=aA b)(j:h s=aA c)(e:k s=aA d)(w:D [a,b,c,d]=R):AK D [f,g,h,k] s=R:=by rw[Wc,Zt,q,Zt,i,Zt,j,Zt,e];apply w
def c5(q:f s=aA a)(j:g s=aA b)(n:h s=aA c)(i:k s=aA d)(m:l s=aA e)(w:D [a,b,c,d,e]=R):AK D [f,g,h,k,l] s=R:=by rw[Wc,Zt,q,Zt,j,Zt,n,Zt,i,Zt,m];apply w
def o2{c:PV->PV->Option PV}(q:f s=aA a)(d:g s=aA b)(w:c a b=R):Cy c f g s=R:=by rw[Og,q,d];apply w
def xb(q:f s=aA (.Ap p)):AO f s=aA p:=by rw[Zk8,q];rfl
def xn(q:x s=aA p):Kt x s=aA !p:=by rw[Zax,q];rfl
def xo{p2:Bool}(q:x s=aA p)(a:y s=aA p2):Ky x y s=aA (p || p2):=by
 rw[Zf1,q];cases p
 ·apply a
 ·rfl
def ea{p2:Bool}(q:f s=aA (.Ap p))(a:g s=aA (.Ap p2)):Fp f g s=aA (.Ap (p&&p2)):=by
 rw[Zay,xb q];cases p
 ·rfl
 ·apply a
def kV(q:x s=aA aC):EI x F GX s=aA (.L4 s):=by rw[TZ,q];rfl
def ret(q:f s=aA v):AQ f s=aA (.Cj v):=w6 q
def X'{l:Gj}(q:f s=aA (pP l))(a:g s=aA (pP l)):Cy (J1 aC) f g s=aA (.Ap aD):=o2 q a ⋯
end
def Zlv{c:XT}{fb:XS}(g:Nat->ZK->Prop)(step:∀k st,g k st->c st=aA aC\/(c st=aA aD/\∃s2 k',fb st=aA (.L4 s2)/\k'<k/\g k' s2)){k:Nat}{s:ZK}(o:g k s) :
  ∃f k',K9 c fb s=aA (.L4 f)/\g k' f/\c f=aA aC:=by
 let j:∀(n k:Nat)(st:ZK),k<n->g k st->∃f k',C2 c fb n st=aA (.L4 f)/\g k' f/\c f=aA aC:=by
  ext n
  induction n with
  | zero=>ext k st h;lia
  | succ n N8=>
   ext k st q m;rcases step k st m with i | ⟨i,s2,k',e,p,l⟩
   ·apply⟨st,k,by delta C2;rw[i];rfl,m,i⟩
   ·let⟨f,k2,a,b,d⟩:=N8 k' s2 () l;show⟨f,k2,?_,b,d⟩;delta C2;rw[i];dsimp[e];apply a
 let⟨f,k',a,b,d⟩:=j (k+1) k s () o;apply⟨f,k',kr a,b,d⟩
def YT{d:Type}{T:lZ}{fb:XS}{q g:d->PV}{c:d->Bool}(S:ZK->Prop):∀{ls:List d}{s:ZK},(∀a∈ls,∀s,S s->∃s1,CS T (q a) s=aA s1/\((c a=aD->fb s1=aA (.Cj (g a)))/\(c a=aC->∃s2,fb s1=aA (.L4 s2)/\S s2)))->S s->
  match ls.find? c with | some a=>Mx T fb (ls.map q) s=aA (.Cj (g a)) | none=>∃Aq,Mx T fb (ls.map q) s=aA (.L4 Aq)/\S Aq
 | [],s,_,h0=>⟨s,rfl,h0⟩
 | a::r,s,h,h0=>by
  let⟨s1,f,i,j⟩:=h a ar s h0;rw[i9]
  cases ca:c a with
  | true=>
   change Mx T fb (q a::r.map q) s=_;delta Mx;rw[f];dsimp[aZ,i ca]
  | false=>
   let⟨s2,n,m⟩:=j ca;let k:=YT S (ls:=r) (s:=s2) (λb l=>h b (aS _ l)) m
   let e:Mx T fb ((a::r).map q) s=Mx T fb (r.map q) s2:=by
    change Mx T fb (q a::r.map q) s=_;delta Mx;rw[f];dsimp[aZ,n];cases r.map q<;>rfl
   rw[e];apply k
def J4(F:XS)(s:ZK)(Q:PV->Prop):Prop:=∃v,F s=aA (.Cj v)/\Q v
def Kp(F:XS)(s:ZK)(R:ZK->Prop):Prop:=∃s1,F s=aA (.L4 s1)/\R s1
section
variable {F G:XS} {s s1:ZK} {Q:PV->Prop} {R:ZK->Prop} {v:PV} {f g:XE} {x:XT} {p:Bool} {m i k n:Nat} {ls:List PV} {O:N6} {fi:XL} {T:lZ} {fb:XS} {a b:Int}
def RW(h:J4 F (MQ m ls) Q):∃v,CB m F ls=aA v/\Q v:=by let⟨v,e,q⟩:=h;apply⟨v,XQ e,q⟩
def XB(h:J4 F (MQ m ls) λw=>w=v):CB m F ls=aA v:=by let⟨_,e,rfl⟩:=RW h;apply e
def Zr(q:F s=aA (.L4 s1))(h:J4 G s1 Q):J4 (GP F G) s Q:=by let⟨v,e,a⟩:=h;apply⟨v,sq q e,a⟩
def Wm(h:Kp F s R)(a:∀s1,R s1->J4 G s1 Q):J4 (GP F G) s Q:=by let⟨s1,e,r⟩:=h;apply Zr e (a s1 r)
def Yd(q:f s=aA v)(h:Q v):J4 (AQ f) s Q:=⟨v,ret q,h⟩
def ZF(q:x s=aA aD)(h:J4 F s Q):J4 (GP (EI x F GX) G) s Q:=by let⟨v,e,a⟩:=h;apply⟨v,TP (by rw[TZ,q];apply e),a⟩
def n5(q:F s=aA (.L4 s1))(h:R s1):Kp F s R:=⟨s1,q,h⟩
def YS(q:F s=aA (.L4 s1))(h:Kp G s1 R):Kp (GP F G) s R:=by let⟨s2,e,r⟩:=h;apply⟨s2,sq q e,r⟩
def Zi9{JO:ZK->Prop}(h:Kp F s R)(a:∀s1,R s1->Kp G s1 JO):Kp (GP F G) s JO:=by let⟨s1,e,r⟩:=h;apply YS e (a s1 r)
def WH{JO:ZK->Prop}(h:Kp F s R)(a:∀s1,R s1->JO s1):Kp F s JO:=by let⟨s1,e,r⟩:=h;apply⟨s1,e,a s1 r⟩
def xm(q:x s=aA p)(a:p=aD->Kp F s R)(b:p=aC->Kp G s R):Kp (EI x F G) s R:=by
 delta Kp;rw[TZ,q];cases p
 ·apply b rfl
 ·apply a rfl
def QJ(I:Nat->ZK->Prop)(a:fi (IA O s)=aA ls)(b:I 0 s)(st:∀i l s,ls[i]?=aA l->I i s->∃s1,CS T l s=aA s1/\Kp fb s1 (I (i+1))):Kp (GZ O fi T fb) s (I (la ls)):=by
 let⟨d,e,q⟩:=U8 I b λi l s j h=>by let⟨s1,c,s2,g,f⟩:=st i l s j h;apply⟨s1,s2,c,g,f⟩
 show⟨d,?_,q⟩;delta GZ;rw[a];apply e
def Pr(I:Nat->ZK->Prop)(d:f (IA O s)=aA (.int (n:Int)))(b:I 0 s)(st:∀i s,i<n->I i s->Kp fb (s.set k (aA (.int (i:Int)))) (I (i+1)))(c:n<=10000:=by lia):Kp (GZ O (Ib [f]) (.one k) fb) s (I n):=by
 let:=QJ (T:=.one k) I (WL d c) b λi l s e h=>by let⟨a,rfl⟩:=Zbc e;apply⟨_,rfl,st i s a h⟩
 rwa [Zbd] at this
def hX(I:Nat->ZK->Prop)(j:f (IA O s)=aA (.int (m:Int)))(c:g (IA O s)=aA (.int (n:Int)))(a:I m s)(st:∀i s,m<=i->i<n->I i s->Kp fb (s.set k (aA (.int (i:Int)))) (I (i+1)))(b:m<=n:=by lia)(p:n<=10000:=by lia):Kp (GZ O (C3 [f,g]) (.one k) fb) s (I n):=by
 let e:((n:Int)-(m:Int)).toNat=n-m:=()
 let:=QJ (T:=.one k) (λi=>I (m+i)) (Qv j c () ()) a λi l s d h=>by let⟨o,rfl⟩:=YJ d;apply⟨_,rfl,st (m+i) s () () h⟩
 rwa [T4,e,show m+(n-m)=n by lia] at this
def Zg5{d:Type}{L:List d}{q g:d->PV}(c:d->Bool)(I:ZK->Prop)(f:fi (IA O s)=aA (L.map q))(j:I s)(st:∀a∈L,∀s,I s->∃s1,CS T (q a) s=aA s1/\(c a=aD->fb s1=aA (.Cj (g a)))/\(c a=aC->Kp fb s1 I))(hs:∀a,L.find? c=aA a->Q (g a))(l:L.find? c=aB->∀s1,I s1->J4 G s1 Q):J4 (GP (GZ O fi T fb) G) s Q:=by
 let b:=YT I st j;let e:∀o,Mx T fb (L.map q) s=o->GZ O fi T fb s=o:=λo h=>by delta GZ;rw[f];apply h
 cases z:L.find? c with
 | some a=>rw[z] at b;apply⟨_,TP (e _ b),hs a z⟩
 | none=>
  rw[z] at b;let⟨s1,k,i⟩:=b;apply Zr (e _ k) (l z s1 i)
def wC{o:Option Out}(q:x s=aA aD)(w:F s=o):EI x F G s=o:=by rw[TZ,q];apply w
def Zja{b:Type}{L:List b}{q g:b->PV}{H:XS}(c:b->Bool)(I:ZK->Prop)(l:fi (IA O s)=aA (L.map q))(n:I s)(st:∀a∈L,∀s,I s->∃s1,CS T (q a) s=aA s1/\x s1=aA (c a)/\H s1=aA (.Cj (g a))/\I s1)(hs:∀a,L.find? c=aA a->Q (g a))(j:L.find? c=aB->∀s1,I s1->J4 G s1 Q):J4 (GP (GZ O fi T (EI x H GX)) G) s Q:=
 Zg5 c I l n (λa m s i=>by
  let⟨s1,e,d,k,f⟩:=st a m s i;apply⟨s1,e,λh=>wC (by rw[d,h]) k,λh=>n5 (kV (by rw[d,h])) f⟩) hs j
def Zoh{X:N6}(I:Nat->ZK->Prop)(a:fi (IA O s)=aA (iL (EF X)))(c:I 0 s)(st:∀i s (h:i<la X),I i s->Kp fb (s.set k (aA (.int ((X[i]:Nat):Int)))) (I (i+1))):Kp (GZ O fi (.one k) fb) s (I (la X)):=by
 let:=QJ (T:=.one k) I a c λi l s b h=>by
  let a:i<la X:=by let:=(aQ.mp b).1;simpa [EF] using this
  let e:l = .int ((X[i]:Nat):Int):=by rw[O9 (by simpa [EF] using a)] at b;rw[<-bM b];simp[EF,Cz,a]
  subst e;apply⟨_,rfl,st i s a h⟩
 rwa [show(iL (EF X)).length=la X by simp[EF]] at this
def Oy(q:f s=aA (.int a))(c:g s=aA (.int b))(h:0<b:=by lia):Cy XG f g s=aA (.int (a%b)):=vC q c h
def xj(q:f s=aA (.int a))(c:g s=aA (.int b))(h:0<b:=by lia)(d:b<=10000:=by lia):Cy WU f g s=aA (.int (a/b)):=vC q c (PE h d)
def yp(q:f s=aA (.int a))(c:g s=aA (.int b)):Cy YD f g s=aA (.int (a+b)):=vI q c
def uh(q:f s=aA (.int a))(c:g s=aA (.int b)):Cy Vc f g s=aA (.int (a-b)):=vI q c
def yo{a b:Nat}(q:f s=aA (.int (a:Int)))(c:g s=aA (.int (b:Int))):Cy E3 f g s=aA (.Ap (decide (b<a))):=o2 q c (by
 change aA (PV.Ap (decide ((a:Int)>(b:Int))))=_;rw[decide_eq_decide.mpr Int.ofNat_lt])
def vge(q:f s=aA (.int a))(c:g s=aA (.int b)):Cy vS f g s=aA (.Ap (decide (b<=a))):=o2 q c rfl
def P6(q:f s=aA (.int a))(c:g s=aA (.int b)):Cy (J1 aC) f g s=aA (.Ap (decide (a=b))):=o2 q c ⋯
def xa{y:XT}{p2:Bool}(q:x s=aA p)(a:y s=aA p2):KJ x y s=aA (p&&p2):=by
 rw[Zaw,q];cases p
 ·rfl
 ·apply a
def uY{a:PV->Option PV}{S:Option PV}(q:f s=aA v)(w:a v=S):A6 a f s=S:=by delta A6;rw[q];apply w
def Zoi{u w:PV}(q:f s=aA u)(a:g s=aA w):EM [f,g] s=aA (.tup [u,w]):=by rw[Rt,Zt,q,Zt,a];rfl
def tB{S:Option PV}(q:x s=aA aD)(w:f s=S):CW x f g s=S:=by rw[Ya,q];apply w
def PC{S:Option PV}(q:x s=aA aC)(w:g s=S):CW x f g s=S:=by rw[Ya,q];apply w
def SR{a:Type}(h:a->PV){L:List a}{y:a}(q:f s=aA (h y))(b:JS s i=aA (L.map h))(c:la L<=9000):KR i f s=aA (.L4 (s.set i (aA (.lst ((L++[y]).map h))))):=by rw[Q3 q b (by rw[aJ];lia),bR];rfl
def Zg6{a:Type}(h:a->PV){L M:List a}(q:f s=aA (.lst (M.map h)))(b:JS s i=aA (L.map h))(c:la L+la M<=10000):Bn i f s=aA (.L4 (s.set i (aA (.lst ((L++M).map h))))):=by rw[Su q b (by rw[aJ,aJ];lia),bR]
def u0{L:N6}(q:f s=aA (.int (k:Int)))(a:JS s i=aA (iL (EF L)))(b:la L<=9000):KR i f s=aA (.L4 (s.set i (aA (.lst (iL (EF (L++[k]))))))):=by rw[Q3 q a (by simp[EF];lia)];simp[EF]
def Zlx(Q:Gj):KP (iL Q)=(aL (la Q)).map λ(i:Nat)=>.tup [.int (i:Int),.int (Cz Q i)]:=by
 rw[Wj,aJ];apply aq λi a=>by rw[Ur Q i (ao.mp a)]
def Vq{W:N7}:CD [wP W]=aA (.int (la W:Int)):=⋯
def Zqe{W:N7}{a b:Nat}{h:XE}(e:a<la W)(d:b<(Kl W a).length)(q:f s=aA (wP W))(c:g s=aA (.int (a:Int)))(i:h s=aA (.int (b:Int))):Cy JZ (Cy JZ f g) h s=aA (.int (GQ W a b)):=o2 (o2 q c (Uq e)) i (YX d)
def Zly{l:Gj}(q:f s=aA (.int (k:Int)))(b:g s=aA (.int a))(d:JS s i=aA (iL l))(c:k<la l):DJ i f g s=aA (.L4 (s.set i (aA (.lst (iL (l.set k a)))))):=by rw[eN b q d (Y3 _) rfl (VC (by rw[aJ];apply c)),<-qx]
def Zc1{o:Gj}(q:f s=aA (.int (n:Int)))(b:g s=aA (.int a))(c:JS s i=aA (iL o))(d:n<=1000)(e:la o<=1000):Bw i f g s=aA (.L4 (s.set i (aA (.lst (iL (o.take n++a::o.drop n)))))):=by rw[hb q b c (Y3 o) rfl () () (by rw[aJ];lia),dk,Zlu]
end
def zK{F:XS}{x:XT}{s:ZK}{k:Nat}(J:Nat->ZK->Prop)(f:J k s)(st:∀k s,J k s->x s=aA aC\/(x s=aA aD/\Kp F s λs2=>∃k',k'<k/\J k' s2)):Kp (K9 x F) s λd=>∃k,J k d/\x d=aA aC:=by
 let⟨d,k',a,b,c⟩:=Zlv J (λk s h=>by
  rcases st k s h with z | ⟨z,s2,e,k',i,g⟩
  ·apply .inl z
  ·apply .inr ⟨z,s2,k',e,i,g⟩) f
 apply⟨d,a,k',b,c⟩
def Zlz{n i:Nat}{f:Nat->PV}{l:PV}(h:((aL n).map f)[i]?=aA l):i<n/\l=f i:=by grind
def OO{b:Type}{L:List b}{i:Nat}{f:b->PV}{l:PV}(h:(L.map f)[i]?=aA l):∃a,L[i]?=aA a/\l=f a:=by grind
def WO{a:Type}(f:Nat->List a)(i:Nat):(aL (i+1)).flatMap f=(aL i).flatMap f++f i:=by rw[jm];simp
def Pu{a:Type}{f:Nat->List a}{c:Nat}:∀{n:Nat},(∀i,i<n->(f i).length<=c)->((aL n).flatMap f).length<=c*n
 | 0,_=>⋯
 | n+1,h=>by
  rw[WO,ah,Nat.mul_succ];let:=Pu (n:=n) λi b=>h i ();let:=h n ()
  lia
section
variable {s:ZK} {i:Nat} {ls:List PV} {T:lZ} {fb:XS} {O:N6}
def eC(I:Nat->ZK->Prop)(c:(s[i]?).join.bind Iv=aA ls)(a:I 0 s)(st:∀i l s,ls[i]?=aA l->I i s->∃s1,CS T l s=aA s1/\Kp fb s1 (I (i+1))):Kp (Li i T fb) s (I (la ls)):=by
 let⟨d,e,q⟩:=U8 I a λi l s j h=>by let⟨s1,b,s2,g,f⟩:=st i l s j h;apply⟨s1,s2,b,g,f⟩
 show⟨d,?_,q⟩;delta Li;rw[c];apply e
def Zc3(I:Nat->ZK->Prop)(a:(s[i]?).join.bind Iv=aA ls)(c:I 0 s)(st:∀i l s,ls[i]?=aA l->I i s->∃s1,CS T l s=aA s1/\Kp fb s1 (I (i+1)))(cl:∀s,I (la ls) s->Fm O (.L4 s) = .L4 s):Kp (KQ O i T fb) s (I (la ls)):=by let⟨b,e,q⟩:=eC I a c st;show⟨b,?_,q⟩;delta Li at e;delta KQ;rw[a,aZ] at e ⊢;rw[e,dz,cl b q]
end
def yc{L:N6}:CD [.lst (iL (EF L))]=aA (.int (la L:Int)):=by simp[EF]
end _p
namespace _p
open _l _v
def Zc4(l:List PV)(lo a:Mo):(E4 l lo a).length<=la l:=by delta E4;rw[bK,cQ];lia
def tg(ns:Gj)(k:Nat):AZ (E4 (iL ns) (aA (k:Int)) (aA ((k:Int)+1))++[PV.int 0]) 0=aA (.int (Cz ns k)):=by
 let a:((k:Int)+1)=((k+1:Nat):Int):=()
 rw[a];show Wy (j:=0) ?_;delta E4;rw[HT.i_,HT.i_,aJ];by_cases h:k<la ns
 ·rw[i8 (),i8 (),show k+1-k=1 by lia];rw[gZ (by rw[aJ];apply h)];simp[Cz,aK,aF h]
 ·rw[k6 (),gM (by rw[aJ];lia)];simp[Cz,aK,cT (Nat.not_lt.mp h)]
def Xd(h:ns.length<=63)(k:Nat):M8 [.cst (iL ns),.int (k:Int)]=aA (.int (Cz ns k)):=by
 let a:=Zc4 (iL ns) (aA (k:Int)) (aA ((k:Int)+1));rw[aJ] at a;let b:CF (E4 (iL ns) (aA (k:Int)) (aA ((k:Int)+1)))=aD:=yH _ _ (Y3 ns);let c:(E4 (iL ns) (aA (k:Int)) (aA ((k:Int)+1))).length+1<=10000:=()
 simp[M8,ID,CB,MQ,AY,FZ,Hd,b,c,tg]
def xu{h:Nat}(a:h<W.length):BP [wP W,.int (h:Int)]=aA (.int (Kl W h).sum):=by simp[BP,Ll,CB,MQ,Uq a]
def Zc5(i:Int):FU [.int i]=aA (.Ap aD):=by simp[FU,Ln,CB,MQ]
def NV(a b:Gj):List Int:=(aL (la a)).map λi=>Cz a i+Cz b i
def W5(h:b.length=a.length)(f:a.length<=1000):Nk [pP a,pP b]=aA (pP (NV a b)):=by
 let d:Nc (iL a) (iL b)=(aL a.length).map λi=>.tup [.int (Cz a i),.int (Cz b i)]:=by rw[SI _ _ (~~~h),aJ];apply((aq));ext i c;let c:=ao.mp c;rw[Ur a i c,Ur b i ()]
 let e:AS 2 [] (KI aC aC [Cw 0,Cw 1]) (.many [0,1]) MV (Cy YD (Cw 0) (Cw 1)) [aA (pP a),aA (pP b)]=aA (.lst (iL (NV a b))):=by rw[ZP (aL a.length) (λi=>.tup [.int (Cz a i),.int (Cz b i)]) (λi=>.int (Cz a i+Cz b i)) (by simp[d]) (by simp;lia) (λi _=>⟨_,rfl,rfl,by simp[Kz,CT]⟩)];simp[NV]
 simp[Nk,B9,CB,MQ,e]
def Za(l:Gj):KP (iL l)=(aL (la l)).map λ(i:Nat)=>.tup [.int (i:Int),.int (Cz l i)]:=by rw[Wj,aJ];apply((aq));ext i a;rw[Ur l i (ao.mp a)]
def K3(W:N7)(S:Gj)(h:Nat):Int:=((aL (la W)).map λi=>GQ W h i*(Cz S i-Cz S h)).sum
def Zg7(ok:Zu W)(b:h<W.length)(hs:S.length=W.length):Nj [wP W,pP S,.int (h:Int)]=aA (.int (K3 W S h)):=by
 let e:=ok.sq h b;let g:=ok.j_
 let d:AS 2 [1,2] (Lf aC [Cy JZ (Cw 0) (Cw 2)]) (.many [0,1]) MV (Cy CU (Cw 1) (Cy Vc (Cy JZ (Cw 2) (Cw 0)) (Cy JZ (Cw 2) (Cw 3)))) [aA (wP W),aA (pP S),aA (.int (h:Int))]=aA (.lst (iL ((aL W.length).map λi=>GQ W h i*(Cz S i-Cz S h)))):=by
  rw[ZP (aL W.length) (λi=>.tup [.int (i:Int),.int (GQ W h i)]) (λi=>.int (GQ W h i*(Cz S i-Cz S h))) (by simp[Uq b,Za,e];ext a _;rfl) (by simp;lia) (λi c=>?_)]
  ·simp
  ·let c:=ao.mp c;show⟨_,rfl,rfl,?_⟩;let b1:=ok.lo h i b c;let k:=ok.N9 h i b c;let f:∀j,Dy (GQ W h i) j:=λj=>Zbg () ();simp[Kz,CT,YX (show i<S.length by lia),YX (show h<S.length by lia),f]
 simp[Nj,Aa,CB,MQ,d,K3,-bS]
def A4(W:N7)(D S:Gj):List Int:=(aL (la D)).map λh=>Cz D h+K3 W S h
def Zc6(ok:Zu W)(c:D.length=W.length)(hs:S.length=W.length):IC [wP W,pP D,pP S]=aA (pP (A4 W D S)):=by
 let d:=ok.j_
 let b:AS 2 [0,2] (Lf aC [Cw 1]) (.many [0,1]) MV (Cy YD (Cw 1) (AK Nj [Cw 2,Cw 3,Cw 0])) [aA (wP W),aA (pP D),aA (pP S)]=aA (.lst (iL (A4 W D S))):=by
  rw[ZP (aL D.length) (λi=>.tup [.int (i:Int),.int (Cz D i)]) (λh=>.int (Cz D h+K3 W S h)) (by simp[Za]) (by simp;lia) (λi a=>?_)]
  ·simp[A4]
  ·let a:=ao.mp a;show⟨_,rfl,rfl,?_⟩;simp[Kz,CT,Zg7 ok (show i<W.length by lia) hs]
 simp[IC,F7,CB,MQ,b]
def K2(W:N7)(a b:Nat):List (List Int):=(aL (GQ W a b).toNat).map λ(t:Nat)=>[(a:Int),(b:Int),(t:Int)]
def Nq(W:N7)(a:Nat):List (List Int):=(aL (la W-(a+1))).flatMap λj=>K2 W a (a+1+j)
def Mw(W:N7):List (List Int):=(aL (la W)).flatMap (Nq W)
def SW{W:N7}(ok:Zu W){a b:Nat}(d:a<la W)(c:b<la W):(K2 W a b).length<=9:=by let:=ok.N9 a b d c;delta K2;simp;omega
def Zc7(W:N7):KP (W.map pP)=(aL (la W)).map λ(i:Nat)=>.tup [.int (i:Int),pP (Kl W i)]:=by
 rw[Wj,aJ];apply aq λi a=>by rw[Zbe W i (ao.mp a)]
def W8{W:N7}(ok:Zu W):Hm [wP W]=aA (.lst ((Mw W).map pP))/\(Mw W).length<=441:=by
 let h:=ok.j_;let c:∀i,i<la W->(Nq W i).length<=63:=λi a=>by let:=Pu (n:=W.length-(i+1)) (f:=λj=>K2 W i (i+1+j)) λj g=>SW ok a (by omega);delta Nq;omega
 let' st:List (List Int)->Option PV->Option PV->Option PV->ZK:=λL x y z=>[aA (wP W),aA (.lst (L.map pP)),x,y,z];show⟨XB (Zr rfl (Wm (QJ (λi s=>∃x y z,s=st ((aL i).flatMap (Nq W)) x y z) (congrArg aA (Zc7 W)) ⟨aB,aB,aB,rfl⟩ ?_) ?_)),by let:=Pu c;delta Mw;omega⟩
 ·ext i l s d ⟨x,y,z,rfl⟩;let⟨a,rfl⟩:=Zlz d;let p:=Pu (n:=i) λj g=>c j (by omega);show⟨_,rfl,WH (hX (m:=i+1) (λj s=>∃z,s=st ((aL i).flatMap (Nq W)++(aL (j-(i+1))).flatMap λj=>K2 W i (i+1+j)) (aA (.int (i:Int))) (aA (pP (Kl W i))) z) rfl (c1 rfl Vq) ⟨z,?_⟩ ?_) λs ⟨z,e⟩=>⟨_,_,z,e.trans (by rw[WO];rfl)⟩⟩
  ·rw[nj,rq,rT,bx];rfl
  ·ext j s o b ⟨z,rfl⟩;let u:=Pu (n:=j-(i+1)) (f:=λj=>K2 W i (i+1+j)) λk w=>SW ok a (by omega);let q:=SW ok a b;let b1:=ok.lo i j a b;let r:=ok.N9 i j a b;show n5 (Zg6 pP (M:=K2 W i j) ((ZP (aL (GQ W i j).toNat) (λi=>.int (i:Int)) (λt=>pP [(i:Int),(j:Int),(t:Int)]) (WL ((o2 rfl rfl (YX (by rw[ok.sq i a];apply b))).trans ?_) (by omega)) (by rw[bZ];omega) λt v=>⟨_,rfl,rfl,rfl⟩).trans (by rw[K2,bS];rfl)) rfl (by rw[ah];omega)) ⟨aA (.int (j:Int)),?_⟩
   ·rw[j7 b1];rfl
   ·rw[show j+1-(i+1)=(j-(i+1))+1 by omega,WO,show i+1+(j-(i+1))=j by omega,<-fL];rfl
 ·ext s ⟨x,y,z,rfl⟩;rw[aJ,bZ];apply⟨_,rfl,rfl⟩
noncomputable def tk(e:X7):List JL:=[.inl (e.1:Int),.inl (e.2.1:Int)]
def M5(ts:List X7):PV:=.L8 (ts.map tk) (ts.map λe=>.int e.2.2)
def q_(ts:List X7):CF (ts.map λe=>PV.int e.2.2)=aD:=Qu λ_ _=>rfl
def Zc8(a b:Int):Io (.tup [.int a,.int b])=aA [.inl a,.inl b]:=rfl
def PN{e:X7}{a b:Nat}(h:tk e=[.inl (a:Int),.inl (b:Int)]):e.1=a/\e.2.1=b:=Zfh h
def QA(ts:List X7):(ts.map tk).zip (ts.map λe=>PV.int e.2.2)=ts.map λe=>(tk e,PV.int e.2.2):=by grind
def Zg8{n:Nat}{ts:List X7}(ok:cm n ts){a b:Nat}{t:Int}(h:(a,b,t)∈ts):C0 (ts.map tk) (ts.map λe=>PV.int e.2.2) [.inl (a:Int),.inl (b:Int)]=aA (.int t):=by
 delta C0;rw[QA];let c:=ok.nd;clear ok
 induction ts with
 | nil=>simp at h
 | cons e r N8=>
  rw[ak,i9];rw[ak,av] at c;rcases aY.mp h with q | q
  ·subst q;have:decide (tk (a,b,t)=[gW (a:Int),gW (b:Int)])=aD:=decide_eq_true rfl;dsimp[this,dz]
  ·have:decide (tk e=[gW (a:Int),gW (b:Int)])=aC:=decide_eq_false λz=>by let⟨f,d⟩:=PN z;apply c.1 (aa.mpr ⟨_,q,by simp[f,d]⟩)
   dsimp[this];apply N8 q c.2
def lK{n:Nat}{ts:List X7}(ok:cm n ts){a b:Nat}{t:Int}(h:(a,b,t)∈ts):C8 (M5 ts) (.tup [.int (a:Int),.int (b:Int)])=aA (.int t):=by change(Io (.tup [.int (a:Int),.int (b:Int)])).bind (λk=>C0 (ts.map tk) (ts.map λe=>PV.int e.2.2) k)=_;rw[Zc8];apply Zg8 ok h
def mf{ts:List X7}{a b:Nat}:[gW (a:Int),gW (b:Int)]∈ts.map tk↔∃t,(a,b,t)∈ts:=by
 rw[aa];constructor
 ·ext⟨e,c,z⟩;let⟨g,f⟩:=PN z;apply⟨e.2.2,by rw[<-g,<-f];apply c⟩
 ·ext⟨t,d⟩;apply⟨_,d,rfl⟩
def B6(ts:List X7)(a b:Nat):Prop:=∃t,(a,b,t)∈ts
def Ext(ts rn:List X7):Prop:=∀c d,B6 ts c d->B6 rn c d
def Ext.refl(ts:List X7):Ext ts ts:=λ_ _ h=>h
def Ext.trans{a b c:List X7}(h:Ext a b)(g:Ext b c):Ext a c:=λx y z=>g x y (h x y z)
def EU(ts:List X7):Int:=(ts.map λe=>e.2.2).sum
def QK(e:X7)(r:List X7):EU (e::r)=e.2.2+EU r:=rfl
def Te(l:List X7)(a b:Nat)(t:Int):EU (l++[(a,b,t)])=EU l+t:=by delta EU;simp
def Uu(a b:Nat){t:Int}(d:0<=t):∀ts:List X7,(ts.map λe=>(e.1,e.2.1)).Nodup->(∀e∈ts,1<=e.2.2)->EU (ts.map λe=>if(e.1,e.2.1)=(a,b) then(e.1,e.2.1,t) else e)<=EU ts+t
 | [],_,_=>by change(0:Int)<=0+t;lia
 | e::r,nd,h=>by
  rw[ak,av] at nd;let f:=h e ⋯;rw[ak,QK,QK];by_cases q:(e.1,e.2.1)=(a,b)
  ·rw[An q]
   have:(r.map λe=>if(e.1,e.2.1)=(a,b) then((e.1,e.2.1,t):X7) else e)=r:=by
    conv=>rhs;rw[<-jP r]
    show aq λx c=>?_;rw[N4 (λz=>nd.1 (aa.mpr ⟨x,c,z.trans q.symm⟩))];rfl
   rw[this];change t+EU r<=_
   lia
  ·rw[N4 q];let:=Uu a b d r nd.2 λx c=>h x (by simp[c])
   lia
def RX{n:Nat}{ts:List X7}{a b:Nat}{t:Int}(ok:cm n ts)(m:a<b)(p:b<n)(i:1<=t)(o:t<=9)(w:la ts<=10000) :
  ∃rn,BG (M5 ts) (.tup [.int (a:Int),.int (b:Int)]) (.int t)=aA (M5 rn)/\cm n rn/\rn.length<=la ts+1/\B6 rn a b/\Ext ts rn/\EU rn<=EU ts+t:=by
 let c:(CF (ts.map λe=>PV.int e.2.2)&&MS (.int t)&&decide ((ts.map tk).length<=10000))=aD:=by rw[q_,aJ,decide_eq_true w];rfl
 let r:BG (M5 ts) (.tup [.int (a:Int),.int (b:Int)]) (.int t)=aA (.L8 (Bp (ts.map tk) [.inl (a:Int),.inl (b:Int)]) (Bo (ts.map tk) (ts.map λe=>PV.int e.2.2) [.inl (a:Int),.inl (b:Int)] (.int t))):=by change(Ic _).bind _=_;rw[T1 c];rfl
 rw[r];by_cases g:∃t',(a,b,t')∈ts
 ·show⟨ts.map λe=>if(e.1,e.2.1)=(a,b) then(e.1,e.2.1,t) else e,?_,⟨?_,?_⟩,⋯,?_,?_,Uu a b () ts ok.nd λe f=>(ok.ok e f).2.2.1⟩
  ·delta Bp Bo M5;rw[An (mf.mpr g),An (mf.mpr g),QA,bS,bS,bS];congr 2
   ·apply((aq));ext e _;change tk e=tk (if(e.1,e.2.1)=(a,b) then(e.1,e.2.1,t) else e);split<;>rfl
   ·apply((aq));ext e _;change(if tk e=[gW (a:Int),gW (b:Int)] then PV.int t else PV.int e.2.2)=PV.int (if(e.1,e.2.1)=(a,b) then((e.1,e.2.1,t):X7) else e).2.2;by_cases q:(e.1,e.2.1)=(a,b)
    ·rw[An q,An (by let:=tP q;change [gW (e.1:Int),gW (e.2.1:Int)]=_;rw[this.1,this.2])]
    ·rw[N4 q,N4 (λz=>q (by let⟨i,x⟩:=PN z;rw[i,x]))]
  ·ext e f;let⟨s,k,rfl⟩:=aa.mp f;let:=ok.ok s k;split
   ·apply⟨this.1,this.2.1,i,o⟩
   ·apply this
  ·rw[bS]
   let e:((λe:X7=>(e.1,e.2.1)) ∘ λe:X7=>if(e.1,e.2.1)=(a,b) then(e.1,e.2.1,t) else e)=λe:X7=>(e.1,e.2.1):=by
    funext e;change((if(e.1,e.2.1)=(a,b) then((e.1,e.2.1,t):X7) else e).1,(if(e.1,e.2.1)=(a,b) then((e.1,e.2.1,t):X7) else e).2.1)=_;split<;>rfl
   rw[e];apply ok.nd
  ·let⟨t',l⟩:=g;apply⟨t,aa.mpr ⟨(a,b,t'),l,An rfl⟩⟩
  ·ext c d ⟨u,j⟩;by_cases q:(c,d)=(a,b)
   ·apply⟨t,aa.mpr ⟨(c,d,u),j,An q⟩⟩
   ·apply⟨u,aa.mpr ⟨(c,d,u),j,N4 q⟩⟩
 ·let v:=λt' h=>g ⟨t',h⟩;show⟨ts++[(a,b,t)],?_,⟨?_,?_⟩,⋯,⟨t,⋯⟩,λc d ⟨u,j⟩=>⟨u,au _ j⟩,by rw[Te];apply cz _⟩
  ·delta Bp Bo M5;rw[N4 (λz=>g (mf.mp z)),N4 (λz=>g (mf.mp z)),bR,bR];rfl
  ·ext e f;rcases aj.mp f with q | q
   ·apply ok.ok e q
   ·rw[aO.mp q];apply⟨m,p,i,o⟩
  ·rw[bR];show Xs ok.nd ?_;rw[aa];ext⟨e,f,q⟩;let:=tP q;let⟨y,A,t'⟩:=e;simp only at this;rw[this.1,this.2] at f;apply v t' f
def RY{i:Nat}{a fv:XE}{s:ZK}{d k v b:PV}(e:fv s=aA v)(f:a s=aA k)(c:(s[i]?).join=aA d)(g:BG d k v=aA b):_v.Nh i a fv s=aA (.L4 (s.set i (aA b))):=by delta _v.Nh;rw[e,f];dsimp[aZ,c,g,dz]
def eP(ts:List X7):Iv (M5 ts)=aA (ts.map λe=>.tup [.int (e.1:Int),.int (e.2.1:Int)]):=by change aA ((ts.map tk).map Jk)=_;rw[bS];rfl
def Cl(ts:List X7)(P:Nat->Prop):Prop:=∀a b,B6 ts a b->(P a↔P b)
def Dw(n:Nat)(ts:List X7):Prop:=∀P:Nat->Prop,Cl ts P->∀i j,i<n->j<n->(P i↔P j)
def E7(W:N7):Prop:=∀P:Nat->Prop,(∀a b,a<la W->b<la W->0<GQ W a b->(P a↔P b))->∀i j,i<la W->j<la W->(P i↔P j)
def P8{n:Nat}{M:N7}{e:X7}(ok:fD n M)(h:e.1<e.2.1/\e.2.1<n/\1<=e.2.2/\e.2.2<=9)(i j:Nat):GQ (Iw M e) i j=if e.2.1=i/\e.1=j then e.2.2 else if e.1=i/\e.2.1=j then e.2.2 else GQ M i j:=by let⟨a,b,t⟩:=e;simp only at h ⊢;let⟨d,c⟩:=Uc ok.len ok.row (show a<n by lia);change GQ (A7 (A7 M a b t) b a t) i j=_;rw[Rj d c () (),Rj ok.len ok.row () ()]
def Zg9{n:Nat}{ts:List X7}(ok:cm n ts){a b:Nat}(h:B6 ts a b):a<n/\b<n/\0<GQ (G3 n ts) a b:=by
 let keep:∀(l:List X7)(M:N7),(∀e∈l,e.1<e.2.1/\e.2.1<n/\1<=e.2.2/\e.2.2<=9)->fD n M->0<GQ M a b->0<GQ (l.foldl Iw M) a b:=by
  ext l
  induction l with
  | nil=>apply λM _ _ h=>h
  | cons e r N8=>
   ext M d f k;let c:=d e ⋯;show N8 _ (λg h'=>d g (by simp[h'])) (f.step c) ?_;rw[P8 f c];split
   ·lia
   ·split
    ·lia
    ·apply k
 let j:∀(l:List X7)(M:N7),(∀e∈l,e.1<e.2.1/\e.2.1<n/\1<=e.2.2/\e.2.2<=9)->fD n M->B6 l a b->0<GQ (l.foldl Iw M) a b:=by
  ext l
  induction l with
  | nil=>ext M _ _ ⟨t,i⟩;simp at i
  | cons e r N8=>
   ext M d f ⟨t,i⟩;let c:=d e ⋯;rcases aY.mp i with q | q
   ·show keep r _ (λg h'=>d g (by simp[h'])) (f.step c) ?_;rw[P8 f c];subst q;simp only at c;split
    ·lia
    ·rw[An ⟨rfl,rfl⟩];change 0<t;lia
   ·apply N8 _ (λg h'=>d g (by simp[h'])) (f.step c) ⟨t,q⟩
 let⟨t,i⟩:=id h;let:=ok.ok _ i;simp only at this;apply⟨(),(),j ts _ ok.ok (fD.zero n) h⟩
def Dw.conn{n:Nat}{ts:List X7}(h:Dw n ts)(ok:cm n ts):E7 (G3 n ts):=by ext P d i j f k;let m:=(OJ ok).len;show h P (λa b c=>?_) i j () ();let⟨l,g,e⟩:=Zg9 ok c;apply d a b () () e
def Tz:∀{l m:Gj},l.Nodup->(∀x∈l,x∈m)->la l<=la m
 | [],m,_,_=>dM _
 | x::r,m,nd,h=>by let b:x∈m:=h x ⋯;let a:=av.mp nd;let:=Tz (l:=r) (m:=m.erase x) a.2 λy c=>(gp (show y≠x from λz=>a.1 (by rw[<-z];apply c))).mpr (h y (by simp[c]));rw[iB b] at this;let d:=iX b;rw[bH];lia
def Zoj{n:Nat}{l:Gj}(d:l.Nodup)(h:∀x∈l,∃k:Nat,k<n/\x=(k:Int))(e:la l=n){j:Nat}(c:j<n):(j:Int)∈l:=by
 by_cases q:(j:Int)∈l
 ·apply q
 ·let:=Tz (av.mpr ⟨q,d⟩) (λx a=>by
   rcases aY.mp a with rfl | a
   ·apply aa.mpr ⟨j,ao.mpr c,rfl⟩
   ·let⟨k,b,rfl⟩:=h x a;apply aa.mpr ⟨k,ao.mpr b,rfl⟩)
  rw[bH,aJ,bZ] at this
  lia
def Dk(M:N7):List PV:=M.map λr=>.lst (iL r)
def Zl0{M:N7}{a:Nat}(h:a<la M):(Dk M)[a]?=aA (.lst (iL (Kl M a))):=by delta Dk;rw[ag,OI h];rfl
def Zl1{M:N7}{a b:Nat}{t:Int}:(Dk M).set a (.lst ((iL (Kl M a)).set b (.int t)))=Dk (A7 M a b t):=by delta Dk A7;rw[qx];change _=(List.map (λr=>PV.lst (iL r)) M).set a (PV.lst (((Kl M a).set b t).map PV.int));rw[qx]
def Zjb{n:Nat}(a:n<=1000):Fh (.lst [.int 0]) (.int (n:Int))=aA (.lst (iL (aW n 0))):=by change(if CF [PV.int 0]=aD/\(-1000000:Int)<=(n:Int)/\(n:Int)<=1000000/\[PV.int 0].length*((n:Int)).toNat<=10000 then aA (PV.lst (aW ((n:Int)).toNat [PV.int 0]).flatten) else aB)=_;rw[An ⟨rfl,(),(),by simp;lia⟩];simp
def Zok{i a b n:Nat}{t:Int}{M:N7}{f c fb:XE}{s:ZK}(q:f s=aA (.int t))(g:c s=aA (.int (a:Int)))(j:fb s=aA (.int (b:Int)))(k:JS s i=aA (Dk M))(l:la M=n)(h:∀i,i<n->(Kl M i).length=n)(e:a<n)(d:b<n):Hg i c fb f s=aA (.L4 (s.set i (aA (.lst (Dk (A7 M a b t)))))):=by rw[ha q g j k (VC (by delta Dk;rw[aJ];lia)) (Zl0 ()) (Y3 _) rfl (VC (by rw[aJ,h a e];apply d)),Zl1]
def tY{n:Nat}{ts:List X7}(ok:cm n ts)(o:n<=7):LR [M5 ts,.int (n:Int)]=aA (wP (G3 n ts)):=by
 let' st:=λM x y=>[aA (M5 ts),aA (.int (n:Int)),aA (.lst (Dk M)),x,y];show XB (Zr (Zh ((ZP (aL n) (λi=>.int (i:Int)) (λ_=>.lst (iL (aW n 0))) (WL rfl ()) (by simp;lia) λi _=>⟨_,rfl,rfl,o2 rfl rfl (Zjb ())⟩).trans ?_)) (Wm (eC (λi s=>∃x y,s=st (G3 n (ts.take i)) x y) (eP ts) ⟨aB,aB,rfl⟩ ?_) ?_))
 ·change _=aA (PV.lst (Dk (aW n (aW n 0))));delta Dk;rw[List.map_const',bZ,qO]
 ·ext i l s k ⟨x,y,rfl⟩;let⟨⟨a,b,t⟩,f,rfl⟩:=OO k;let c:=aw f;let⟨m,d,_⟩:=ok.ok _ c;let g:=OJ (ts:=ts.take i) ⟨λe f=>ok.ok e (dt f),by rw[ke];apply ok.nd.sublist (fm _ _)⟩;let h:=Uc (t:=t) (b:=b) g.len g.row (show a<n by lia);let j:=lK ok c;show⟨_,rfl,YS (Zok (o2 rfl rfl j) rfl rfl rfl g.len g.row () d) (n5 (Zok (o2 rfl rfl j) rfl rfl rfl h.1 h.2 d ()) ⟨_,_,by rw[show G3 n (ts.take (i+1))=Iw (G3 n (ts.take i)) (a,b,t) from R_ _ _ f];rfl⟩)⟩
 ·ext s ⟨x,y,rfl⟩;rw[aJ,eD];show Yd (ep (c1 (ZP (G3 n ts) (λr=>.lst (iL r)) pP rfl (by rw[(OJ ok).len];lia) λr _=>⟨_,rfl,rfl,rfl⟩) rfl) ?_) rfl;simp
def wX{n:Nat}{ts:List X7}(ok:cm n ts)(Ay:n<=7)(Kb:la ts<=1000)(c:Int):∃d,BO [M5 ts,.int c,.int (n:Int)]=aA (M5 d)/\cm n d/\la d<=la ts/\(Dw n ts->Dw n d)/\EU d<=EU ts:=by
 let M:∃v,BO [M5 ts,.int c,.int (n:Int)]=aA v/\∃d,v=M5 d/\cm n d/\la d<=la ts/\(Dw n ts->Dw n d)/\EU d<=EU ts:=by
  show RW (Zr rfl (Wm (Pr (λi s=>∃(c:Int) (x:Option PV) (l:Gj),s=[aA (M5 ts),aA (.int c),aA (.int (n:Int)),aA (.lst (iL l)),x,aB,aB,aB,aB]/\ff i l) rfl ⟨c,aB,[],rfl,ff.nil⟩ ?_) ?_))
  ·ext i s Z ⟨c,x,l,rfl,m⟩;let m0:=jt c (show(i:Int)+1≠0 by lia);let aby:=iY c (show 0<(i:Int)+1 by lia);let nl:=m.len;apply YS (Zc1 ((Oy rfl (yp rfl rfl)).trans (by rw[j7 m0])) rfl rfl () ()) (n5 (Zh (ep (xj rfl (yp rfl rfl)))) ⟨_,_,_,rfl,m.ins _⟩)
  ·ext s ⟨c,x,l,rfl,m⟩;let ll:=m.len;show Zr rfl (Wm (eC (λi s=>∃(X Q N:Option PV) (d:List X7),s=[aA (M5 ts),aA (.int c),aA (.int (n:Int)),aA (.lst (iL l)),x,aA (M5 d),X,Q,N]/\cm n d/\la d<=i/\EU d<=EU (ts.take i)/\∀(j:Nat)(e:X7),j<i->ts[j]?=aA e->B6 d (Cz l e.1).toNat (Cz l e.2.1).toNat\/B6 d (Cz l e.2.1).toNat (Cz l e.1).toNat) (eP ts) ⟨aB,aB,aB,[],rfl,cm.nil n,aU _,cz _,λj e R _=>()⟩ ?_) ?_)
   ·ext i v s L ⟨X,Q,N,d,rfl,w,z,o,f⟩;let⟨⟨a,b,t⟩,G,rfl⟩:=OO L;let hil:=(aQ.mp G).1;let r:=aw G;let⟨S,W,t1,t9⟩:=ok.ok _ r;simp only at S W t1 t9;let na:=m.at (x:=a) ();let nb:=m.at (by omega);let ne:=m.ne (x:=a) (by omega) (by omega) (by omega);obtain⟨p,q,g,C,T,O⟩:∃p q:Nat,(if Cz l b<Cz l a then Cz l b else Cz l a)=(p:Int)/\(if Cz l b>Cz l a then Cz l b else Cz l a)=(q:Int)/\p<q/\q<n:=by show⟨(if Cz l b<Cz l a then Cz l b else Cz l a).toNat,(if Cz l b>Cz l a then Cz l b else Cz l a).toNat,?_,?_,?_,?_⟩<;>split<;>(try split)<;>lia
    let⟨Y,pe,J,hle2,E,D,hs2⟩:=RX w T O t1 t9 ();let ia:=YX (l:=l) (k:=a) ();let ib:=YX (l:=l) (k:=b) ();show⟨_,rfl,YS (Zh (ep (Zoi (c2 (o2 rfl rfl ia) (o2 rfl rfl ib) (by rw[<-g];rfl)) (c2 (o2 rfl rfl ia) (o2 rfl rfl ib) (by rw[<-C];rfl))))) (n5 (RY (o2 rfl rfl (lK ok r)) rfl rfl pe) ⟨_,_,_,Y,rfl,J,(),?_,λj e R u=>?_⟩)⟩
    ·rw[jC,G];change _<=EU (ts.take i++[(a,b,t)]);rw[Te];lia
    ·by_cases I:j<i
     ·apply(f j e I u).imp (D _ _) (D _ _)
     ·let U:j=i:=()
      subst U;rw[G] at u;cases u;by_cases F:Cz l b<Cz l a
      ·rw[An F] at g;rw[N4 ()] at C;apply .inr (by rw[g,C];apply E)
      ·rw[N4 F] at g;rw[An ()] at C;apply .inl (by rw[g,C];apply E)
   ·ext s ⟨X,Q,N,d,rfl,w,z,o,f⟩;rw[aJ] at z f o;rw[eD] at o;show⟨_,rfl,d,rfl,w,z,λGz P hP i j Z R=>?_,o⟩;let B:∀k,k<n->∃x,x<n/\(Cz l x).toNat=k:=λk H=>by let hm:=Zoj m.nd (λx A=>⟨x.toNat,by let:=m.N9 x A;lia,by let:=m.lo x A;lia⟩) ll H;let⟨x,A,ex⟩:=cW hm;show⟨x,(),?_⟩;delta Cz;rw[aK,aF A,ex];rfl
    let⟨x,A,rfl⟩:=B i Z;let⟨y,hy,rfl⟩:=B j R;show Gz (λk=>P (Cz l k).toNat) (λa b ⟨t,ht⟩=>?_) x y A hy;let⟨k,H,ek⟩:=cW ht;rcases f k (a,b,t) H (by rw[aF H,ek]) with q | q
    ·apply hP _ _ q
    ·apply(hP _ _ q).symm
 let⟨v,e,d,rfl,h⟩:=M;apply⟨d,e,h⟩
def Zc9{r m:Int}(c:1<=m)(d:m<=9):0<=r%2*(1+r/2%m)/\r%2*(1+r/2%m)<=9:=by
 let b:=jt (r/2) (show m≠0 by lia);let f:=iY (r/2) (show 0<m by lia);let a:r%2=0\/r%2=1:=()
 rcases a with e | e<;>rw[e]<;>lia
def Zqf{x y:PV}(c:Int):AZ [x,y] (c%2)=aA (if c%2=0 then x else y):=by
 let h:c%2=0\/c%2=1:=()
 rcases h with h | h<;>rw[h]<;>rfl
def SA(b:Bool)(a:Int)(l:Gj):J7 b (.int a) (.lst (iL l))=aA (.Ap (if b then !decide (a∈l) else decide (a∈l))):=by
 let c:((iL l).all λz=>C1 8 z (.int a))=aD:=by rw[lO,bN];ext x _;rfl
 change(aA (iL l)).bind _=_;dsimp[aZ,An c]
 have:decide (PV.int a∈iL l)=decide (a∈l):=decide_eq_decide.mpr (by
  rw[aa];constructor
  ·ext⟨x,d,e⟩;cases e;apply d
  ·ext h;apply⟨a,h,rfl⟩)
 rw[this]
def Ac:XS:=(GP (Kg 8 (AN (AK IT [Cy CU (Cy XG (Cw 0) (AL (.int 2))) (Cy YD (AL (.int 1)) (Cy XG (Cy WU (Cw 0) (AL (.int 2))) (Cw 3))),Cw 2])))
  (GP (Kg 0 (AN (Cy JZ (Mv [Cy WU (Cw 0) (AL (.int 2)),Cy WU (Cy WU (Cw 0) (AL (.int 2))) (Cw 3)]) (Cy XG (Cw 0) (AL (.int 2))))))
  (EI (AO (Cy E3 (Cw 8) (AL (.int 0)))) (GP (_v.Nh 4 (EM [Cw 6,Cw 7]) (Cw 8))
  (Kg 2 (AN (Cy Vc (Cw 2) (Cw 8))))) GX)))
def JV(n:Nat)(most:Int)(ts:List X7)(EH t7:Int)(x6 aay x8:Mo)(x9:Mo)(met:Gj):ZK:=
 [aA (.int EH),aA (.int (n:Int)),aA (.int t7),aA (.int most),aA (M5 ts),aA (.lst (iL met)),x6.map PV.int,aay.map PV.int,x8.map PV.int,x9.map PV.int]
def Zl2{n:Nat}{most:Int}{ts:List X7}{EH d:Int}{a b:Nat}{v l:Mo}{met:Gj}(x:1<=most)(y:most<=9)(ok:cm n ts)(E:la ts<=1000)(o:a<b)(w:b<n) :
  ∃rn nk ua x8',Ac (JV n most ts EH d (aA (a:Int)) (aA (b:Int)) v l met)=aA (.L4 (JV n most rn nk ua (aA (a:Int)) (aA (b:Int)) (aA x8') l met))/\cm n rn/\rn.length<=la ts+1/\(0<=d->0<=ua/\EU rn+ua<=EU ts+d):=by
 let⟨F,G⟩:=Zc9 (r:=EH) x y;let A:Dy (EH%2) (1+EH/2%most):=Zbg () ();let q:Kk EH 2:=PE () ();let m:Kk (EH/2) most:=PE () ();let B:0<most:=()
 generalize f:(if d<EH%2*(1+EH/2%most) then d else EH%2*(1+EH/2%most))=Cr;let e:Cr<=9:=by rw[<-f];split<;>lia
 generalize j:(if EH%2=0 then EH/2 else EH/2/most)=rs;let i:(if EH%2=0 then PV.int (EH/2) else PV.int (EH/2/most))=PV.int rs:=by rw[<-j];split<;>rfl
 let' s:=JV n most ts EH d (aA (a:Int)) (aA (b:Int)) v l met;let u:AN (AK IT [Cy CU (Cy XG (Cw 0) (AL (.int 2))) (Cy YD (AL (.int 1)) (Cy XG (Cy WU (Cw 0) (AL (.int 2))) (Cw 3))),Cw 2]) s=aA (.int Cr):=by simp[s,JV,A,q,B,f]
 let t:∀z,AN (Cy JZ (Mv [Cy WU (Cw 0) (AL (.int 2)),Cy WU (Cy WU (Cw 0) (AL (.int 2))) (Cw 3)]) (Cy XG (Cw 0) (AL (.int 2)))) (s.set 8 z)=aA (.int rs):=λz=>by simp[s,JV,q,m,Zqf,i]
 by_cases c:0<Cr
 ·let⟨p,D,k,g,_,_,C⟩:=RX ok o w () e ();apply⟨p,rs,d-Cr,Cr,sq (Zh u) (sq (Zh (t _)) (wC (xb (o2 rfl rfl (congrArg (λz=>aA (PV.Ap z)) (decide_eq_true c)))) (sq (RY rfl rfl rfl D) (Zh (ep (uh rfl rfl)))))),k,g,λ_=>⟨(),()⟩⟩
 ·apply⟨ts,rs,d,Cr,sq (Zh u) (sq (Zh (t _)) (kV (xb (o2 rfl rfl (congrArg (λz=>aA (PV.Ap z)) (decide_eq_false c)))))),ok,(),λh=>⟨h,cz _⟩⟩
structure lD(n:Nat)(ts:List X7)(met:Gj):Prop where
 nd:met.Nodup
 ok:∀m∈met,∃k:Nat,k<n/\m=(k:Int)/\∀P:Nat->Prop,Cl ts P->(P k↔P 0)
def lD.add{n:Nat}{ts:List X7}{met:Gj}{a b:Nat}(h:lD n ts met)(f:B6 ts a b\/B6 ts b a)(i:b<n)(o:(a:Int)∈met)(g:(b:Int)∉met):lD n ts (met++[(b:Int)]):=by
 show⟨?_,λm c=>?_⟩
 ·rw[dq];show⟨h.nd,⋯,λx l y j z=>?_⟩;rw[aO.mp j] at z;apply g (z▸l)
 ·rcases aj.mp c with c | c
  ·apply h.ok m c
  ·show⟨b,i,aO.mp c,λP d=>?_⟩;let⟨k,p,e,q⟩:=h.ok _ o;have:a=k:=()
   subst this;rcases f with z | z
   ·apply(d _ _ z).symm.trans (q P d)
   ·apply(d _ _ z).trans (q P d)
def lD.y_{n:Nat}{ts:List X7}{met:Gj}(h:lD n ts met)(d:la met=n):Dw n ts:=by
 let all:∀P,Cl ts P->∀i,i<n->(P i↔P 0):=λP a i b=>by
  let f:=Zoj h.nd (λx l=>by let⟨k,c,e,_⟩:=h.ok x l;apply⟨k,c,e⟩) d b;let⟨k,c,e,q⟩:=h.ok _ f;have:i=k:=()
  subst this;apply q P a
 apply λP a i j b g=>(all P a i b).trans (all P a j g).symm
def zv{n:Nat}{most:Int}{ts:List X7}{EH e:Int}{j d h i:Mo}{met:Gj}{f g a b:Nat}(o:Cw f (JV n most ts EH e j d h i met)=aA (.int (a:Int)))(m:Cw g (JV n most ts EH e j d h i met)=aA (.int (b:Int)))(k:B6 ts a b\/B6 ts b a)(p:b<n)(q:la met<=5000)(l:lD n ts met) :
  Kp (EI (KJ (AO (Cy (J7 aC) (Cw f) (Cw 5))) (AO (Cy (J7 aD) (Cw g) (Cw 5)))) (KR 5 (AN (Cw g))) GX) (JV n most ts EH e j d h i met) λs=>∃vg,s=JV n most ts EH e j d h i vg/\vg.length<=la met+1/\lD n ts vg:=
 xm (xa (xb (o2 o rfl (SA ..))) (xb (o2 m rfl (SA ..)))) (λc=>by
  simp at c;apply n5 (SR PV.int (ep m) rfl ()) ⟨met++[(b:Int)],rfl,⋯,l.add k p c.1 c.2⟩) λ_=>n5 rfl ⟨met,rfl,(),l⟩
def m'{n:Nat}{most:Int}{ts:List X7}{EH e:Int}{d a b c:Mo}{met:Gj}:Fm [4,5] (.L4 (JV n most ts EH e d a b c met)) = .L4 (JV n most ts EH e d a b c met):=by cases d<;>cases a<;>cases b<;>cases c<;>rfl
def YF{n:Nat}{most EH o:Int}(E:1<=most)(F:most<=9)(R:n<=7)(D:1<=n):∃r,DF [.int EH,.int (n:Int),.int o,.int most]=aA r/\(r = .Ma\/∃ts,r=M5 ts/\cm n ts/\ts.length<=49/\Dw n ts/\(0<=o->EU ts<=o)):=by
 show RW (Zr rfl (Zr rfl (Wm (Pr (λi s=>∃ts r m d c g,s=JV n most ts r m d c g aB [0]/\cm n ts/\ts.length<=7*i/\(0<=o->0<=m/\EU ts+m<=o)) rfl ⟨[],EH,o,aB,aB,aB,rfl,cm.nil n,⋯,λh=>⟨h,by change(0:Int)+o<=o;lia⟩⟩ ?_) ?_)))
 ·ext i s N ⟨ts,r,m,d,c,g,rfl,ok,q,f⟩;show WH (hX (m:=i+1) (λj s=>∃ts r m c g,s=JV n most ts r m (aA (i:Int)) c g aB [0]/\cm n ts/\ts.length<=7*i+(j-(i+1))/\(0<=o->0<=m/\EU ts+m<=o)) rfl rfl ⟨ts,r,m,c,g,rfl,ok,(),f⟩ ?_) ?_
  ·ext j s H O ⟨ts,r,m,c,g,rfl,ok,q,f⟩;let⟨A,Q,z,L,J,v,C,y⟩:=Zl2 E F ok () H O;apply⟨_,J,A,Q,z,aA (j:Int),aA L,rfl,v,(),λh=>by let I:=f h;let G:=y I.1;apply⟨G.1,()⟩⟩
  ·ext s ⟨ts,r,m,c,g,rfl,ok,q,f⟩;apply⟨ts,r,m,_,c,g,rfl,ok,(),f⟩
 ·ext s ⟨ts,r,m,d,c,g,rfl,ok,q,f⟩;show Wm (Pr (λi s=>∃d c x met,s=JV n most ts r m d c g x met/\met.length<=1+98*i/\lD n ts met) rfl ⟨d,c,aB,[0],rfl,⋯,⋯,λm M=>⟨0,(),aO.mp M,λP _=>Iff.rfl⟩⟩ ?_) ?_
  ·ext i s N ⟨d,c,x,met,rfl,u,p⟩;show WH (Zc3 (λj s=>∃d c met,s=JV n most ts r m d c g (aA (i:Int)) met/\met.length<=1+98*i+2*j/\lD n ts met) (eP ts) ⟨d,c,met,rfl,u,p⟩ ?_ λs ⟨_,_,_,e,_⟩=>by rw[e,m']) λs ⟨d,c,met,e,l,p⟩=>⟨d,c,_,met,e,by rw[aJ] at l;lia,p⟩;ext j l s w ⟨d,c,met,rfl,u,p⟩;let⟨⟨a,b,t⟩,B,rfl⟩:=OO w;let U:=(aQ.mp B).1;let k:=aw B;let ab:=ok.ok _ k;simp only at ab;show⟨JV n most ts r m (aA (a:Int)) (aA (b:Int)) g (aA (i:Int)) met,rfl,Zi9 (zv rfl rfl (.inl ⟨t,k⟩) () () p) ?_⟩;ext s ⟨W,rfl,S,k1⟩;apply WH (zv rfl rfl (.inr ⟨t,k⟩) () () k1) λs ⟨z,e,T,k2⟩=>⟨_,_,z,e,(),k2⟩
  ·ext s ⟨d,c,x,met,rfl,u,p⟩;show⟨if met.length=n then M5 ts else .Ma,?_,?_⟩
   ·delta KS;by_cases h:met.length=n
    ·simp[JV,h]
    ·let h':¬((met.length:Int)=(n:Int)):=()
     simp[JV,h,h']
   ·by_cases h:met.length=n
    ·rw[An h];apply .inr ⟨ts,rfl,ok,(),p.y_ h,λh=>()⟩
    ·rw[N4 h];apply .inl rfl
def Zl3(ts:List X7)(a b:Int):∃c,BK (M5 ts) (.tup [.int a,.int b])=aA c:=⟨_,rfl⟩
def Zda(a b:Gj):(NV a b).length=la a:=by simp[NV]
def V5(W:N7)(D S:Gj):(A4 W D S).length=la D:=by simp[A4]
def Up(h:i<a.length):Cz (NV a b) i=Cz a i+Cz b i:=Yp h
def RZ(h:i<a.length):Cz (A4 W a b) i=Cz a i+K3 W b i:=Yp h
def R0(c:a.length=b.length)(h:∀i,i<a.length->Cz a i=Cz b i):a=b:=by rw[<-Qm a,<-Qm b,c];apply((aq));ext i d;apply h i (by rw[c];apply ao.mp d)
def Oo(ok:Zu W)(a:i<W.length):(Kl W i).sum=((aL W.length).map λj=>GQ W i j).sum:=by rw[<-Zfj (Kl W i),ok.sq i a];rfl
def hi(ok:Zu W):((Mw W).length:Int)=((aL W.length).map λa=>((aL (W.length-(a+1))).map λj=>GQ W a (a+1+j)).sum).sum:=by
 let b:∀(f:Nat->List (List Int))(n:Nat),(((aL n).flatMap f).length:Int)=((aL n).map λi=>((f i).length:Int)).sum:=by
  ext f n
  induction n with
  | zero=>rfl
  | succ n N8=>rw[WO,ah,YI];lia
 delta Mw;rw[b];apply((X9));ext a c;delta Nq;rw[b];apply((X9));ext j d;let:=ok.lo a (a+1+j) c ();delta K2;rw[aJ,bZ];lia
def Zdb(ok:Zu W):((aL W.length).map λi=>(Kl W i).sum).sum=2*((Mw W).length:Int):=by rw[hi ok,<-pg (λi j=>GQ W i j) W.length (λi j a b=>ok.sym i j a b) (λi a=>ok.uR i a)];apply((X9));ext i a;apply Oo ok a
def ti(g:Ka)(a:fi s=aA (KG m))(c:m<=1000)(h:∀i:Nat,i<m->∃s1,CS (.one 0) (.int (i:Int)) (CT n ix s)=aA s1/\ft s1=aA aD/\fe s1=aA (.int (g i))) :
  AS n ix fi (.one 0) ft fe s=aA (.lst (iL ((aL m).map g))):=by
 rw[ZP (aL m) (λi=>.int (i:Int)) (λi=>.int (g i)) a (by simp;lia) (λi b=>h i (ao.mp b))];simp
def Zdc(f g:Ka)(n:Nat):((aL n).map λi=>f i+g i).sum=((aL n).map f).sum+((aL n).map g).sum:=by
 induction n with
 | zero=>rfl
 | succ n N8=>rw[YI,YI,YI,N8];lia
def r7(e:∀i,i<W.length->Cz T i=Cz S i+Cz U i)(a:h<W.length):K3 W T h=K3 W S h+K3 W U h:=by
 delta K3;rw[<-Zdc];apply((X9));ext i b;rw[e i b,e h a,<-ky];congr 1
 lia
def Zha(b:D.length=W.length)(e:∀i,i<W.length->Cz T i=Cz S i+Cz U i):A4 W (A4 W D S) U=A4 W D T:=R0 (by simp[V5]) λi a=>by
 rw[V5,V5] at a;rw[RZ (by rw[V5];apply a),RZ a,RZ a,r7 e ()]
 lia
def Zl4(n:Nat)(c:Int):(aW n [PV.int c]).flatten=iL (aW n c):=by
 induction n with
 | zero=>rfl
 | succ n N8=>rw[eM,gk,N8,eM];rfl
def YZ(c:Int)(a:i<n):Cz (aW n c) i=c:=by delta Cz;rw[aK,cP,An a];rfl
def Zl5(l:Gj)(k:Nat):E4 (iL l) aB (aA (k:Int))=iL (l.take k):=by
 delta E4;rw[HT.k4,HT.i_,aJ,sd,Nat.sub_zero,<-ke];congr 1;by_cases h:k<=la l
 ·rw[i8 h]
 ·rw[k6 (),cN (aU _),cN ()]
def Zl6(l:Gj)(k:Nat):E4 (iL l) (aA (k:Int)) aB=iL (l.drop k):=by
 delta E4;rw[HT.k4,HT.i_,aJ,<-me];congr 1;by_cases h:k<=la l
 ·rw[i8 h,cN ⋯]
 ·rw[k6 (),gM (aU _),gM ()];simp
def Zhb{l:Gj}{h:Nat}(v:Int)(a:h<la l):l.take h++[v]++l.drop (h+1)=l.set h v:=by rw[fL,List.set_eq_take_append_cons_drop,An a];rfl
def Se(h:x∈l):∃i,i<l.length/\Cz l i=x:=by let⟨i,a,e⟩:=cW h;show⟨i,a,?_⟩;delta Cz;rw[aK,aF a,e];rfl
def NY(l:Gj):List Int:=(aL (la l)).map λi=>Cz l i-M4 l
def Wh{y:Nat}{l:N6}:(y:Int)∈EF l↔y∈l:=by delta EF;rw[aa];apply⟨λ⟨a,h,e⟩=>by rw[show y=a by lia];apply h,λh=>⟨y,h,rfl⟩⟩
def Ko(W:N7)(h:Nat)(F:N6):Int:=(F.map λo=>GQ W h o).sum
def ob{W:N7}{h i j k:Nat}{F:N6}{s:ZK}(ok:Zu W)(a:h<la W)(f:∀x∈F,x<la W)(m:la F<=100)(d:s[i]?=aA (aA (wP W)))(b:s[j]?=aA (aA (.int (h:Int))))(g:s[k]?=aA (aA (.lst (iL (EF F))))) :
  AK Nd [AS 1 [i,j] (G6 (Cw k)) (.one 0) MV (Cy JZ (Cy JZ (Cw 1) (Cw 2)) (Cw 0))] s=aA (.int (Ko W h F)):=by
 let e:AS 1 [i,j] (G6 (Cw k)) (.one 0) MV (Cy JZ (Cy JZ (Cw 1) (Cw 2)) (Cw 0)) s=aA (.lst (iL (F.map λo=>GQ W h o))):=by
  rw[ZP F (λo=>.int (o:Int)) (λo=>.int (GQ W h o)) (by simp[g,EF]) () (λo l=>⟨_,rfl,rfl,?_⟩)]
  ·simp
  ·let c:=ok.sq h a;let:=YX (by rw[c];apply f o l);simp[CT,d,b,Uq a,this];rfl
 dsimp[Wc,Zt,e];apply Za3 _
def QY{W:N7}{h:Nat}{F:N6}{X:PV}(ok:Zu W)(a:h<la W)(d:∀x∈F,x<la W)(f:la F<=100)(b:Bk (Cw 2) [aA (wP W),aA (.int (h:Int)),aA X]=aA (iL (EF F))):FT [wP W,.int (h:Int),X]=aA (.int (Ko W h F)):=by
 let c:AS 1 [0,1] (Bk (Cw 2)) (.one 0) MV (Cy JZ (Cy JZ (Cw 1) (Cw 2)) (Cw 0)) [aA (wP W),aA (.int (h:Int)),aA X]=aA (.lst (iL (F.map λo=>GQ W h o))):=by
  rw[ZP F (λo=>.int (o:Int)) (λo=>.int (GQ W h o)) (by rw[b];simp[EF]) () (λo e=>⟨_,rfl,rfl,?_⟩)]
  ·simp
  ·let:=YX (by rw[ok.sq h a];apply d o e);simp[CT,Uq a,this];rfl
 change(AQ _ [aA (wP W),aA (.int (h:Int)),aA X]).bind MB=_
 rw[w6 (vP (by
  dsimp[Wc,Zt,c];apply Za3 _))]
 rfl
def h2{W:N7}{h:Nat}{F:N6}(ok:Zu W)(a:h<la W)(b:∀x∈F,x<la W)(c:la F<=100):FT [wP W,.int (h:Int),.lst (iL (EF F))]=aA (.int (Ko W h F)):=QY ok a b c (Zn2 rfl)
def E5(W:N7)(D:Gj)(F:N6):Option Nat:=(aL (la W)).find? λh=>!decide (h∈F)&&decide (Cz D h<Ko W h F)
def Lw:Option Nat->PV
 | none=>.Ma
 | some h=>.int (h:Int)
def S4(y:Nat)(l:N6):J7 aD (.int (y:Int)) (.lst (iL (EF l)))=aA (.Ap (!decide (y∈l))):=by rw[SA];let:=Wh (y:=y) (l:=l);simp[this]
def Sf(y:Nat)(l:N6):J7 aC (.int (y:Int)) (.lst (iL (EF l)))=aA (.Ap (decide (y∈l))):=by rw[SA];let:=Wh (y:=y) (l:=l);simp[this]
def QL{W:N7}{D:Gj}{F:N6}(ok:Zu W)(a:la D=la W)(c:∀x∈F,x<la W)(d:la F<=100):Hj [wP W,pP D,.lst (iL (EF F))]=aA (Lw (E5 W D F)):=
 XB (Zja (L:=aL (la W)) (q:=λ(i:Nat)=>.tup [.int (i:Int),.int (Cz D i)]) (g:=λi=>.int (i:Int)) (λh=>!decide (h∈F)&&decide (Cz D h<Ko W h F)) (λs=>∃x y,s=[aA (wP W),aA (pP D),aA (.lst (iL (EF F))),x,y]) (congrArg aA ((Zlx D).trans (by rw[a]))) ⟨aB,aB,rfl⟩ (by
  ext h b s ⟨x,y,e⟩;subst e
  apply⟨_,rfl,xa (xb (o2 rfl rfl (S4 h F))) (xb (o2 rfl (c3 rfl rfl rfl (h2 ok (ao.mp b) c d)) rfl)),rfl,_,_,rfl⟩) (λh e=>by delta E5;rw[e];rfl) λe s ⟨x,y,h⟩=>by
  subst h;apply Yd (ep rfl) (by delta E5;rw[e];rfl))
structure fu(W:N7)(D:Gj)(b:Nat)(F:N6):Prop where
 nd:F.Nodup
 lt:∀x∈F,x<la W
 hd:F[0]?=aA b
 st:∀k,1<=k->k<la F->E5 W D (F.take k)=F[k]?
def fu.len{W:N7}{D:Gj}{b:Nat}{F:N6}(h:fu W D b F):la F<=la W:=by
 let c:(EF F).Nodup:=List.Pairwise.map _ (λa b z=>()) h.nd;let:=Tz c λy e=>by let⟨a,d,rfl⟩:=aa.mp e;apply aa.mpr ⟨a,ao.mpr (h.lt a d),rfl⟩
 simpa [EF] using this
def fu.pos{W:N7}{D:Gj}{b:Nat}{F:N6}(h:fu W D b F):1<=la F:=(aQ.mp h.hd).1
def fu.one{W:N7}{D:Gj}{b:Nat}(a:b<la W):fu W D b [b]:=⟨⋯,λx d=>by rw[aO.mp d];apply a,rfl,λk e c=>by simp at c;lia⟩
def W9{W:N7}{D:Gj}{F:N6}{h:Nat}(e:E5 W D F=aA h):h<la W/\h∉F/\Cz D h<Ko W h F:=by let a:=oM e;let b:=jZ e;dsimp[af,jE,decide_eq_false_iff_not,decide_eq_true_eq] at a;apply⟨ao.mp b,a⟩
def UC{W:N7}{D:Gj}{F:N6}(e:E5 W D F=aB){h:Nat}(a:h<la W)(b:h∉F):Ko W h F<=Cz D h:=by let:=jz.mp e h (ao.mpr a);simp[b] at this;apply this
def fu.add{W:N7}{D:Gj}{b h:Nat}{F:N6}(B:fu W D b F)(e:E5 W D F=aA h):fu W D b (F++[h]):=by
 let⟨f,j,_⟩:=W9 e;let l:=B.pos;show⟨?_,λx d=>?_,?_,λk k1 k2=>?_⟩
 ·rw[dq];apply⟨B.nd,⋯,λa i c g z=>by rw[aO.mp g] at z;apply j (z▸i)⟩
 ·rcases aj.mp d with d | d
  ·apply B.lt x d
  ·rw[aO.mp d];apply f
 ·rw[bB ()];apply B.hd
 ·rw[ah,ba] at k2;by_cases q:k<la F
  ·rw[eQ (),bB q];apply B.st k k1 q
  ·have:k=la F:=()
   subst this;rw[ju,e]
   ·simp
   ·rfl
def R1{W:N7}{D:Gj}{b:Nat}(ok:Zu W)(g:la D=la W)(d:b<la W):∃F,Nw [wP W,pP D,.int (b:Int)]=aA (.lst (iL (EF F)))/\fu W D b F/\E5 W D F=aB:=by
 let j:=ok.j_;let f:∀{F:N6},fu W D b F->Hj [wP W,pP D,.lst (iL (EF F))]=aA (Lw (E5 W D F)):=λ{F} B=>QL ok g B.lt (by let:=B.len;lia)
 let a:∃v,Nw [wP W,pP D,.int (b:Int)]=aA v/\∃F,v = .lst (iL (EF F))/\fu W D b F/\E5 W D F=aB:=by
  show RW (Zr rfl (Zr (Zh (c3 rfl rfl rfl (f (fu.one d)))) (Wm (zK (λk s=>∃F,s=[aA (wP W),aA (pP D),aA (.int (b:Int)),aA (.lst (iL (EF F))),aA (Lw (E5 W D F))]/\fu W D b F/\la W<=k+la F) ⟨[b],rfl,fu.one d,by omega⟩ ?_) ?_)))
  ·ext k s ⟨F,rfl,B,l⟩
   cases e:E5 W D F with
   | none=>apply .inl rfl
   | some h=>
    let c:=B.add e;let i:=c.len;rw[ah,ba] at i;apply .inr ⟨rfl,YS (u0 rfl rfl ()) (n5 (Zh (c3 rfl rfl rfl (f c))) ⟨k-1,(),_,rfl,c,by rw[ah,ba];lia⟩)⟩
  ·ext s ⟨k,⟨F,rfl,B,_⟩,q⟩;show⟨_,rfl,F,rfl,B,?_⟩
   cases e:E5 W D F with
   | none=>rfl
   | some h=>rw[e] at q;cases q
 let⟨v,e,F,rfl,h⟩:=a;apply⟨F,e,h⟩
def fu.uniq{W:N7}{D:Gj}{b:Nat}{F G:N6}(d:fu W D b F)(f:fu W D b G)(g:E5 W D F=aB)(i:E5 W D G=aB):F=G:=by
 let l:=d.pos;let m:=f.pos
 let a:∀k,k<=la F->k<=la G->F.take k=G.take k:=by
  ext k
  induction k with
  | zero=>intros;simp
  | succ k N8=>
   ext j n;let e:=N8 () ();rw[jR,jR,e];congr 1;by_cases q:k=0
   ·subst q;rw[d.hd,f.hd]
   ·rw[<-d.st k () (),<-f.st k () (),e]
 rcases Nat.lt_trichotomy (la F) (la G) with h | h | h
 ·let:=a (la F) () ();rw[eD] at this;let c:=f.st (la F) () h;rw[<-this,g,aF h] at c;cases c
 ·let:=a (la F) () ();rw[eD,h,eD] at this;apply this
 ·let:=a (la G) () ();rw[eD] at this;let c:=d.st (la G) () h;rw[this,i,aF h] at c;cases c
def G9(D:Gj)(b:Nat):List Nat:=(aL (la D)).filter λh=>!decide (h=b)&&decide (Cz D h<0)
def SX{b:Nat}(f:D.length<=1000):Jj [pP D,.int (b:Int)]=aA (.lst (iL (EF (G9 D b)))):=by
 let d:Lf aC [Cw 0] [aA (pP D),aA (.int (b:Int))]=aA ((aL D.length).map λi=>.tup [.int (i:Int),.int (Cz D i)]):=by let:=Za D;simp[this]
 let c:AS 2 [1] (Lf aC [Cw 0]) (.many [0,1]) (KJ (AO (Cy (J1 aD) (Cw 0) (Cw 2))) (AO (Cy CV (Cw 1) (AL (.int 0))))) (AN (Cw 0)) [aA (pP D),aA (.int (b:Int))]=aA (.lst (iL (EF (G9 D b)))):=by
  rw[WD (aL D.length) (λi=>.tup [.int (i:Int),.int (Cz D i)]) (λi=>.int (i:Int)) (λh=>!decide (h=b)&&decide (Cz D h<0)) d (by simp;lia) λy e=>⟨[aA (.int (y:Int)),aA (.int (Cz D y)),aA (.int (b:Int))],by simp[CT,cb],?_,λ_=>⋯⟩]
  ·delta EF G9 iL;rw[bS];rfl
  ·by_cases q:y=b
   ·subst q;simp
   ·let a:¬(y:Int)=(b:Int):=()
    simp[q,a]
 change(AQ _ [aA (pP D),aA (.int (b:Int))]).bind MB=_;rw[w6 c];rfl
def ny:G9 D b=[]↔∀h,h<D.length->h≠b->0<=Cz D h:=by
 delta G9;rw[List.filter_eq_nil_iff];constructor
 ·ext h x a c;let:=h x (ao.mpr a);simp[c] at this;apply this
 ·ext h x a;by_cases q:x=b
  ·simp[q]
  ·let:=h x (ao.mp a) q;simp[q];lia
def Zde:h∈G9 D b↔h<D.length/\h≠b/\Cz D h<0:=by delta G9;simp
def SY:∀{l:Gj},(∀x∈l,0<=x)->0<=l.sum
 | [],_=>⋯
 | x::r,h=>by
  rw[cO];let:=h x ar;let:=SY (l:=r) λy a=>h y (aS _ a)
  lia
def h1(ok:Zu W)(a:i<W.length):∀x∈Kl W i,0<=x:=λx c=>by let⟨j,b,rfl⟩:=Se c;rw[ok.sq i a] at b;apply ok.lo i j a b
end _p
namespace _p
open PySem _l _v _x
section
variable {f:XE} {s:ZK}
def zG(q:f s=aA w):DE f s=aA (.L4 s):=by change(f s).map _=_;rw[q];rfl
end
def Oq(b:f s=aA (pP l))(a:g s=aA (.int (k:Int)))(h:k<l.length):MW G7 f CP (AY g) s=aA (pP (l.take k)):=by
 rw[wR,b];dsimp[aZ,Xm];delta AY;rw[a];dsimp[aZ];delta G7;dsimp[];rw[N4,Zl5];rw[HT.k4,HT.i_,aJ]
 lia
def Ot(b:f s=aA (pP l))(a:g s=aA (.int (k:Int)))(h:k<l.length):MW G7 f (AY (Cy YD g (AL (.int 1)))) CP s=aA (pP (l.drop (k+1))):=by
 let a:Cy YD g (AL (.int 1)) s=aA (.int ((k+1:Nat):Int)):=by rw[Og,a];rfl
 rw[wR,b];dsimp[aZ,Xm];delta AY;rw[a];dsimp[aZ];delta G7;dsimp[];rw[N4,Zl6];rw[HT.k4,HT.i_,aJ]
 lia
def Vr(h:a.length+b.length<=1000):E1 (pP a) (pP b)=aA (pP (a++b)):=by delta E1;dsimp[];rw[An (by rw[aJ,aJ];lia),<-bR]
def Zl7(c:f s=aA (pP l))(d:g s=aA (.int (k:Int)))(e:h s=aA (.int v))(a:k<l.length)(i:l.length<=900) :
  AN (Cy E1 (Cy E1 (MW G7 f CP (AY g)) (EM [h])) (MW G7 f (AY (Cy YD g (AL (.int 1)))) CP)) s=aA (pP (l.set k v)):=by
 show PJ (o2 (o2 (Oq c d a) (b:=pP [v]) ?_ (Vr (by rw[bK,ba];lia))) (Ot c d a) ?_)
 ·rw[Rt,Zt,e];rfl
 ·rw[Vr (by rw[ah,bK,cQ,ba];lia),Zhb v a]
end _p
namespace _p
def AM:Nat->(Nat->Int)->Int
 | 0,_=>0
 | n+1,f=>AM n f+f n
def Zn:∀{n:Nat},(∀i,i<n->f i=g i)->AM n f=AM n g
 | 0,_=>rfl
 | n+1,h=>by change AM n f+f n=AM n g+g n;rw[Zn λi a=>h i (),h n ()]
def R3(h:∀i,i<n->f i=0):AM n f=0:=by
 rw[Zn h];clear h
 induction n with
 | zero=>rfl
 | succ n N8=>show AM n _+0=0;rw[N8];rfl
def Yq(f g:Ka):∀n,AM n (λi=>f i+g i)=AM n f+AM n g
 | 0=>rfl
 | n+1=>by change AM n _+(f n+g n)=(AM n f+f n)+(AM n g+g n);rw[Yq f g n];lia
def ZN(c:Int)(f:Ka):∀n,AM n (λi=>c*f i)=c*AM n f
 | 0=>by change(0:Int)=c*0;simp
 | n+1=>by change AM n _+c*f n=c*(AM n f+f n);rw[ZN c f n,ky]
def Ou(f:J_)(m:Nat):∀n,AM n (λi=>AM m (f i))=AM m (λj=>AM n λi=>f i j)
 | 0=>by change(0:Int)=AM m λ_=>0;rw[R3 (λ_ _=>rfl)]
 | n+1=>by change AM n (λi=>AM m (f i))+AM m (f n)=AM m (λj=>(AM n λi=>f i j)+f n j);rw[Yq,Ou f m n]
def Yg:∀{n:Nat},k<n->(∀i,i<n->i≠k->f i=0)->AM n f=f k
 | 0,h,_=>()
 | n+1,h,z=>by
  change AM n f+f n=f k;by_cases q:k=n
  ·subst q;rw[R3 λi a=>z i () ()];lia
  ·rw[Yg (n:=n) () λi a=>z i (),z n () ()];lia
def Zdg:∀{n:Nat},k+1<n->(∀i,i<n->i≠k->i≠k+1->f i=0)->AM n f=f k+f (k+1)
 | 0,h,_=>()
 | n+1,h,z=>by
  change AM n f+f n=_;by_cases q:k+1=n
  ·subst q;rw[Yg (k:=k) () λi a b=>z i () b ()]
  ·rw[Zdg (n:=n) () λi a=>z i (),z n () () ()];lia
def R4(f:Ka)(n:Nat):((aL n).map f).sum=AM n f:=by
 induction n with
 | zero=>rfl
 | succ n N8=>rw[jm,bR,oH,N8];simp[AM]
abbrev Mt:=Nat->Nat->Int
def Ku(i:Nat)(A:Mt):Mt:=λr c=>A (if r<i then r else r+1) (c+1)
def Nm:Nat->Int
 | 0=>1
 | n+1=>- Nm n
def CH:Nat->Mt->Int
 | 0,_=>1
 | n+1,A=>AM (n+1) λi=>Nm i*A i 0*CH n (Ku i A)
def Wo(n:Nat)(A:Mt):CH (n+1) A=AM (n+1) λi=>Nm i*A i 0*CH n (Ku i A):=rfl
def WQ:∀{n:Nat}{A B:Mt},(∀r c,r<n->c<n->A r c=B r c)->CH n A=CH n B
 | 0,_,_,_=>rfl
 | n+1,A,B,h=>by rw[Wo,Wo];show Zn λi a=>?_;rw[h i 0 a (),WQ (n:=n) (A:=Ku i A) (B:=Ku i B) λr c d b=>?_];delta Ku;apply h _ _ (by split<;>lia) ()
def Uy:∀{n:Nat}{A B C:Mt}{k:Nat}{x y:Int},k<n->(∀r c,r<n->c<n->r≠k->A r c=C r c/\B r c=C r c)->(∀c,c<n->C k c=x*A k c+y*B k c)->CH n C=x*CH n A+y*CH n B
 | 0,_,_,_,k,_,_,h,_,_=>()
 | n+1,A,B,C,k,x,y,hk,Es,Md=>by
  rw[Wo,Wo,Wo,<-ZN,<-ZN,<-Yq];show Zn λi f=>?_;by_cases q:i=k
  ·subst q;let g:CH n (Ku i A)=CH n (Ku i C):=WQ λr c d b=>by delta Ku;apply(Es _ _ (by split<;>lia) () (by split<;>lia)).1
   let l:CH n (Ku i B)=CH n (Ku i C):=WQ λr c d b=>by delta Ku;apply(Es _ _ (by split<;>lia) () (by split<;>lia)).2
   rw[g,l,Md 0 (),ky,ra];dsimp[fI,gy]
  ·let⟨j,m⟩:=Es i 0 f () q
   let e:CH n (Ku i C)=x*CH n (Ku i A)+y*CH n (Ku i B):=Uy (k:=if k<i then k else k-1) (by split<;>lia) (λr c d b a=>by
    delta Ku
    apply Es _ _ (by split<;>lia) () (by split at a<;>split<;>lia)) (λc b=>by
    let e:(if(if k<i then k else k-1)<i then(if k<i then k else k-1) else(if k<i then k else k-1)+1)=k:=by split<;>(try split)<;>lia
    delta Ku;rw[e];apply Md (c+1) ())
   rw[j,m,e,ky];dsimp[fI,gy]
def Ov:∀{n:Nat}{A:Mt}{k:Nat},k+1<n->(∀c,c<n->A k c=A (k+1) c)->CH n A=0
 | 0,_,k,h,_=>()
 | n+1,A,k,hk,he=>by
  rw[Wo,Zdg hk]
  ·let e:CH n (Ku k A)=CH n (Ku (k+1) A):=WQ λr c m f=>by
    delta Ku;by_cases q:r<k
    ·rw[An q,An ()]
    ·rw[N4 q];by_cases b:r=k
     ·subst b;rw[An ()];apply(he (c+1) ()).symm
     ·rw[N4 ()]
   rw[e,he 0 ()];change Nm k*_*_ + - Nm k*_*_=0;rw[eU,eU];lia
  ·ext i g l j;rw[Ov (n:=n) (A:=Ku i A) (k:=if k+1<i then k else k-1) (by split<;>lia) λc f=>?_,gz];let a:(if(if k+1<i then k else k-1)<i then(if k+1<i then k else k-1) else(if k+1<i then k else k-1)+1)=k:=by split<;>(try split)<;>lia
   let d:(if(if k+1<i then k else k-1)+1<i then(if k+1<i then k else k-1)+1 else(if k+1<i then k else k-1)+1+1)=k+1:=by split<;>(try split)<;>lia
   delta Ku;rw[a,d];apply he (c+1) ()
noncomputable def put(k:Nat)(v:Ka)(A:Mt):Mt:=λr=>if r=k then v else A r
def YL(k:Nat)(v:Ka)(A:Mt):put k v A k=v:=by delta put;rw[An rfl]
def Vw(v:Ka)(A:Mt)(h:r≠k):put k v A r=A r:=by delta put;rw[N4 h]
def R5(a:k<n):CH n (put k (λc=>x*u c+y*v c) A)=x*CH n (put k u A)+y*CH n (put k v A):=
 Uy a (λr c _ _ h=>by rw[Vw _ _ h,Vw _ _ h,Vw _ _ h];apply⟨rfl,rfl⟩) (λc _=>by rw[YL,YL,YL])
def Hq(k:Nat)(A:Mt):Mt:=put k (A (k+1)) (put (k+1) (A k) A)
def Zhc(d:k+1<n):CH n (Hq k A) = - CH n A:=by
 let two:∀u v:Nat->Int,CH n (put k (λc=>1*u c+1*v c) (put (k+1) (λc=>1*u c+1*v c) A))=0:=λu v=>Ov d λc _=>by rw[YL,Vw _ _ (),YL]
 let same:∀u:Nat->Int,CH n (put k u (put (k+1) u A))=0:=λu=>Ov d λc _=>by rw[YL,Vw _ _ (),YL]
 let a:∀u v:Nat->Int,put k u (put (k+1) v A)=put (k+1) v (put k u A):=λu v=>by
  funext r;delta put;by_cases q:r=k
  ·rw[An q,N4 (),An q]
  ·rw[N4 q];by_cases b:r=k+1
   ·rw[An b,An b]
   ·rw[N4 b,N4 b,N4 q]
 let h:=two (A k) (A (k+1));rw[R5 (),a,R5 d,a,R5 d,<-a,<-a,<-a,<-a,same,same] at h
 let e:put k (A k) (put (k+1) (A (k+1)) A)=A:=by
  funext r;delta put;by_cases q:r=k
  ·rw[An q,q]
  ·rw[N4 q];by_cases b:r=k+1
   ·rw[An b,b]
   ·rw[N4 b]
 rw[e] at h;delta Hq
 lia
def TC:∀(d:Nat){n i:Nat}{A:Mt},i+1+d<n->(∀c,c<n->A i c=A (i+1+d) c)->CH n A=0
 | 0,n,i,A,h,e=>Ov h e
 | d+1,n,i,A,h,e=>by
  let b:CH n (Hq (i+1+d) A)=0:=TC d (n:=n) (i:=i) () λc a=>by delta Hq;rw[Vw _ _ (),Vw _ _ (),YL];apply e c a
  rw[Zhc ()] at b
  lia
def Vu(d:i<n)(f:j<n)(b:i≠j)(e:∀c,c<n->A i c=A j c):CH n A=0:=by
 rcases Nat.lt_or_gt_of_ne b with h | h
 ·apply TC (j-i-1) (i:=i) () λc a=>by rw[show i+1+(j-i-1)=j by lia];apply e c a
 ·apply TC (i-j-1) (i:=j) () λc a=>by rw[show j+1+(i-j-1)=i by lia];apply(e c a).symm
def PZ:∀{n:Nat}{A:Mt},(∀c,c<n->A n c=0)->CH (n+1) A=A n n*CH n A
 | 0,A,_=>by
  change 0+1*A 0 0*1=A 0 0*1
  lia
 | n+1,A,h=>by
  rw[Wo (n+1)];change AM (n+1) _+Nm (n+1)*A (n+1) 0*_=_;rw[h 0 (),gz,hU,qy,Wo n,<-ZN];show Zn λi a=>?_;rw[PZ (n:=n) (A:=Ku i A) λc b=>?_]
  ·let e:Ku i A n n=A (n+1) (n+1):=by delta Ku;rw[N4 ()]
   rw[e];dsimp[fI,gy]
  ·delta Ku;rw[N4 ()];apply h (c+1) ()
def UZ{A:Mt}{a:Ka}{v:J_}(b:j<n):∀m,CH n (put j (λc=>AM m λk=>a k*v k c) A)=AM m λk=>a k*CH n (put j (v k) A)
 | 0=>by have:CH n (put j (λc=>0*(0:Int)+0*(0:Int)) A)=0*CH n (put j (λ_=>0) A)+0*CH n (put j (λ_=>0) A):=R5 (u:=λ_=>0) (v:=λ_=>0) b;dsimp[hU,qy] at this;apply this
 | m+1=>by let:=R5 (n:=n) (A:=A) (u:=λc=>AM m λk=>a k*v k c) (v:=v m) (x:=1) (y:=a m) b;dsimp[pI] at this;change CH n (put j (λc=>(AM m λk=>a k*v k c)+a m*v m c) A)=_;rw[this,UZ b m];rfl
def Zhd{A:Mt}{a:Ka}(d:j<n):CH n (put j (λc=>AM n λk=>a k*A k c) A)=a j*CH n A:=by
 rw[UZ d n,Yg d]
 ·have:put j (A j) A=A:=by funext r;delta put;split<;>simp_all
  rw[this]
 ·ext i e b;rw[Vu e d b λc _=>by rw[Vw _ _ b,YL],gz]
def Ee(n:Nat)(A:Mt)(i j:Nat):Int:=CH n (put j (λc=>if c=i then 1 else 0) A)
def Zhe(b:j<n)(v:Ka):AM n (λi=>v i*Ee n A i j)=CH n (put j v A):=by
 delta Ee;rw[<-UZ b n];show WQ λr c f d=>?_;delta put;split
 ·change AM n (λk=>v k*if c=k then 1 else 0)=v c;rw[Yg d]
  ·simp
  ·ext i e a;rw[N4 (λz=>a z.symm),gz]
 ·rfl
def Tp(b:k<n)(a:j<n):AM n (λi=>A k i*Ee n A i j)=if k=j then CH n A else 0:=by
 rw[Zhe a];split
 ·rename_i h;subst h;have:put k (A k) A=A:=by funext r;delta put;split<;>simp_all
  rw[this]
 ·rename_i h;apply Vu b a h λc _=>by rw[Vw _ _ h,YL]
def QM:∀{m:Nat},q<=m->(∀k,q<=k->k<m->f k=0)->AM m f=AM q f
 | 0,h,_=>by rw[show q=0 by lia]
 | m+1,h,z=>by
  by_cases e:q=m+1
  ·rw[e]
  ·change AM m f+f m=_;rw[QM (m:=m) () (λk a b=>z k a ()),z m () ()];lia
def W6:∀{m:Nat},q<=i->i<m->(∀k,q<=k->k<m->k≠i->f k=0)->AM m f=AM q f+f i
 | 0,_,h,_=>()
 | m+1,hq,N9,z=>by
  change AM m f+f m=_;by_cases e:i=m
  ·subst e;rw[QM (q:=q) () λk a b=>z k a () ()]
  ·rw[W6 (m:=m) hq () (λk a b=>z k a ()),z m () () (λq=>e q.symm)];lia
def AW(m:Nat)(X:Mt):Nat->Mt×Int
 | 0=>(X,1)
 | p+1=>(λi j=>if i=p then(AW m X p).1 i j else((AW m X p).1 p p*(AW m X p).1 i j-(AW m X p).1 i p*(AW m X p).1 p j).fdiv (AW m X p).2,(AW m X p).1 p p)
structure uI(m:Nat)(A X:Mt):Prop where
 sym:∀i j,i<m->j<m->A i j=A j i
 inj:∀p,p<=m->∀z:Nat->Int,(∀j,j<p->AM p (λk=>z k*A k j)=0)->∀k,k<p->z k=0
 ext:∀i j,i<m->j<m->X i j=A i j
structure Zqg(m p:Nat)(X:Mt)(E:Mt)(d:Int)(i:Nat)(a:Ka):Prop where
 off:∀k,k<m->p<=k->k≠i->a k=0
 on:p<=i->a i=d
 val:∀j,j<=m->E i j=AM m (λk=>a k*X k j)
 vJ:∀j,j<p->E i j=if i=j then d else 0
structure xZ(m:Nat)(A X:Mt)(p:Nat)(E:Mt)(d:Int):Prop where
 de:d=CH p A
 nz:d≠0
 row:∀i,i<m->∃a,Zqg m p X E d i a
def S1(ok:uI m A X)(Gn:p<m)(I:xZ m A X p E d) :
  xZ m A X (p+1) (λi j=>if i=p then E i j else(E p p*E i j-E i p*E p j).fdiv d) (E p p)/\∀i j,i<m->j<=m->i≠p->∃q,E p p*E i j-E i p*E p j=d*q:=by
 let⟨v,t⟩:=I.row p Gn;let N:=I.nz
 -- AA xA row
 let x:∀j,j<m->E p j=AM (p+1) (λk=>v k*A k j):=λj g=>by
  rw[t.val j (),QM (q:=p+1) () λk u w=>by rw[t.off k w () (),hU]];apply Zn λk f=>by rw[ok.ext k j () g]
 let Y:E p p=CH (p+1) A:=by
  let u:=Zhd (n:=p+1) (j:=p) (A:=A) (a:=v) ();let w:=PZ (A:=put p (λc=>AM (p+1) λk=>v k*A k c) A) λc T=>by rw[YL];rw[<-x c (),t.vJ c T,N4 ()]
  let O:CH p (put p (λc=>AM (p+1) λk=>v k*A k c) A)=CH p A:=WQ λr c hr T=>by rw[Vw _ _ ()]
  rw[YL,O,u,t.on (aU p),<-I.de] at w;let Mp:d*CH (p+1) A=E p p*d:=by rw[w];rw[<-x p Gn]
  let h5:d*(CH (p+1) A)=d*E p p:=by rw[Mp,dF]
  apply(mF N h5).symm
 let pz:E p p≠0:=λz=>by
  let:=ok.inj (p+1) () v (λj g=>by
   rw[<-x j ()];by_cases q:j=p
   ·rw[q];apply z
   ·rw[t.vJ j (),N4 ()]) p ()
  rw[t.on (aU p)] at this;apply N this
 -- AA s rows
 let s:∀i,i<m->i≠p->∃b:Nat->Int,(∀k,k<m->p+1<=k->k≠i->b k=0)/\(p+1<=i->b i=E p p)/\(∀l,l<p+1->AM m (λk=>b k*A k l)=if i=l then E p p else 0)/\∀j,j<=m->E p p*E i j-E i p*E p j=d*AM m (λk=>b k*X k j):=by
  ext i D o
  obtain⟨b,b1,J,L⟩:∃b:Nat->Int,(∀k,k<m->p+1<=k->k≠i->b k=0)/\(p+1<=i->b i=E p p)/\(∀l,l<p+1->AM m (λk=>b k*A k l)=if i=l then E p p else 0):=by
   let U:∀j l,j<p+1->l<p+1->AM (p+1) (λk=>Ee (p+1) A k j*A k l)=if l=j then E p p else 0:=λj l g B=>by
    rw[Y,<-Tp B g];apply Zn λk f=>by rw[ok.sym l k () (),dF]
   by_cases q:i<p
   ·obtain⟨b,y⟩:∃b:Nat->Int,∀k,b k=if k<p+1 then Ee (p+1) A k i else 0:=⟨_,λ_=>rfl⟩
    show⟨b,λk f u _=>by rw[y,N4 ()],λh=>(),λl B=>?_⟩;rw[QM (q:=p+1) () λk u w=>by rw[y,N4 (),hU]];rw[Zn λk f=>by rw[y,An f],U i l () B];by_cases e:i=l
    ·rw[An e,An e.symm]
    ·rw[N4 e,N4 (λz=>e z.symm)]
   ·obtain⟨b,y⟩:∃b:Nat->Int,∀k,b k=if k<p+1 then-AM (p+1) (λj=>A i j*Ee (p+1) A k j) else if k=i then E p p else 0:=⟨_,λ_=>rfl⟩
    let G:b i=E p p:=by rw[y,N4 (),An rfl]
    show⟨b,λk f u w=>by rw[y,N4 (),N4 w],λh=>G,λl B=>?_⟩;rw[W6 (q:=p+1) () D λk u w O=>by rw[y,N4 (),N4 O,hU]];rw[G]
    let Q:AM (p+1) (λk=>b k*A k l)=AM (p+1) (λk=>(-1)*AM (p+1) (λj=>A i j*(Ee (p+1) A k j*A k l))):=Zn λk f=>by
     rw[y,An f,eU,dF _ (A k l),<-ZN,eU,pI];congr 1;apply Zn λj _=>by rw[dF (A k l),fI]
    rw[Q,ZN,Ou];let e2:(AM (p+1) λj=>AM (p+1) λk=>A i j*(Ee (p+1) A k j*A k l))=A i l*E p p:=by rw[Zn λj g=>by rw[ZN,U j l g B]];rw[Yg B λj _ R=>by rw[N4 (λz=>R z.symm),gz],An rfl]
    rw[e2,dF (E p p)];lia
  show⟨b,b1,J,L,?_⟩;let⟨C,H⟩:=I.row i D
  let hw:∀k,k<m->E p p*C k-E i p*v k-d*b k=0:=by
   let F:∀k,k<m->p+1<=k->E p p*C k-E i p*v k-d*b k=0:=λk f u=>by
    let Z:=t.off k f () ();by_cases q:k=i
    ·subst q;rw[H.on (),Z,J u,dF d];lia
    ·rw[H.off k f () q,Z,b1 k f u q];lia
   ext k f;by_cases q:k<p+1
   ·show ok.inj (p+1) () (λk=>E p p*C k-E i p*v k-d*b k) (λl B=>?_) k q;rw[<-QM (m:=m) () λk u w=>by rw[F k w u,hU]]
    let Q:AM m (λk=>(E p p*C k-E i p*v k-d*b k)*A k l)=E p p*AM m (λk=>C k*A k l)+((- E i p)*AM m (λk=>v k*A k l)+(- d)*AM m (λk=>b k*A k l)):=by
     rw[<-ZN,<-ZN,<-ZN,<-Yq,<-Yq]
     apply Zn λk _=>by
      rw[Int.sub_mul,Int.sub_mul];dsimp[fI,eU]
      lia
    let S:∀a:Nat->Int,AM m (λk=>a k*X k l)=AM m (λk=>a k*A k l):=λa=>Zn λk f=>by rw[ok.ext k l f ()]
    rw[Q,L l B,<-S,<-S,<-H.val l (),<-t.val l ()];by_cases aah:l=p
    ·subst aah;rw[N4 o,dF (E l l),eU];lia
    ·rw[H.vJ l (),t.vJ l (),N4 (show ¬p=l by lia)];by_cases M:i=l
     ·rw[An M,An M,eU d,dF d];lia
     ·rw[N4 M,N4 M];lia
   ·apply F k f ()
  ext j g;rw[H.val j g,t.val j g,<-ZN,<-ZN,<-ZN]
  have:AM m (λk=>E p p*(C k*X k j))=AM m (λk=>d*(b k*X k j))+AM m (λk=>E i p*(v k*X k j)):=by
   rw[<-Yq];show Zn λk f=>?_;let:=hw k f;rw[<-fI,<-fI,<-fI,<-ra];congr 1
   lia
  lia
 show⟨⟨Y,pz,λi D=>?_⟩,λi j D g o=>?_⟩
 ·by_cases o:i=p
  ·subst o;show⟨v,λk f u w=>t.off k f () w,λh=>(),λj g=>by rw[An rfl];apply t.val j g,λj g=>?_⟩;rw[An rfl];by_cases q:i=j
   ·subst q;rw[An rfl]
   ·rw[N4 q,t.vJ j (),N4 q]
  ·let⟨b,b1,J,L,P⟩:=s i D o;let W:∀j,j<=m->(E p p*E i j-E i p*E p j).fdiv d=AM m (λk=>b k*X k j):=λj g=>by rw[P j g,jh _ N]
   show⟨b,b1,J,λj g=>by rw[N4 o];apply W j g,λj g=>?_⟩;rw[N4 o,W j (),<-L j g];apply Zn λk f=>by rw[ok.ext k j f ()]
 ·let⟨b,b1,J,L,P⟩:=s i D o;apply⟨_,P j g⟩
def XD(ok:uI m A X):∀{p:Nat},p<=m->xZ m A X p (AW m X p).1 (AW m X p).2
 | 0,_=>⟨rfl,(show(1:Int)≠0 by decide),λi a=>⟨λk=>if k=i then 1 else 0,λk _ _ h=>N4 h,λ_=>An rfl,λj c=>by rw[Yg (k:=i) a λk _ b=>by rw[N4 b,hU],An rfl,pI];rfl,λj c=>()⟩⟩
 | p+1,h=>(S1 ok () (XD ok (p:=p) ())).1
def x7(ok:uI m A X)(b:k<m):AM m (λi=>A k i*(AW m X m).1 i m)=(AW m X m).2*X k m:=by
 let I:=XD ok (aU m);generalize s:(AW m X m).1=E at I ⊢;generalize r:(AW m X m).2=d at I ⊢;let o:=I.nz
 let f:∀k,k<m->AM m (λi=>A k i*AM m (λj=>Ee m A i j*X j m))=d*X k m:=λk b=>by
  rw[Zn (g:=λi=>AM m (λj=>A k i*(Ee m A i j*X j m))) λi _=>by rw[ZN]]
  rw[Ou,Zn (g:=λj=>(if k=j then d else 0)*X j m) λj p=>by
   rw[I.de,<-Tp b p,dF _ (X j m),<-ZN];apply Zn λi _=>by rw[dF (X j m),fI]]
  rw[Yg b λj _ h=>by rw[N4 (λz=>h z.symm),hU],An rfl]
 let n:∀i,i<m->E i m=AM m (λj=>Ee m A i j*X j m):=λi c=>by
  let⟨a,R⟩:=I.row i c;show mF o ?_;rw[R.val m (aU m),<-ZN];let q:AM m (λk=>d*(a k*X k m))=AM m (λk=>a k*AM m (λl=>A k l*AM m (λj=>Ee m A l j*X j m))):=Zn λk b=>by rw[f k b,gy]
  rw[q,Zn (g:=λk=>AM m (λl=>a k*A k l*AM m (λj=>Ee m A l j*X j m))) λk _=>by rw[<-ZN];apply Zn λl _=>by rw[fI]]
  rw[Ou,Zn (g:=λl=>(if i=l then d else 0)*AM m (λj=>Ee m A l j*X j m)) λl e=>by
   rw[<-R.vJ l e,R.val l (),dF _ (AM m λj=>Ee m A l j*X j m),<-ZN];apply Zn λk b=>by rw[ok.ext k l b e,dF]]
  rw[Yg c λl _ h=>by rw[N4 (λz=>h z.symm),hU],An rfl]
 rw[Zn λi c=>by rw[n i c]];apply f k b
open _l _v
def zF{z:Int}(h:z.natAbs<2^1000):z.natAbs.log2<1000:=by
 by_cases a:z.natAbs=0
 ·rw[a];decide +kernel
 ·apply(Nat.log2_lt a).mpr h
def RK(h:a.natAbs<2^1000)(h':b.natAbs<2^1000):Jc a b:=⟨by let:=zF h;lia,by let:=zF h';lia⟩
def Xb(c:b≠0)(h:b.natAbs<2^1000):IE a b:=⟨c,by let:=zF h;lia⟩
def Mb:Nat->Nat
 | 0=>2^7
 | p+1=>2*Mb p*Mb p
def Nb:Nat->Nat
 | 0=>2^208
 | p+1=>2*Mb p*Nb p
def Zol(h:p<=6):Mb p<2^1000:=by
 have:p=0\/p=1\/p=2\/p=3\/p=4\/p=5\/p=6:=()
 rcases this with rfl | rfl | rfl | rfl | rfl | rfl | rfl<;>decide +kernel
def Zqh(h:p<=6):Nb p<2^1000:=by
 have:p=0\/p=1\/p=2\/p=3\/p=4\/p=5\/p=6:=()
 rcases this with rfl | rfl | rfl | rfl | rfl | rfl | rfl<;>decide +kernel
def Ux{a b c d:Int}{M N:Nat}(g:a.natAbs<=M)(f:b.natAbs<=N)(h:c.natAbs<=M)(e:d.natAbs<=N):(a*b-c*d).natAbs<=2*M*N:=by
 let k:(a*b).natAbs<=M*N:=by rw[pJ];apply lq g f
 let i:(c*d).natAbs<=M*N:=by rw[pJ];apply lq h e
 let j:2*M*N=M*N+M*N:=by rw[Nat.mul_assoc];lia
 lia
def Ut{x d q:Int}(a:d≠0)(e:x=d*q):(x.fdiv d).natAbs<=x.natAbs:=by
 rw[e,jh _ a,pJ];have:1<=d.natAbs:=()
 calc q.natAbs=1*q.natAbs:=()
  _<=d.natAbs*q.natAbs:=kz _ this
def Zhh(p:Nat):Mb p<=Mb (p+1):=by
 let h:∀p,1<=Mb p:=λp=>by
  induction p with
  | zero=>decide
  | succ p N8=>apply lq (show 1<=2*Mb p by lia) N8
 calc Mb p=1*Mb p:=()
  _<=2*Mb p*Mb p:=kz _ (by let:=h p;lia)
def Zhi(p:Nat):Nb p<=Nb (p+1):=by
 let h:∀p,1<=Mb p:=λp=>by
  induction p with
  | zero=>decide
  | succ p N8=>apply lq (show 1<=2*Mb p by lia) N8
 calc Nb p=1*Nb p:=()
  _<=2*Mb p*Nb p:=kz _ (by let:=h p;lia)
def QO{A X:Mt}(ok:uI m A X)(f:∀i j,i<m->j<m->(X i j).natAbs<=2^7)(g:∀i,i<m->(X i m).natAbs<=2^208):∀{p:Nat},p<=m->(∀i j,i<m->j<m->((AW m X p).1 i j).natAbs<=Mb p)/\∀i,i<m->((AW m X p).1 i m).natAbs<=Nb p
 | 0,_=>⟨f,g⟩
 | p+1,Gn=>by
  let⟨b1,c⟩:=QO ok f g (p:=p) ();let I:=XD ok (p:=p) ();let h:=(S1 ok () I).2;show⟨λi j a d=>?_,λi a=>?_⟩
  ·change(if i=p then(AW m X p).1 i j else _).natAbs<=_;split
   ·apply cG (b1 i j a d) (Zhh p)
   ·rename_i b;let⟨q,e⟩:=h i j a () b;apply cG (Ut I.nz e) (Ux (b1 p p () ()) (b1 i j a d) (b1 i p a ()) (b1 p j () d))
  ·change(if i=p then(AW m X p).1 i m else _).natAbs<=_;split
   ·apply cG (c i a) (Zhi p)
   ·rename_i b;let⟨q,e⟩:=h i m a () b;apply cG (Ut I.nz e) (Ux (b1 p p () ()) (c i a) (b1 i p a ()) (c p ()))
def CC(w:Nat)(f:Ka):List Int:=(aL w).map f
def Xx(w:Nat)(f:Ka):(CC w f).length=w:=by simp[CC]
def S2(h:j<w):Cz (CC w f) j=f j:=Yp h
def VM(g:Ka)(d:fi s=aA ((aL w).map q))(e:w<=100)(h:∀j,j<w->∃s1,CS T (q j) (CT n ix s)=aA s1/\fe s1=aA (.int (g j))):AS n ix fi T MV fe s=aA (.lst (iL (CC w g))):=by
 rw[ZP (aL w) q (λj=>.int (g j)) d (by rw[bZ];lia) λj c=>by
  let⟨s1,a,b⟩:=h j (ao.mp c);apply⟨s1,a,rfl,b⟩]
 simp[CC]
def Xk(h:j<w):AZ (iL (CC w f)) (j:Int)=aA (.int (f j)):=by rw[YX (by rw[Xx];apply h),S2 h]
def xw(m:w<=100)(b:p<w)(e:∀j,j<w->(f j).natAbs<2^1000)(h:∀j,j<w->(g j).natAbs<2^1000)(l:d≠0)(c:d.natAbs<2^1000) :
  LS [pP (CC w f),pP (CC w g),.int (p:Int),.int d]=aA (pP (CC w λj=>(g p*f j-f p*g j).fdiv d)):=by
 show XQ (ret (PJ (c1 (VM (q:=λj=>.tup [.int (f j),.int (g j)]) (λj=>(g p*f j-f p*g j).fdiv d) ?_ m λj k=>⟨_,rfl,?_⟩) rfl)))
 ·change aA (Nc (iL (CC w f)) (iL (CC w g)))=_;rw[SI _ _ (by simp[Xx]),aJ,Xx];congr 1;show aq λi a=>?_;let a:=ao.mp a;rw[Ur _ i (by rw[Xx];apply a),Ur _ i (by rw[Xx];apply a),S2 a,S2 a]
 ·apply vC (vI (vC (o2 rfl rfl (Xk b)) rfl (RK (h p b) (e j k))) (vC (o2 rfl rfl (Xk b)) rfl (RK (e p b) (h j k)))) rfl (Xb l c)
def CN(m w:Nat)(E:Mt):List (List Int):=(aL m).map λi=>CC w (E i)
def Zhj(m w:Nat)(E:Mt):(CN m w E).length=m:=by simp[CN]
def CZ(M:N7):List PV:=M.map pP
def YV(m w:Nat)(E:Mt):CZ (CN m w E)=(aL m).map λi=>pP (CC w (E i)):=by delta CZ CN;rw[bS];rfl
def PA(m w:Nat)(E:Mt):(CZ (CN m w E)).length=m:=by simp[CZ,Zhj]
def w9(h:i<m):(CZ (CN m w E))[i]?=aA (pP (CC w (E i))):=by rw[YV,ag,eO h];rfl
def Vp(M:N7):CF (CZ M)=aD:=xS M
def VE(E:Mt)(d:fi s=aA ((aL m).map q))(e:m<=100)(h:∀j,j<m->∃s1,CS T (q j) (CT n ix s)=aA s1/\fe s1=aA (pP (CC w (E j)))):AS n ix fi T MV fe s=aA (.lst (CZ (CN m w E))):=by
 rw[ZP (aL m) q (λj=>pP (CC w (E j))) d (by rw[bZ];lia) λj c=>by
  let⟨s1,a,b⟩:=h j (ao.mp c);apply⟨s1,a,rfl,b⟩,YV]
def Wi(y:m<=6)(z:m<=w)(u:w<=m+1)(ok:uI m A X)(x:∀i j,i<m->j<m->(X i j).natAbs<=2^7)(n:∀i,i<m->(X i m).natAbs<=2^208)(o:R = .lst (CZ (CN m w X))\/R = .tup (CZ (CN m w X))) :
  Bt [R]=aA (.tup [.int (AW m X m).2,.lst (CZ (CN m w (AW m X m).1))]):=by
 let k:∀{p:Nat},p<=m->∀i j,i<m->j<m+1->((AW m X p).1 i j).natAbs<2^1000:=λ{p} d i j a f=>by
  let⟨b1,t⟩:=QO ok x n d;by_cases q:j<m
  ·apply eu (b1 i j a q) (Zol ())
  ·rw[show j=m by lia];apply eu (t i a) (Zqh ())
 let r:∀{p:Nat},p<=m->(AW m X p).2.natAbs<2^1000:=λ{p} d=>by
  cases p with
  | zero=>show(1:Int).natAbs<_;decide +kernel
  | succ p=>apply k () p p () ()
 let' st:=λp b c=>[aA R,aA (.lst (CZ (CN m w (AW m X p).1))),aA (.int (AW m X p).2),b,c]
 let g:MD [R]=aA (.lst (CZ (CN m w X)))/\CD [R]=aA (.int (m:Int)):=by
  rcases o with rfl | rfl
  ·apply⟨by rw[Za8,An (Vp _)],by change aA (PV.int ((CZ (CN m w X)).length:Int))=_;rw[PA]⟩
  ·apply⟨by rw[Za7,An (Vp _)],by change aA (PV.int ((CZ (CN m w X)).length:Int))=_;rw[PA]⟩
 suffices h:J4 IG (MQ 5 [R]) λv=>v = .tup [.int (AW m X m).2,.lst (CZ (CN m w (AW m X m).1))] by let⟨v,e,rfl⟩:=RW h;apply e
 show Zr (Zh (c1 rfl g.1)) (Zr (Zh (vP rfl)) (Wm (Pr (λp s=>∃b c,s=st p b c) (c1 rfl g.2) ⟨aB,aB,rfl⟩ ?_) ?_))
 ·ext p s d ⟨b,c,rfl⟩;let I:=XD ok (p:=p) ();let l:=λi j a f=>k (p:=p) () i j a f;show YS (Zh (PJ (o2 rfl rfl (Wy (w9 d))))) (YS (Zh (VE (AW m X (p+1)).1 (q:=λi=>.tup [.int (i:Int),pP (CC w ((AW m X p).1 i))]) ?_ () λi a=>⟨_,rfl,PJ ?_⟩)) (n5 (Zh (vP (o2 rfl rfl (Xk ())))) ⟨_,_,rfl⟩))
  ·change aA (KP (CZ (CN m w (AW m X p).1)))=_;rw[Wj,PA];congr 1;show aq λi a=>?_;rw[aK,w9 (ao.mp a)];rfl
  ·by_cases q:i=p
   ·apply tB (xb ((P6 rfl rfl).trans (by rw[decide_eq_true ()]))) (by rw[show(AW m X (p+1)).1 i=(AW m X p).1 i from funext λj=>An q];rfl)
   ·show PC (xb ((P6 rfl rfl).trans (by rw[decide_eq_false ()]))) ?_;rw[show(AW m X (p+1)).1 i=_ from funext λj=>N4 q];apply c4 rfl rfl rfl rfl (xw () () (λj f=>l i j a ()) (λj f=>l p j d ()) I.nz (r ()))
 ·ext s ⟨b,c,rfl⟩;apply⟨_,rfl,rfl⟩
def w7(g:m<=6)(ok:uI m A X)(b:∀i j,i<m->j<m->(X i j).natAbs<=2^7)(c:∀i,i<m->(X i m).natAbs<=2^208) :
  Jw [wP (CN m m A),pP (CC m λi=>X i m)]=aA (.lst (iL (CC m λi=>((AW m X m).1 i m).fdiv (AW m X m).2))):=by
 let I:=XD ok (aU m)
 let e:(AW m X m).2.natAbs<2^1000:=by
  cases m with
  | zero=>show(1:Int).natAbs<_;decide +kernel
  | succ k=>apply eu ((QO ok b c ()).1 k k () ()) (Zol ())
 show XQ (sq (Zh (c1 (VE (w:=m+1) X (q:=λi=>.tup [pP (CC m (A i)),.int (X i m)]) ?_ () λi a=>⟨_,rfl,?_⟩) (Wi g () () ok b c (.inl rfl)))) (ret (VM (q:=λi=>pP (CC (m+1) ((AW m X m).1 i))) _ ?_ () λi a=>⟨_,rfl,vP (vC (o2 rfl rfl ?_) rfl (Xb I.nz e))⟩)))
 ·change aA (Nc (CZ (CN m m A)) (iL (CC m λi=>X i m)))=_;rw[SI _ _ (by rw[PA,aJ,Xx]),PA];congr 1;show aq λi a=>?_;let a:=ao.mp a;rw[Ur _ i (by rw[Xx];apply a),S2 a,aK,w9 a];rfl
 ·let f:iL (CC m (A i))++[PV.int (X i m)]=iL (CC (m+1) (X i)):=by delta CC;rw[jm];simp;apply λj d=>(ok.ext i j a d).symm
  change(if(iL (CC m (A i))).length+[PV.int (X i m)].length<=10000 then aA (PV.tup (iL (CC m (A i))++[PV.int (X i m)])) else aB)=_;rw[An (by simp[Xx];lia),f]
 ·change aA (CZ (CN m (m+1) (AW m X m).1))=_;rw[YV]
 ·change AZ (iL (CC (m+1) ((AW m X m).1 i))) (-1)=_;delta AZ Kn;rw[aJ,Xx,N4 (),An (),show(-1+((m+1:Nat):Int)).toNat=m by lia];change(iL (CC (m+1) ((AW m X m).1 i)))[m]?=_;rw[O9 (by rw[Xx];lia),S2 ()]
def Kj(b i:Nat):Nat:=if i<b then i else i+1
def Ae(b h:Nat):Nat:=if h<b then h else h-1
def Zdi(b i:Nat):Kj b i≠b:=by delta Kj;split<;>lia
def Wf(h:i<m):Kj b i<m+1:=by delta Kj;split<;>lia
def QD(b i:Nat):Ae b (Kj b i)=i:=by delta Ae Kj;split<;>(try split)<;>lia
def Ox(q:h≠b):Kj b (Ae b h)=h:=by delta Ae Kj;split<;>(try split)<;>lia
def Zdj(a:b<m+1)(c:h<m+1)(q:h≠b):Ae b h<m:=by delta Ae;split<;>lia
def W_(c:n<=7)(a:b<n):(aL n).filter (λh=>!decide (h=b))=(aL (n-1)).map (Kj b):=by
 have:∀n,n<8->∀b,b<8->b<n->(aL n).filter (λh=>!decide (h=b))=(aL (n-1)).map (Kj b):=∅
 apply this n () b () a
def VA(a:f b=0):∀{m:Nat},b<m+1->AM (m+1) f=AM m (λi=>f (Kj b i))
 | 0,h=>by
  have:b=0:=()
  subst this;change 0+f 0=0;rw[a];rfl
 | m+1,h=>by
  by_cases q:b=m+1
  ·subst q;change AM (m+1) f+f (m+1)=_;rw[a,qy];apply Zn λi c=>by delta Kj;rw[An c]
  ·change AM (m+1) f+f (m+1)=AM m (λi=>f (Kj b i))+f (Kj b m);rw[VA a (m:=m) (),show Kj b m=m+1 by delta Kj;rw[N4 ()]]
def TF:∀{n:Nat},(∀i,i<n->0<=f i)->AM n f<=0->∀i,i<n->f i=0
 | 0,_,_,i,h=>()
 | n+1,h,s,i,a=>by
  let s:AM n f+f n<=0:=s
  let d:0<=AM n f:=by
   have:∀k,k<=n->0<=AM k f:=by
    ext k
    induction k with
    | zero=>ext _;apply cz 0
    | succ k N8=>ext b;let:=N8 ();let:=h k ();change 0<=AM k f+f k;lia
   apply this n (aU n)
  let c:=h n ();by_cases q:i=n
  ·subst q;lia
  ·apply TF (n:=n) (λi a=>h i ()) () i ()
def Yj:∀{n:Nat},(∀i,i<n->0<=f i)->0<=AM n f
 | 0,_=>cz 0
 | n+1,h=>by
  let:=Yj (n:=n) λi a=>h i ();let:=h n ();change 0<=AM n f+f n
  lia
def yq(Y:Ka):∀{n:Nat},0<n->∃h,h<n/\∀g,g<n->Y h<=Y g
 | 0,h=>()
 | 1,_=>⟨0,(),λg a=>by rw[show g=0 by lia];apply cz _⟩
 | n+2,_=>by
  let⟨h,c,b⟩:=yq Y (n:=n+1) ();by_cases q:Y h<=Y (n+1)
  ·apply⟨h,(),λg a=>by
    by_cases e:g=n+1
    ·rw[e];apply q
    ·apply b g ()⟩
  ·apply⟨n+1,(),λg a=>by
    by_cases e:g=n+1
    ·rw[e];apply cz _
    ·let:=b g ();lia⟩
def GW(W:N7)(Y:Ka)(h:Nat):Int:=AM (la W) (λg=>GQ W h g*(Y g-Y h))
def xY(ok:Zu W)(r:E7 W)(o:b<W.length)(i:∀h,h<W.length->h≠b->Y h<Y b->GW W Y h<=0):∀h,h<W.length->Y b<=Y h:=by
 ext h m;show sf.mp λp=>?_;let⟨f,q,l⟩:=yq Y (n:=W.length) ();let u:Y f<Y b:=by let:=l h m;lia
 let step:∀a c,a<W.length->c<W.length->0<GQ W a c->Y a=Y f->Y c=Y f:=λa c d e j ea=>by
  let s:=i a d (λz=>by rw[z] at ea;lia) ();let t:=TF (λg k=>fj (ok.lo a g d k) (by let:=l g k;lia)) s c e
  have:Y c-Y a=0:=by
   rcases Int.mul_eq_zero.mp t with z | z
   ·lia
   ·apply z
  lia
 let:=(r (λx=>Y x=Y f) (λa c d e j=>⟨step a c d e j,step c a e d (by rw[ok.sym c a e d];apply j)⟩) f b q o).mp rfl
 lia
def Xq(Y Z:Ka)(h:Nat):GW W (λx=>Y x+Z x) h=GW W Y h+GW W Z h:=by
 delta GW;rw[<-Yq];apply Zn λg _=>by change GQ W h g*(Y g+Z g-(Y h+Z h))=_;rw[<-ky];congr 1;lia
def UD(c:Int)(Y:Ka)(h:Nat):GW W (λx=>c*Y x) h=c*GW W Y h:=by
 delta GW;rw[<-ZN];apply Zn λg _=>by rw[<-kE,gy]
def vq(a:h<W.length)(e:∀g,g<W.length->Y g=Z g):GW W Y h=GW W Z h:=Zn λg b=>by rw[e g b,e h a]
def Zhl(W:N7)(S:Gj)(h:Nat):K3 W S h=GW W (Cz S) h:=by delta K3 GW;rw[R4]
def A1(W:N7)(b:Nat):Mt:=λi j=>if Kj b j=Kj b i then(Kl W (Kj b i)).sum else-GQ W (Kj b i) (Kj b j)
def G4(W:N7)(b:Nat)(c:Ka):Mt:=λi j=>if j<la W-1 then A1 W b i j else c (Kj b i)
def yw(ok:Zu W)(s:b<W.length)(p:Y b=0)(f:k<W.length-1):GW W Y (Kj b k) = - AM (W.length-1) (λi=>A1 W b k i*Y (Kj b i)):=by
 obtain⟨m,c⟩:∃m,W.length=m+1:=⟨W.length-1,()⟩;let d:W.length-1=m:=()
 rw[d] at f ⊢;generalize e:Kj b k=h;let a:h<W.length:=by rw[c,<-e];apply Wf f
 let r:AM m (λi=>A1 W b k i*Y (Kj b i))=AM (m+1) (λg=>(if g=h then(Kl W h).sum else-GQ W h g)*Y g):=by
  rw[VA (by rw[p,gz]) ()];apply Zn λi _=>by delta A1;rw[e]
 let n:AM (m+1) (λg=>(if g=h then(Kl W h).sum else-GQ W h g)*Y g)=(-1)*AM (m+1) (λg=>GQ W h g*Y g)+(Kl W h).sum*Y h:=by
  have:AM (m+1) (λg=>if g=h then(Kl W h).sum*Y h else 0)=(Kl W h).sum*Y h:=by rw[Yg () λi _ o=>N4 o,An rfl]
  rw[<-this,<-ZN,<-Yq];show Zn λg t=>?_;by_cases q:g=h
  ·subst q;rw[An rfl,ok.uR g a];lia
  ·rw[N4 q,eU];lia
 let l:(Kl W h).sum=AM (m+1) (λg=>GQ W h g):=by rw[Oo ok a,R4,c]
 let j:GW W Y h=AM (m+1) (λg=>GQ W h g*Y g)+(- Y h)*AM (m+1) (λg=>GQ W h g):=by
  delta GW;rw[c,<-ZN,<-Yq];apply Zn λg _=>by rw[kE,dF (- Y h),Int.mul_neg];lia
 rw[j,r,n,l,dF (AM (m+1) λg=>GQ W h g) (Y h),eU];lia
def PT(ok:Zu W)(C:E7 W)(u:b<W.length)(c:Ka):uI (W.length-1) (A1 W b) (G4 W b c):=by
 let H:=ok.pos;obtain⟨m,s⟩:∃m,W.length=m+1:=⟨W.length-1,()⟩;let d:W.length-1=m:=()
 let f:∀i j,i<m->j<m->A1 W b i j=A1 W b j i:=λi j t l=>by
  delta A1;by_cases q:Kj b j=Kj b i
  ·rw[An q,An q.symm,q]
  ·rw[N4 q,N4 (λz=>q z.symm),ok.sym _ _ (by rw[s];apply Wf t) (by rw[s];apply Wf l)]
 rw[d];show⟨f,λp v z F k A=>?_,λi j t l=>by delta G4;rw[d,An l]⟩;obtain⟨Z,w⟩:∃Z:Nat->Int,∀h,Z h=if h=b then 0 else if Ae b h<p then z (Ae b h) else 0:=⟨_,λ_=>rfl⟩
 let o:Z b=0:=by rw[w,An rfl]
 let y:∀i,Z (Kj b i)=if i<p then z i else 0:=λi=>by rw[w,N4 (Zdi b i),QD]
 let g:∀j,j<p->GW W Z (Kj b j)=0:=λj l=>by
  rw[yw ok u o (),d]
  let e:AM m (λi=>A1 W b j i*Z (Kj b i))=AM p (λk=>z k*A1 W b k j):=by
   rw[QM (q:=p) v λk B D=>by rw[y,N4 (),gz]];apply Zn λk A=>by rw[y,An A,f j k () (),dF]
  rw[e,F j l];rfl
 let off:∀h,h<W.length->Z h≠0->GW W Z h=0:=λh r ne=>by
  let n:h≠b:=λz=>ne (by rw[z];apply o);let t:Ae b h<p:=by show Nat.not_le.mp λq=>ne ?_;rw[w,N4 n,N4 ()]
  let:=g _ t;rw[Ox n] at this;apply this
 let G:=xY ok C (Y:=Z) u (λh r _ a=>by rw[off h r (by rw[o] at a;lia)];apply cz _)
 let E:=xY ok C (Y:=λx=>(-1)*Z x) u (λh r _ a=>by
  dsimp[o] at a;rw[UD,off h r ()];decide)
 let B:=G (Kj b k) (by rw[s];apply Wf ());let D:=E (Kj b k) (by rw[s];apply Wf ());dsimp[o,y,An A] at B D
 lia
def Zs(ok:Zu W)(l:E7 W)(d:b<W.length)(c:Ka) :
  ∃R:Nat->Int,R b=0/\(∀i,i<W.length-1->R (Kj b i)=(AW (W.length-1) (G4 W b c) (W.length-1)).1 i (W.length-1))/\∀h,h<W.length->h≠b->GW W R h = - ((AW (W.length-1) (G4 W b c) (W.length-1)).2*c h):=by
 let Gw:=PT ok l d c;obtain⟨R,j⟩:∃R:Nat->Int,∀h,R h=if h=b then 0 else(AW (W.length-1) (G4 W b c) (W.length-1)).1 (Ae b h) (W.length-1):=⟨_,λ_=>rfl⟩
 let k:R b=0:=by rw[j,An rfl]
 let g:∀i,R (Kj b i)=(AW (W.length-1) (G4 W b c) (W.length-1)).1 i (W.length-1):=λi=>by rw[j,N4 (Zdi b i),QD]
 show⟨R,k,λi _=>g i,λh n a=>?_⟩;let f:=Zdj (m:=W.length-1) () () a;let e:=yw ok d k f;rw[Ox a] at e;let s:=x7 Gw f;let x:G4 W b c (Ae b h) (W.length-1)=c h:=by delta G4;rw[N4 (),Ox a]
 rw[x] at s;rw[e,<-s];congr 1;apply Zn λi _=>by rw[g]
def Zdk(l:Gj)(g:Int->Int):l.map g=(aL (la l)).map λi=>g (Cz l i):=by show R0 ⋯ λi a=>?_;rw[aJ] at a;rw[Yp ()];simp[Cz,aK,aF a]
def mA(g:Int->Int)(a:fi s=aA (iL l))(c:l.length<=1000)(h:∀x∈l,∃s1,CS (.one 0) (.int x) (CT n ix s)=aA s1/\ft s1=aA aD/\fe s1=aA (.int (g x))) :
  AS n ix fi (.one 0) ft fe s=aA (.lst (iL (l.map g))):=by
 rw[ZP l (λ(x:Int)=>.int x) (λx=>.int (g x)) a () (λx b=>h x b)];simp
def es(c:0<l.length)(b:l.length<=1000):MJ [pP l]=aA (pP (NY l)):=by
 let a:AS 1 [1] (KW (Cw 0)) (.one 0) MV (Cy Vc (Cw 0) (Cw 1)) [aA (pP l),aA (.int (M4 l))]=aA (.lst (iL (NY l))):=by rw[show NY l=l.map λx=>x-M4 l from(Zdk l λx=>x-M4 l).symm];apply mA (λx=>x-M4 l) (yj rfl) b λx e=>⟨_,rfl,rfl,by simp[CT]⟩
 let d:=Zf8 M4 (l:=l) (j8.mp c);simp[MJ,Dv,CB,MQ,d,a]
def q6(ok:Zu W)(a:h<W.length)(d:m<=6)(b:∀i,i<m->f i<W.length) :
  Nn [wP W,.int (h:Int),.lst (iL (EF ((aL m).map f)))]=aA (pP (CC m λj=>if f j=h then(Kl W h).sum else-GQ W h (f j))):=by
 show XQ (ret (PJ (c1 (VM (q:=λj=>.int ((f j:Nat):Int)) _ (by change aA (iL (EF ((aL m).map f)))=_;simp[EF]) () λj c=>⟨_,rfl,?_⟩) rfl)));by_cases q:f j=h
 ·rw[An q];apply tB (xb ((P6 rfl rfl).trans (by rw[decide_eq_true ()]))) (c2 rfl rfl (xu a))
 ·rw[N4 q];apply PC (xb ((P6 rfl rfl).trans (by rw[decide_eq_false ()]))) (uY (o2 (o2 rfl rfl (Uq a)) rfl (YX (by rw[ok.sq h a];apply b j c))) rfl)
def Vs(ok:Zu W)(g:b<W.length) :
  MH [wP W,.int (b:Int)]=aA (wP (CN (W.length-1) (W.length-1) (A1 W b))):=by
 let p:=ok.pos;let e:=ok.j_;obtain⟨m,l⟩:∃m,W.length=m+1:=⟨W.length-1,()⟩;let a:W.length-1=m:=()
 rw[a];let d:∀i,i<m->Kj b i<W.length:=λi c=>by rw[l];apply Wf c
 let k:AS 1 [1] (Ib [AK CD [Cw 0]]) (.one 0) (AO (Cy (J1 aD) (Cw 0) (Cw 1))) (AN (Cw 0)) [aA (wP W),aA (.int (b:Int)),aB]=aA (.lst (iL (EF ((aL m).map (Kj b))))):=by
  rw[WD (aL W.length) (λ(i:Nat)=>.int (i:Int)) (λ(i:Nat)=>.int (i:Int)) (λh=>!decide (h=b)) (WL (n:=W.length) ⋯ ()) (by simp;lia) λy o=>⟨[aA (.int (y:Int)),aA (.int (b:Int))],rfl,?_,λ_=>⋯⟩]
  ·rw[W_ e g,a];simp[EF]
  ·by_cases q:y=b
   ·simp[q]
   ·let j:¬(y:Int)=(b:Int):=()
    simp[q,j]
 apply XQ (sq (Zh k) (ret (ep (c1 (VE (w:=m) (A1 W b) (q:=λi=>.int ((Kj b i:Nat):Int)) (by change aA (iL (EF ((aL m).map (Kj b))))=_;simp[EF]) () λi c=>⟨_,rfl,c3 rfl rfl rfl (q6 (f:=Kj b) ok (d i c) () d)⟩) rfl) (xS _))))
def Zhm(c:b<=l.length)(d:h<l.length+1):Cz (l.take b++x::l.drop b) h=if h=b then x else Cz l (Ae b h):=by
 delta Cz Ae;rw[aK,aK];by_cases q:h<b
 ·rw[N4 (),An q,bB (by rw[bK];lia),hV q]
 ·rw[bQ (by rw[bK];lia),bK,i8 c];by_cases a:h=b
  ·rw[An a,a,nj];rfl
  ·rw[N4 a,N4 q,show h-b=(h-b-1)+1 by lia,kD,jy,show b+(h-b-1)=h-1 by lia]
def V0:∀{n:Nat},(∀i,i<n->0<=f i/\f i<=9)->0<=AM n f/\AM n f<=9*n
 | 0,_=>⟨cz _,by change(0:Int)<=_;lia⟩
 | n+1,h=>by
  let⟨a,b⟩:=V0 (n:=n) λi c=>h i ();let:=h n ();show⟨?_,?_⟩
  ·change 0<=AM n f+f n;lia
  ·change AM n f+f n<=_;lia
def ZD(ok:Zu W)(h:i<W.length-1)(d:j<W.length-1):(G4 W b c i j).natAbs<=2^7:=by
 let l:=ok.pos;let k:=ok.j_;let e:Kj b i<W.length:=by let:=Wf (b:=b) h;lia
 let g:Kj b j<W.length:=by let:=Wf (b:=b) d;lia
 delta G4 A1;rw[An d];split
 ·rw[Oo ok e,R4];let⟨a,b⟩:=V0 (f:=λj=>GQ W (Kj b i) j) (n:=W.length) λj d=>⟨ok.lo _ j e d,ok.N9 _ j e d⟩
  lia
 ·let:=ok.lo _ _ e g;let:=ok.N9 _ _ e g
  lia
def LX(W:N7)(D:Gj)(b:Nat):List Int:=
 (CC (la W-1) λi=>((AW (la W-1) (G4 W b (Cz D)) (la W-1)).1 i (la W-1)).fdiv (AW (la W-1) (G4 W b (Cz D)) (la W-1)).2).take b++0::(CC (la W-1) λi=>((AW (la W-1) (G4 W b (Cz D)) (la W-1)).1 i (la W-1)).fdiv (AW (la W-1) (G4 W b (Cz D)) (la W-1)).2).drop b
def Zdl(a:b<W.length):(LX W D b).length=W.length:=by delta LX;rw[ah,bK,bH,cQ,Xx];lia
def Zdm(ok:Zu W)(e:E7 W)(l:D.length=W.length)(c:b<W.length)(k:∀h,h<W.length->(Cz D h).natAbs<=2^208):HC [wP W,pP D,.int (b:Int)]=aA (pP (LX W D b)):=by
 let m:=ok.j_
 let f:D.take b++D.drop (b+1)=CC (W.length-1) λi=>G4 W b (Cz D) i (W.length-1):=by
  show R0 (by rw[ah,bK,cQ,Xx];lia) λi a=>?_;let a:i<W.length-1:=by rw[ah,bK,cQ] at a;lia
  rw[S2 a];delta G4 Kj Cz;rw[N4 (),aK,aK];by_cases q:i<b
  ·rw[An q,bB (by rw[bK];lia),hV q]
  ·rw[N4 q,bQ (by rw[bK];lia),bK,jy];congr 2
   lia
 let d:=w7 () (PT ok e c (Cz D)) (λi j a g=>ZD ok a g) (λi a=>by
  delta G4;rw[N4 ()];apply k _ (by let:=Wf (b:=b) a;lia))
 rw[<-f] at d;apply XQ (sq (Zh (PJ (o2 (Oq rfl rfl ()) (Ot rfl rfl ()) (Vr (by rw[bK,cQ];lia))))) (sq (Zh (c2 (c2 rfl rfl (Vs ok c)) rfl d)) (sq (Zc1 rfl rfl rfl () (by rw[Xx];lia)) (ret (PJ (c1 rfl rfl))))))
def wo(ok:Zu W)(o:E7 W)(r:D.length=W.length)(f:b<W.length)(t:∀h,h<W.length->(Cz D h).natAbs<=2^208) :
  ∃(S0:Gj) (d:Int) (R:Ka),HC [wP W,pP D,.int (b:Int)]=aA (pP S0)/\la S0=W.length/\0<d/\R b=0/\Cz S0 b=0/\(∀h,h<W.length->d*Cz S0 h<=R h/\R h<d*Cz S0 h+d)/\∀h,h<W.length->h≠b->GW W R h = - (d*Cz D h):=by
 let w:=ok.j_;let⟨R,n,v,p⟩:=Zs ok o f (Cz D);let u:=(XD (PT ok o f (Cz D)) (aU _)).nz;let run:=Zdm ok o r f t;let len:=Zdl (W:=W) (D:=D) f
 let a:∀h,h<W.length->Cz (LX W D b) h=if h=b then 0 else(R h).fdiv (AW (W.length-1) (G4 W b (Cz D)) (W.length-1)).2:=λh c=>by
  delta LX;rw[Zhm (by rw[Xx];lia) (by rw[Xx];lia)];by_cases q:h=b
  ·rw[An q,An q]
  ·let i:=Zdj (m:=W.length-1) () () q;rw[N4 q,N4 q,S2 i,<-v _ i,Ox q]
 generalize (AW (W.length-1) (G4 W b (Cz D)) (W.length-1)).2=d at *;generalize LX W D b=l at *;let j:Cz l b=0:=by rw[a b f,An rfl]
 let a:∀h,h<W.length->Cz l h=(R h).fdiv d:=λh c=>by
  rw[a h c];split
  ·rename_i q;rw[q,n];simp
  ·rfl
 rcases qP u with s | pos
 ·show⟨_,- d,λh=>- R h,run,len,(),by change-R b=0;rw[n];rfl,j,λh c=>?_,λh c k=>?_⟩
  ·let e:(R h).fdiv d=(- R h)/(- d):=by rw[<-Int.neg_fdiv_neg,jJ _ ()]
   rw[a h c,e];apply⟨pK (),mx ()⟩
  ·let:=UD (W:=W) (-1) R h;rw[p h c k] at this;rw[vq (Z:=λx=>(-1)*R x) c (λg _=>by change-R g=(-1)*R g;lia),this,eU d];lia
 ·show⟨_,d,R,run,len,pos,n,j,λh c=>?_,p⟩;rw[a h c,jJ _ ()];apply⟨pK (),mx pos⟩
def Ag(n:Nat)(L:N6):List Int:=(aL n).map λh=>if h∈L then -1 else 0
def eW{W:N7}{L:N6}(b:la W<=7):B3 [wP W,.lst (iL (EF L))]=aA (pP (Ag (la W) L)):=by
 show XQ (ret (PJ (c1 (ti (λh=>if h∈L then -1 else 0) (WL (c1 rfl Vq) ()) () λi a=>⟨_,rfl,rfl,?_⟩) rfl)));by_cases q:i∈L
 ·rw[An q];apply tB (xb ((o2 rfl rfl (Sf i L)).trans (by rw[decide_eq_true q]))) rfl
 ·rw[N4 q];apply PC (xb ((o2 rfl rfl (Sf i L)).trans (by rw[decide_eq_false q]))) rfl
def Zhn{n:Nat}{L:N6}{h:Nat}(a:h<n):Cz (Ag n L) h=if h∈L then -1 else 0:=Yp a
def Zdn{W:N7}{D S:Gj}{h:Nat}(a:h<la D):Cz (A4 W D S) h=Cz D h+GW W (Cz S) h:=by rw[RZ a,Zhl]
structure Ge(W:N7)(b:Nat)(n0:Ka)(B:Ka):Prop where
 pos:∀h,h<la W->0<=B h
 base:B b=0
 free:∀h,h<la W->h≠b->0<=n0 h-GW W B h
def Zho{W:N7}(ok:Zu W)(k:E7 W){b:Nat}(g:b<la W)(d:Ka):∃B,Ge W b d B:=by
 let⟨z,r,_,p⟩:=Zs ok k g (λ_=>1);let w:=(XD (PT ok k g (λ_=>1)) (aU _)).nz
 obtain⟨y,s,o⟩:∃y:Nat->Int,y b=0/\∀h,h<la W->h≠b->GW W y h<=-1:=by
  rcases qP w with u | pos
  ·apply⟨λx=>(-1)*z x,by change(-1)*z b=0;rw[r];rfl,λh c a=>by rw[UD,p h c a];lia⟩
  ·apply⟨z,r,λh c a=>by rw[p h c a];lia⟩
 let t:=xY ok k (Y:=y) g (λh c a _=>by let:=o h c a;lia);rw[s] at t;obtain⟨K,m⟩:∃K:Int,K=AM (la W) (λh=>((d h).natAbs:Int)):=⟨_,rfl⟩;let l:0<=K:=by rw[m];apply Yj λi _=>()
 let j:∀h,h<la W->- d h<=K:=λh c=>by
  have:∀n,h<n->- d h<=AM n (λh=>((d h).natAbs:Int)):=by
   ext n
   induction n with
   | zero=>ext q;lia
   | succ n N8=>
    ext q;change _<=AM n (λh=>((d h).natAbs:Int))+((d n).natAbs:Int);by_cases e:h=n
    ·subst e;let:=Yj (f:=λh=>((d h).natAbs:Int)) (n:=h) λi _=>()
     lia
    ·let:=N8 ();lia
  rw[m];apply this _ c
 show⟨λx=>K*y x,λh c=>fj l (t h c),by rw[s,gz],λh c a=>?_⟩;rw[UD];let v:=o h c a;let C:=iQ v l;let A:=j h c
 lia
def s6{W:N7}(ok:Zu W){b:Nat}{k B a:Ka}(f:Ge W b k a)(le:∀h,h<la W->B h<=a h){h:Nat}(c:h<la W)(d:h≠b)(j:k h-GW W B h<0):B h<a h:=by
 show Int.lt_iff_le_and_ne.mpr ⟨le h c,λe=>?_⟩;let n:=f.free h c d
 let m:GW W B h<=GW W a h:=by
  have:0<=AM (la W) (λg=>GQ W h g*(a g-a h)+(-1)*(GQ W h g*(B g-B h))):=Yj λg i=>by
   let l:GQ W h g*(a g-a h)+(-1)*(GQ W h g*(B g-B h))=GQ W h g*(a g-B g):=by rw[e,eU,pI,<-Int.sub_eq_add_neg,<-kE];congr 1;lia
   rw[l];apply fj (ok.lo h g c i) (by let:=le g i;lia)
  rw[Yq,ZN] at this;delta GW
  lia
 lia
structure f'(W:N7)(b:Nat)(N:Gj)(F:N6):Prop where
 free:∀h,h<la W->h≠b->0<=Cz N h
 oy:fu W N b F
 stop:E5 W N F=aB
 all:∀h,h<la W->h∈F
def Zdo{W:N7}{N:Gj}(ok:Zu W)(cn:E7 W){b:Nat}(I:b<la W){j B R:Ka}{d:Int}(J:0<d)(S:R b=0)(L:∀h,h<la W->0<=R h/\R h<d)(Q:∀h,h<la W->h≠b->GW W R h = - (d*j h))
  (Y:∀h,h<la W->Cz N h=j h-GW W B h) (f:Ge W b j B) (k:∀B',Ge W b j B'->∀h,h<la W->B h<=B' h) {F:N6} (w:fu W N b F) (st:E5 W N F=aB):∀h,h<la W->h∈F:=by
 ext x A;show dQ λt=>?_;let bF:=aw w.hd;obtain⟨T,m⟩:∃T:Nat->Int,∀h,T h=if h∈F then 0 else 1:=⟨_,λ_=>rfl⟩
 let D:T b=0:=by rw[m,An bF]
 let C:∀h,0<=T h/\T h<=1:=λh=>by rw[m];split<;>lia
 -- ab8 AA yR outside lend to Bu abw oy
 let s:∀h,h<la W->h∉F->GW W T h = - Ko W h F:=λh c G=>by
  let Mc:GW W T h=(-1)*AM (la W) (λg=>if g∈F then GQ W h g else 0):=by
   rw[<-ZN];show Zn λg y=>?_;rw[m,m];split
   ·rw[Int.zero_sub];lia
   ·simp
  let U:AM (la W) (λg=>if g∈F then GQ W h g else 0)=Ko W h F:=by
   let u:∀l:List Nat,l.Nodup->(∀x∈l,x<la W)->AM (la W) (λg=>if g∈l then GQ W h g else 0)=(l.map λo=>GQ W h o).sum:=by
    ext l
    induction l with
    | nil=>ext _ _;rw[R3 λi _=>⋯];rfl
    | cons a r N8=>
     ext v lt;rw[av] at v;rw[ak,cO,<-N8 v.2 λx A=>lt x (aS _ A)];have:GQ W h a=AM (la W) (λg=>if g=a then GQ W h a else 0):=by rw[Yg (lt a ar) λi _ X=>N4 X,An rfl]
     rw[this,<-Yq];show Zn λg y=>?_;by_cases q:g=a
     ·subst q;rw[An ar,N4 v.1];lia
     ·by_cases p:g∈r
      ·rw[An (aS _ p),An p];lia
      ·rw[N4 (λz=>(aY.mp z).elim q p),N4 q,N4 p];rfl
   apply u F w.nd w.lt
  rw[Mc,U];lia
 let n:∀h,h<la W->h∈F->0<=GW W T h:=λh c G=>Yj λg y=>by rw[show T h=0 by rw[m,An G]];apply fj (ok.lo h g c y) (by let:=(C g).1;lia)
 let sub:∀h,GW W (λx=>B x+(-1)*T x) h=GW W B h-GW W T h:=λh=>by rw[Xq,UD];lia
 let free:∀h,h<la W->h≠b->0<=j h-GW W (λx=>B x+(-1)*T x) h:=λh c e=>by
  rw[sub];by_cases q:h∈F
  ·let:=n h c q;let:=f.free h c e
   lia
  ·let E:=s h c q;let Md:=UC st c q;rw[Y h c] at Md
   lia
 let P:Ge W b j (λx=>B x+(-1)*T x):=by
  show⟨λh c=>?_,by change B b+(-1)*T b=0;rw[f.base,D];rfl,free⟩
  let Z:=xY ok cn I (λh c e _=>by
   rw[Xq R (λx=>d*(B x+(-1)*T x)),UD,Q h c e];let:=free h c e;let M:0<=d*(j h-GW W (λx=>B x+(-1)*T x) h):=fj () this;rw[kE] at M
   lia) h c
  rw[S,f.base,D] at Z;let:=(L h c).2;show sf.mp λH=>?_
  let O:B h+(-1)*T h<=-1:=by
   lia
  let h5:d*(B h+(-1)*T h)<=d*(-1):=iQ O ()
  lia
 let E:=k _ P x A;rw[show T x=1 by rw[m,N4 t]] at E
 lia
def y5{W:N7}{D:Gj}{b:Nat}(ok:Zu W)(Q:E7 W)(H:la D=la W)(E:b<la W)(hD:∀h,h<la W->(Cz D h).natAbs<=2^208) :
  ∃(S N:Gj) (F:N6),FV [wP W,pP D,.int (b:Int)]=aA (.tup [pP (NY S),pP N,.lst (iL (EF F))])/\la S=la W/\N=A4 W D S/\f' W b N F:=by
 let hf:=ok.j_;let⟨m,d,R,en,l0,d0,Rb,P,Rs,Rg⟩:=wo ok Q H E hD;obtain⟨p,w⟩:∃p:Nat->Int,∀h,p h=Cz D h+GW W (Cz m) h:=⟨_,λ_=>rfl⟩;let⟨t,fs⟩:=Zho ok Q E p;let u:∀S:List Int,(A4 W D S).length=la W:=λS=>by rw[V5,H]
 let n:∀(S:Gj)(B:Ka),(∀h,h<la W->Cz S h=Cz m h-B h)->∀h,h<la W->Cz (A4 W D S) h=p h-GW W B h:=λS B e h a=>by rw[Zdn (),w,vq (Z:=λx=>Cz m x+(-1)*B x) a (λg M=>by rw[e g M];lia),Xq,UD];lia
 let J:∃v,FV [wP W,pP D,.int (b:Int)]=aA v/\∃(S:Gj) (F:N6),v = .tup [pP (NY S),pP (A4 W D S),.lst (iL (EF F))]/\la S=la W/\f' W b (A4 W D S) F:=by
  show RW (Zr (Zh (c3 rfl rfl rfl en)) (Zr (Zh (c3 rfl rfl rfl (Zc6 ok H l0))) (Zr (Zh (c2 rfl rfl (SX (by rw[u];lia)))) (Wm (zK (λk s=>∃(S:Gj) (B:Ka) (X:Option PV),s=[aA (wP W),aA (pP D),aA (.int (b:Int)),aA (pP S),aA (pP (A4 W D S)),aA (.lst (iL (EF (G9 (A4 W D S) b)))),X]/\la S=la W/\(∀h,h<la W->Cz S h=Cz m h-B h)/\(∀h,h<la W->0<=B h)/\B b=0/\(∀j,Ge W b p j->∀h,h<la W->B h<=j h)/\k=(AM (la W) (λh=>t h-B h)).toNat) ⟨m,λ_=>0,aB,rfl,l0,λh _=>by(show Cz m h=Cz m h-0);lia,λh _=>cz 0,rfl,λj f h a=>f.pos h a,rfl⟩ ?_) ?_))))
  ·ext k s ⟨S,B,X,rfl,lS,I,T,U,G,rfl⟩;by_cases q:G9 (A4 W D S) b=[]
   ·left;rw[q];rfl
   ·right;let ql:=j8.mpr q;let l:∀h,h∈G9 (A4 W D S) b↔h<la W/\h≠b/\Cz (A4 W D S) h<0:=λh=>by rw[Zde,u]
    generalize G9 (A4 W D S) b=L at *;let lb:(Ag (la W) L).length=la W:=by simp[Ag]
    let Mn:A4 W (A4 W D S) (Ag (la W) L)=A4 W D (NV S (Ag (la W) L)):=Zha H λi N9=>Up ();let er:=Zc6 ok (u S) lb;rw[Mn] at er;obtain⟨j,c⟩:∃j:Nat->Int,∀h,j h=B h+(if h∈L then 1 else 0):=⟨_,λ_=>rfl⟩
    let less:∀C,Ge W b p C->∀h,h<la W->j h<=C h:=λC O h a=>by
     rw[c];by_cases z:h∈L
     ·rw[An z];let⟨_,z2,z3⟩:=(l h).mp z;rw[n S B I h a] at z3;let:=s6 ok O (λg M=>G C O g M) a z2 z3
      lia
     ·rw[N4 z];let:=G C O h a
      lia
    show⟨xb ((yo (c1 rfl yc) rfl).trans (by rw[decide_eq_true ql])),YS (Zh (c2 rfl rfl (eW hf))) (YS (Zh (c2 rfl rfl (W5 () ()))) (YS (Zh (c3 rfl rfl rfl er)) (n5 (Zh (c2 rfl rfl (SX (by rw[u];lia)))) ⟨(AM (la W) (λh=>t h-j h)).toNat,?_,_,j,_,rfl,by rw[Zda];apply lS,λh a=>?_,λh a=>?_,?_,less,rfl⟩)))⟩
    ·let p1:0<=AM (la W) (λh=>t h-j h):=Yj λh a=>by let:=less t fs h a;lia
     let p2:AM (la W) (λh=>t h-B h)=AM (la W) (λh=>t h-j h)+AM (la W) (λh=>if h∈L then 1 else 0):=by
      rw[<-Yq];apply Zn λh _=>by rw[c];lia
     let p3:0<AM (la W) (λh=>if h∈L then(1:Int) else 0):=by
      show Int.not_le.mp λz=>?_;let⟨x,hx⟩:=List.exists_mem_of_length_pos ql;let:=TF (λi _=>by split<;>lia) z x ((l x).mp hx).1;rw[An hx] at this
      lia
     lia
    ·rw[Up (),Zhn a,I h a,c];split<;>lia
    ·let:=T h a;rw[c];split<;>lia
    ·rw[c,N4 (λz=>((l b).mp z).2.1 rfl),U];rfl
  ·ext s ⟨k,⟨S,B,X,rfl,lS,I,T,U,G,_⟩,abc⟩
   let y:G9 (A4 W D S) b=[]:=by
    cases e:G9 (A4 W D S) b with
    | nil=>rfl
    | cons x r=>rw[e,xb (yo (c1 rfl yc) rfl)] at abc;cases abc
   let free:=ny.mp y;rw[u] at free;let nr:=n S B I;let fB:Ge W b p B:=⟨T,U,λh a o=>by rw[<-nr h a];apply free h a o⟩;let⟨F,eF,Y,A⟩:=R1 ok (u S) E
   let all:=Zdo ok Q E (R:=λh=>R h+(- d)*Cz m h) d0 (by change R b+(- d)*Cz m b=0;rw[Rb,P,gz];rfl)
    (λh a=>by
     let:=Rs h a;rw[eU]
     lia)
    (λh a o=>by rw[Xq R (λx=>(- d)*Cz m x),UD,Rg h a o,w,ky,eU];lia) nr fB G Y A
   show Yd ?_ ⟨S,F,rfl,lS,free,Y,A,all⟩;rw[Rt,Zt,c1 rfl (es () ()),Zt,PJ rfl,Zt,c3 rfl rfl rfl eF];rfl
 let⟨v,e,S,F,rfl,lS,st⟩:=J;apply⟨S,_,F,e,lS,rfl,st⟩
end _p
namespace _p
open PySem _l _v _x
def Zdp{s:ZK}{f g:XE}(q:f s=aA (.int 1))(a:g s=aA (.int 1)):AO (Cy (J1 aD) f g) s=aA aC:=xb (o2 q a ⋯)
def PX:Bh [.exc "NotSettled"]=aA (.int 5):=
 XB (Zr (Zh rfl) (Zr (Zh rfl) (Zr (Zh rfl) (Zr (kV ((xo (xn (xb rfl)) (Zdp rfl rfl)).trans rfl)) (Yd (ep rfl) rfl)))))
def r5:Bh [.exc "NoTree"]=aA (.int 6):=
 XB (Zr (Zh rfl) (Zr (Zh rfl) (Zr (Zh rfl) (Zr (kV ((xo (xn (xb rfl)) (Zdp rfl rfl)).trans rfl)) (Yd (ep rfl) rfl)))))
section
variable {W:N7} {T S:Gj} {b:Nat}
def zw{f g:XS}{s:ZK}{o:Out}(h:f s=aA o):Bf f g s=aA o:=by delta Bf;rw[h]
def Zqi{f g:XS}{s:ZK}(h:f s=aB):Bf f g s=g s:=by delta Bf;rw[h]
def Qd{R:List PV->Option fW}{fs:List XE}{i:Nat}{f:XS}{s s2:ZK}{ls:List PV}{n:fW}(q:A2 fs s=aA ls)(h:R ls=aA n)(e:f (s.set i (aA (.exc n)))=aA (.L4 s2)):Nv R fs i f s=(aA (Out.L4 s2)).map (B5 i):=by delta Nv;rw[q,aZ,h,aZ,e]
def Zl9{R:List PV->Option fW}{fs:List XE}{i:Nat}{f:XS}{s:ZK}{ls:List PV}(q:A2 fs s=aA ls)(h:R ls=aB):Nv R fs i f s=aB:=by delta Nv;rw[q,aZ,h];rfl
def Zdq(h:Fe [wP W,pP T]=aA (.Ap aC))(g:K7 (pP T)=aD):Lu [wP W,.int (b:Int),pP T]=aA ("NoTree" : fW):=by
 let t:Kt (AO (AK Fe [Cw 0,Cw 2])) (MQ 3 [wP W,.int (b:Int),pP T])=aA aD:=xn (xb (c2 rfl rfl h));change M6 (GL _ (Lp "NoTree" (Cw 2)) Nt) _ Nt (MQ 3 [wP W,.int (b:Int),pP T])=_;let e:GL (Kt (AO (AK Fe [Cw 0,Cw 2]))) (Lp "NoTree" (Cw 2)) Nt (MQ 3 [wP W,.int (b:Int),pP T])=aA ("NoTree" : fW):=by delta GL;rw[t];change(if K7 (pP T)=aD then aA _ else aB)=_;rw[An g]
 delta M6;rw[e]
def h4(h:Fe [wP W,pP T]=aA (.Ap aD)):Lu [wP W,.int (b:Int),pP T]=aB:=by
 let t:Kt (AO (AK Fe [Cw 0,Cw 2])) (MQ 3 [wP W,.int (b:Int),pP T])=aA aC:=xn (xb (c2 rfl rfl h));change M6 (GL _ (Lp "NoTree" (Cw 2)) Nt) _ Nt (MQ 3 [wP W,.int (b:Int),pP T])=_;let e:GL (Kt (AO (AK Fe [Cw 0,Cw 2]))) (Lp "NoTree" (Cw 2)) Nt (MQ 3 [wP W,.int (b:Int),pP T])=aB:=by delta GL;rw[t];rfl
 delta M6;rw[e,kV t];rfl
def Zhp(h:Fe [wP W,pP T]=aA (.Ap aC))(a:DG [wP W,pP T]=aA (.Ap aC))(g:K7 (pP T)=aD):Bv [wP W,.int (b:Int),pP T]=aA (.Ap aD):=
 XB (Zr (Zh rfl) (Zr (Zh rfl) (Zr (zw ((Qd rfl (Zdq h g) (Zh (c1 rfl r5))).trans rfl)) (Zr (kV (xb (c2 rfl rfl a))) (Yd (ep ((P6 rfl rfl).trans rfl)) rfl)))))
def Zdr(h:Fe [wP W,pP T]=aA (.Ap aD))(f:DG [wP W,pP T]=aA (.Ap aD))(hs:Hk [wP W,.int (b:Int),pP T]=aA (pP S))(a:ME [pP S,.int (la W:Int)]=aA (.Ap aD))(d:b<la S)(c:Cz S b=0)(g:IY [wP W,pP S,.int (b:Int)]=aA (.Ap aD)):Bv [wP W,.int (b:Int),pP T]=aA (.Ap aD):=by let e:JU [wP W,.int (b:Int),pP T]=aA (pP S):=XB (Zr (kV (xn (xb (c2 rfl rfl h)))) (Yd (c3 rfl rfl rfl hs) rfl));show XB (Zr (Zh rfl) (Zr (Zh rfl) (Zr ((Zqi (Zl9 rfl (h4 h))).trans (Zh (c3 rfl rfl rfl e))) (ZF (xb (c2 rfl rfl f)) (Yd (ep ((ea rfl ((ea (c2 rfl (c1 rfl Vq) a) ((ea ((P6 (o2 rfl rfl (YX d)) rfl).trans (by rw[decide_eq_true c])) (c3 rfl rfl rfl g)).trans rfl)).trans rfl)).trans rfl)) rfl)))))
variable {D E:Gj}
def Wl{v:Bool}(d:b<la D)(h:Lk [wP W,pP D,.int (b:Int)]=aA (.Ap v)){s:ZK}(e:Cw 0 s=aA (wP W))(a:Cw 1 s=aA (.int (b:Int)))(c:Cw 2 s=aA (pP D)):Ky (AO (Cy (J1 aD) (Cy JZ (Cw 2) (Cw 1)) (AL (.int 0)))) (Kt (AO (AK Lk [Cw 0,Cw 2,Cw 1]))) s=aA (!decide (Cz D b=0) || !v):=
 xo (xb (o2 (o2 c a (YX d)) rfl (Zba aD _ 0))) (xn (xb (c3 e c a h)))
def Zom{v:Bool}(a:b<la D)(e:b<7)(h:Lk [wP W,pP D,.int (b:Int)]=aA (.Ap v))(g:K7 (pP D)=aD)(d:¬(Cz D b=0/\v=aD)):My [wP W,.int (b:Int),pP D]=aA ("NotSettled" : fW):=by
 let t:=Wl a h (s:=MQ 3 [wP W,.int (b:Int),pP D]) rfl rfl rfl
 let c:(!decide (Cz D b=0) || !v)=aD:=by
  by_cases q:Cz D b=0
  ·rw[decide_eq_true q];cases v
   ·rfl
   ·apply absurd ⟨q,rfl⟩ d
  ·rw[decide_eq_false q];rfl
 rw[c] at t;change GL _ (Lz "NotSettled" (Cw 1) (Cw 2)) Nt (MQ 3 [wP W,.int (b:Int),pP D])=_;delta GL;rw[t];change(if(FJ (.int (b:Int))&&K7 (pP D))=aD then aA _ else aB)=_
 have:FJ (.int (b:Int))=aD:=by
  have:b=0\/b=1\/b=2\/b=3\/b=4\/b=5\/b=6:=()
  rcases this with r | r | r | r | r | r | r<;>subst r<;>decide
 rw[this,g];rfl
def Oa(a:b<la D)(h:Lk [wP W,pP D,.int (b:Int)]=aA (.Ap aD))(c:Cz D b=0):My [wP W,.int (b:Int),pP D]=aB/\Dl [wP W,.int (b:Int),pP D]=aA .Ma:=by
 let t:=Wl a h (s:=MQ 3 [wP W,.int (b:Int),pP D]) rfl rfl rfl;rw[decide_eq_true c] at t;constructor
 ·change GL _ (Lz "NotSettled" (Cw 1) (Cw 2)) Nt (MQ 3 [wP W,.int (b:Int),pP D])=_;delta GL;rw[t];rfl
 ·change(EI _ Hb GX (MQ 3 [wP W,.int (b:Int),pP D])).bind MB=_;rw[kV t];rfl
def Zqj{x:XT}{F G:XS}{s:ZK}(q:x s=aA aD):EI x F G s=F s:=by rw[TZ,q];rfl
def Zqk{x:XT}{F G:XS}{s:ZK}(q:x s=aA aC):EI x F G s=G s:=by rw[TZ,q];rfl
def Zhq(h:My [wP W,.int (b:Int),pP D]=aA ("NotSettled" : fW)):Jg [wP W,.int (b:Int),pP D]=aA ("NotSettled" : fW):=by change M6 (E8 My [Cw 0,Cw 1,Cw 2]) _ Nt (MQ 3 [wP W,.int (b:Int),pP D])=_;let e:E8 My [Cw 0,Cw 1,Cw 2] (MQ 3 [wP W,.int (b:Int),pP D])=aA ("NotSettled" : fW):=h;delta M6;rw[e]
def Ww{g:Bool}(h:if g then My [wP W,.int (b:Int),pP D]=aA ("NotSettled" : fW) else(My [wP W,.int (b:Int),pP D]=aB/\Dl [wP W,.int (b:Int),pP D]=aA .Ma)/\My [wP W,.int (b:Int),pP E]=aA ("NotSettled" : fW)):Hf [wP W,.int (b:Int),pP D,pP E]=aA ("NotSettled" : fW):=by
 change M6 (E8 My [Cw 0,Cw 1,Cw 2]) (DE (AK Dl [Cw 0,Cw 1,Cw 2])) (M6 (E8 My [Cw 0,Cw 1,Cw 3]) _ Nt) (MQ 4 [wP W,.int (b:Int),pP D,pP E])=_;cases g
 ·let⟨⟨d,c⟩,f⟩:=h;let a:E8 My [Cw 0,Cw 1,Cw 2] (MQ 4 [wP W,.int (b:Int),pP D,pP E])=aB:=d;let i:E8 My [Cw 0,Cw 1,Cw 3] (MQ 4 [wP W,.int (b:Int),pP D,pP E])=aA ("NotSettled" : fW):=f;delta M6;rw[a,zG (c3 rfl rfl rfl c)];change(match E8 My [Cw 0,Cw 1,Cw 3] (MQ 4 [wP W,.int (b:Int),pP D,pP E]) with | some n=>aA n | none=>_)=_;rw[i]
 ·let e:E8 My [Cw 0,Cw 1,Cw 2] (MQ 4 [wP W,.int (b:Int),pP D,pP E])=aA ("NotSettled" : fW):=h;delta M6;rw[e]
def qn(h:Jg [wP W,.int (b:Int),pP D]=aA ("NotSettled" : fW)):He [wP W,.int (b:Int),pP D,pP E,.Ap aD]=aA (.Ap aD):=
 XB (Zr (Zh rfl) (Zr (zw ((Zqj (xb rfl)).trans ((Qd rfl h (Zh (c1 rfl PX))).trans rfl))) (Yd (ep ((P6 rfl rfl).trans rfl)) rfl)))
def Zl(h:Hf [wP W,.int (b:Int),pP D,pP E]=aA ("NotSettled" : fW)):He [wP W,.int (b:Int),pP D,pP E,.Ap aC]=aA (.Ap aD):=
 XB (Zr (Zh rfl) (Zr (zw ((Zqk (xb rfl)).trans ((Qd rfl h (Zh (c1 rfl PX))).trans rfl))) (Yd (ep ((P6 rfl rfl).trans rfl)) rfl)))
end
end _p
namespace _p
open _l _v
def R'(h:l.length=n):∀k:Nat,k<n->JZ (pP l) (.int (k:Int))=aA (.int (Cz l k)):=λk a=>YX ()
def Zon(h:l.length=n):∀k:Nat,k<n->JZ (.lst (iL l)) (.int (k:Int))=aA (.int (Cz l k)):=λk a=>YX ()
def Zhr(Y:Ka)(h:0<n):∃h,h<n/\∀g,g<n->Y g<=Y h:=by let⟨x,c,b⟩:=yq (λi=>- Y i) h;apply⟨x,c,λg a=>by let:=b g a;lia⟩
def Zhs(ok:Zu W)(k:h<W.length)[DecidablePred P]:∀{l:N6},l.Nodup->(∀x∈l,x<W.length/\¬P x)->Ko W h l<=AM W.length (λg=>if P g then 0 else GQ W h g):=by
 ext l b j
 let d:∀l:List Nat,l.Nodup->(∀x∈l,x<W.length)->AM W.length (λg=>if g∈l then GQ W h g else 0)=(l.map λo=>GQ W h o).sum:=by
  ext l
  induction l with
  | nil=>ext _ _;rw[R3 λi _=>⋯];rfl
  | cons a r N8=>
   ext b lt;rw[av] at b;rw[ak,cO,<-N8 b.2 λx e=>lt x (aS _ e)];have:GQ W h a=AM W.length (λg=>if g=a then GQ W h a else 0):=by rw[Yg (lt a ar) λi _ m=>N4 m,An rfl]
   rw[this,<-Yq];show Zn λg f=>?_;by_cases q:g=a
   ·subst q;rw[An ar,N4 b.1];lia
   ·by_cases c:g∈r
    ·rw[An (aS _ c),An c];lia
    ·rw[N4 (λz=>(aY.mp z).elim q c),N4 q,N4 c];rfl
 delta Ko;rw[<-d l b λx e=>(j x e).1]
 have:0<=AM W.length (λg=>(if P g then 0 else GQ W h g)+(-1)*(if g∈l then GQ W h g else 0)):=Yj λg f=>by
  let:=ok.lo h g k f;by_cases q:g∈l
  ·rw[N4 (j g q).2];lia
  ·rw[N4 q];split<;>lia
 rw[Yq,ZN] at this
 lia
def SS(ok:Zu W)(L:b<W.length)(B:fu W N b F)(all:∀h,h<W.length->h∈F)(C:∀h,h<W.length->Cz M h=Cz N h+GW W T h)(fr:∀h,h<W.length->h≠b->0<=Cz M h):∀h,h<W.length->T h<=T b:=by
 ext x D;show sf.mp λE=>?_;let⟨m,G,p⟩:=Zhr T (n:=W.length) ();let I:T b<T m:=by let:=p x D;lia
 -- AA first of AA wB abw ψ
 let H:∀k:Nat,(∃j,j<k/\∃h,F[j]?=aA h/\T h=T m)\/∀j,j<k->∀h,F[j]?=aA h->T h≠T m:=by
  ext k;by_cases q:∃j,j<k/\∃h,F[j]?=aA h/\T h=T m
  ·apply .inl q
  ·apply .inr λj c h a e=>q ⟨j,c,h,a,e⟩
 let first:∀k:Nat,(∃h,F[k]?=aA h/\T h=T m)->∃k h:Nat,F[k]?=aA h/\T h=T m/\∀j,j<k->∀h,F[j]?=aA h->T h≠T m:=by
  ext k
  induction k using rz with
  | ind k N8=>
   ext⟨h,e,t⟩;rcases H k with⟨j,c,q⟩ | q
   ·apply N8 j c q
   ·apply⟨k,h,e,t,q⟩
 let⟨k0,i,w⟩:=cW (all m G);let⟨k,h,ek,r,d⟩:=first k0 ⟨m,by rw[aF i,w],rfl⟩
 let u:1<=k:=by
  show Nat.not_lt.mp λq=>?_;have:k=0:=()
  subst this;rw[B.hd] at ek;cases ek
  lia
 let A:=(aQ.mp ek).1;let a:=B.lt h (aw ek);let st:=B.st k u A;rw[ek] at st;let⟨_,_,lt⟩:=W9 st;let l:h≠b:=λz=>by rw[z] at r;lia
 let v:(F.take k).Nodup:=B.nd.sublist (fm _ _);let J:=Zhs ok a v λy o=>by show⟨B.lt y (dt o),λz=>?_⟩;let⟨j,c,e⟩:=cW o;rw[bK] at c;apply d j () y (by rw[<-hV (show j<k by lia),aF (by rw[bK];apply c),e]) z
 let O:GW W T h<=- AM W.length (λg=>if T g=T m then 0 else GQ W h g):=by
  have:0<=AM W.length (λg=>(-1)*(if T g=T m then 0 else GQ W h g)+(-1)*(GQ W h g*(T g-T h))):=Yj λg s=>by
   let lo:=ok.lo h g a s;let mg:=p g s;rw[r];by_cases q:T g=T m
   ·rw[q];simp
   ·rw[N4 q];have:0<=GQ W h g*(T m-T g-1):=fj lo ();let e:GQ W h g*(T m-T g-1)=(-1)*GQ W h g+(-1)*(GQ W h g*(T g-T m)):=by rw[kE,kE,kE];lia
    lia
  rw[Yq,ZN,ZN] at this;delta GW
  lia
 let f:=fr h a l;rw[C h a] at f
 lia
def X0(ok:Zu W)(d:b<W.length)(s1:f' W b N F)(s2:f' W b M G)(c:∀h,h<W.length->Cz M h=Cz N h+GW W T h):∀h,h<W.length->T h=T b:=by
 ext h a;let g:=SS ok d s1.oy s1.all c s2.free h a;let f:=SS (T:=λx=>(-1)*T x) ok d s2.oy s2.all (λx e=>by rw[c x e,UD];lia) s1.free h a
 lia
def Zds(e:∀h,h<W.length->T h=c)(a:h<W.length):GW W T h=0:=R3 λg b=>by rw[e g b,e h a];simp
end _p
namespace _p
open PySem _l _v _x
section
variable {W:N7} {D:Gj} {b:Nat}
def ux{F:N6}(ok:Zu W)(m:E7 W)(j:la D=la W)(e:b<la W)(l:∀h,h<la W->(Cz D h).natAbs<=2^208)(st:f' W b D F)(n:Cz D b=0):NQ [wP W,.int (b:Int),pP D]=aA (pP D):=by
 let r:=ok.j_;let⟨S,N,t,k,lS,f,a⟩:=y5 ok m j e l;let g:∀h,h<la W->Cz N h=Cz D h+GW W (Cz S) h:=λh q=>by rw[f];apply Zdn ()
 let one:=X0 ok e st a g;let s:N.length=la W:=by rw[f,V5,j]
 let o:N=D:=R0 () λi u=>by rw[g i (),Zds one ()];lia
 rw[o] at k
 let d:D.take b++[(0:Int)]++D.drop (b+1)=D:=by
  let c:=gX b D;rw[gZ ()] at c;let p:D[b]'()=0:=by rw[<-n];simp[Cz,aF (show b<la D by lia)]
  rw[p] at c;rw[fL];apply c
 show XB (Zr (Zh (PJ (o2 (c3 rfl rfl rfl k) rfl rfl))) (Yd (PJ (o2 (o2 (b:=pP [0]) (Oq rfl rfl ()) rfl (Vr (by rw[bK,ba];lia))) (Ot rfl rfl ()) ?_)) rfl));rw[Vr (by rw[ah,bK,ba,cQ];lia),d]
def w3{F:N6}(d:la D<=1000)(c:Nw [wP W,pP D,.int (b:Int)]=aA (.lst (iL (EF F)))):Lk [wP W,pP D,.int (b:Int)]=aA (.Ap (decide (((G9 D b).length:Int)=0)&&decide ((la F:Int)=(la W:Int)))):=
 let a:∀L:List Nat,CD [.lst (iL (EF L))]=aA (.int (la L:Int)):=λL=>by change aA (PV.int ((iL (EF L)).length:Int))=_;rw[aJ];delta EF;rw[aJ]
 XQ (ret (ep (ea (P6 (c1 (c2 rfl rfl (SX d)) (a _)) rfl) (P6 (c1 (c3 rfl rfl rfl c) (a _)) (c1 rfl Vq)))))
def Py{F G:N6}(ok:Zu W)(m:E7 W)(l:la D=la W)(d:b<la W)(j:∀h,h<la W->(Cz D h).natAbs<=2^208)(st:f' W b D F)(g:Cz D b=0){Z:Gj}(q:la Z=la W)(e:∀i,i<la W->Cz Z i=0)(s1:Lk [wP W,pP D,.int (b:Int)]=aA (.Ap aD))(s2:Lk [wP W,pP Z,.int (b:Int)]=aA (.Ap aD)):Ny [wP W,.int (b:Int),pP D,pP Z]=aA (pP D):=by
 let p:=ok.j_;let n:=(Oa () s1 g).2;let k:=(Oa () s2 (e b d)).2
 let o:NV D Z=D:=by
  show R0 (by simp[NV]) λi c=>?_;let c:i<la D:=by simp[NV] at c;lia
  have:Cz (NV D Z) i=Cz D i+Cz Z i:=Yp c;rw[this,e i ()];lia
 let f:=W5 (a:=D) (b:=Z) () ();rw[o] at f;apply XB (Zr (zG (c3 rfl rfl rfl n)) (Zr (zG (c3 rfl rfl rfl k)) (Yd (c3 rfl rfl (c2 rfl rfl f) (ux ok m l d j st g)) rfl)))
end
end _p
namespace _p
abbrev Zy:=Nat×Nat
noncomputable def ind(a b:Nat):Int:=if a=b then 1 else 0
def Br(P:Ez)(a b:Nat):Nat->Nat:=λx=>if P x=P b then P a else P x
def Gg:List Zy->(Nat->Nat)->Nat->Nat
 | [],_,0=>1
 | [],_,_+1=>0
 | e::E,P,0=>Gg E P 0
 | e::E,P,s+1=>(if P e.1=P e.2 then 0 else Gg E (Br P e.1 e.2) s)+Gg E P (s+1)
def Zdt(h:P e.1=P e.2):Gg (e::E) P s=Gg E P s:=by
 cases s with
 | zero=>rfl
 | succ s=>
  change(if P e.1=P e.2 then 0 else _)+_=_;rw[An h,lQ]
def Zht(h:P e.1≠P e.2):Gg (e::E) P (s+1)=Gg E (Br P e.1 e.2) s+Gg E P (s+1):=by change(if P e.1=P e.2 then 0 else _)+_=_;rw[N4 h]
def Dd(T:List Zy)(t:Nat):Zy:=T.getD t (0,0)
def Iz(T:List Zy):(Nat->Nat)->List Nat->Nat->Nat
 | P,[]=>P
 | P,t::g=>Iz T (Br P (Dd T t).1 (Dd T t).2) g
def QQ(T:List Zy):∀(g:N6)(P:Ez)(t:Nat),Iz T P (g++[t])=Br (Iz T P g) (Dd T t).1 (Dd T t).2
 | [],P,t=>rfl
 | x::g,P,t=>QQ T g _ t
def Ij(g:N6):Nat:=match g.getLast? with | some t=>t+1 | none=>0
def Wq(g:N6)(t:Nat):Ij (g++[t])=t+1:=by delta Ij;simp
def Ft(T:List Zy)(g:N6):List Nat:=(mT (Ij g) (la T-Ij g)).filter λt=>!decide (Iz T id g (Dd T t).1=Iz T id g (Dd T t).2)
def Kx(T:List Zy)(gs:K_):List (List Nat):=gs.flatMap λg=>(Ft T g).map λt=>g++[t]
def X_(h:k<n):mT k (n-k)=k::mT (k+1) (n-(k+1)):=by rw[show n-k=(n-(k+1))+1 by lia,List.range'_succ]
def hn(h:k<T.length):T.drop k=Dd T k::T.drop (k+1):=by delta Dd;rw[gZ h,aK,aF h];rfl
def zx(T:List Zy)(P:Ez)(r:Nat):∀(d k:Nat),T.length-k=d->Gg (T.drop k) P (r+1) =
  (((mT k (la T-k)).filter λt=>!decide (P (Dd T t).1=P (Dd T t).2)).map λt=>Gg (T.drop (t+1)) (Br P (Dd T t).1 (Dd T t).2) r).sum
 | 0,k,h=>by rw[gM (),h];rfl
 | d+1,k,h=>by
  rw[hn (),X_ ()];let a:=zx T P r d (k+1) ();by_cases q:P (Dd T k).1=P (Dd T k).2
  ·rw[Zdt q,a,List.filter_cons_of_neg (by simp[q])]
  ·rw[Zht q,a,List.filter_cons_of_pos (by simp[q]),ak,cO]
def pB(f:β->Nat)(g:α->List β):∀l:List α,((l.flatMap g).map f).sum=(l.map λa=>((g a).map f).sum).sum
 | []=>rfl
 | a::l=>by rw[mU,bR,oH,pB f g l,ak,cO]
def Ao(T:List Zy)(r:Nat)(g:N6):Nat:=Gg (T.drop (Ij g)) (Iz T id g) r
def vm(T:List Zy)(a:K_)(r:Nat):((Kx T a).map (Ao T r)).sum=(a.map (Ao T (r+1))).sum:=by delta Kx;rw[pB];congr 1;apply((aq));ext g _;delta Ao Ft;rw[zx T _ r _ _ rfl,bS];congr 1;apply((aq));ext t _;change Gg (T.drop (Ij (g++[t]))) (Iz T id (g++[t])) r=_;rw[Wq,QQ]
def Ks(T:List Zy):Nat->List (List Nat)
 | 0=>[[]]
 | s+1=>Kx T (Ks T s)
def XH(T:List Zy):∀s r,((Ks T s).map (Ao T r)).sum=Gg T id (s+r)
 | 0,r=>by change Gg (T.drop 0) id r+0=_;rw[sd,lQ,nV]
 | s+1,r=>by change((Kx T (Ks T s)).map (Ao T r)).sum=_;rw[vm,XH T s (r+1)];congr 1;lia
def yi:∀(E:List Zy)(P:Ez),Gg E P 0=1
 | [],_=>rfl
 | e::E,P=>yi E P
def Ve:∀{l:List α},(∀a∈l,f a=1)->(l.map f).sum=la l
 | [],_=>rfl
 | a::l,h=>by rw[ak,cO,h a ⋯,Ve λb c=>h b (by simp[c]),bH];lia
def zy(T:List Zy)(s:Nat):(Ks T s).length=Gg T id s:=by let:=XH T s 0;rw[Ve (f:=Ao T 0) λg _=>yi _ _] at this;apply this
noncomputable def bn:Nat->Nat->Nat
 | _,0=>1
 | 0,_+1=>0
 | k+1,s+1=>bn k s+bn k (s+1)
def zT:∀(E:List Zy)(P:Ez)(s:Nat),Gg E P s<=bn (la E) s
 | [],P,0=>by change 1<=1;lia
 | [],P,s+1=>by change 0<=_;lia
 | e::E,P,0=>by rw[yi];change 1<=bn (la E+1) 0;simp[bn]
 | e::E,P,s+1=>by
  let a:=zT E (Br P e.1 e.2) s;let b:=zT E P (s+1);change(if P e.1=P e.2 then 0 else _)+_<=bn (la E) s+bn (la E) (s+1);split<;>lia
structure Gv(T:List Zy)(g:N6):Prop where
 lt:∀t∈g,t<la T
 uO:g.Pairwise (· < ·)
 vZ:∀i t,g[i]?=aA t->Iz T id (g.take i) (Dd T t).1≠Iz T id (g.take i) (Dd T t).2
def w0(h:g.Pairwise (· < ·))(c:Ij g<=t)(a:x∈g):x<t:=by
 rcases kW g with rfl | ⟨l,b,rfl⟩
 ·simp at a
 ·rw[iu] at *;rw[Wq] at c;rcases aj.mp a with q | q
  ·let:=(dw.mp h).2.2 x q b ⋯
   lia
  ·simp at q;lia
def Gv.snoc(h:Gv T g)(b:t∈Ft T g):Gv T (g++[t]):=by
 delta Ft at b;rw[dG,mV] at b;let⟨⟨e,f⟩,d⟩:=b;show⟨λx a=>?_,?_,λi x a=>?_⟩
 ·rcases aj.mp a with q | q
  ·apply h.lt x q
  ·simp at q;lia
 ·rw[dw];apply⟨h.uO,⋯,λx a y c=>by simp at c;rw[c];apply w0 h.uO e a⟩
 ·by_cases q:i<g.length
  ·rw[bB q] at a;rw[eQ ()];apply h.vZ i x a
  ·have:i=g.length:=by let:=(aQ.mp a).1;simp at this;lia
   subst this;simp at a;subst a;rw[ju]
   ·simpa using d
   ·rfl
def WR(T:List Zy):∀s,∀g∈Ks T s,Gv T g/\g.length=s
 | 0,g,c=>by
  have:g=[]:=by simpa [Ks] using c
  subst this;apply⟨⟨λt d=>by simp at d,.nil,λi t h=>by simp at h⟩,rfl⟩
 | s+1,g,c=>by let c:g∈Kx T (Ks T s):=c;delta Kx at c;let⟨h,e,c⟩:=gR.mp c;let⟨t,d,rfl⟩:=aa.mp c;let⟨a,b⟩:=WR T s h e;apply⟨a.snoc d,by rw[ah,b];rfl⟩
def Gk:List Nat->List Nat->Prop
 | a::g,b::h=>a<b\/(a=b/\Gk g h)
 | _,_=>False
def gd:∀{g h:N6}{x y:Nat},g.length=la h->Gk g h->Gk (g++[x]) (h++[y])
 | [],[],_,_,_,q=>q.elim
 | a::g,b::h,x,y,Kb,q=>by
  rcases q with q | ⟨q,r⟩
  ·apply .inl q
  ·apply .inr ⟨q,gd (~~~Kb) r⟩
def wW:∀(g:N6){x y:Nat},x<y->Gk (g++[x]) (g++[y])
 | [],x,y,h=>.inl h
 | a::g,x,y,h=>.inr ⟨rfl,wW g h⟩
def Pz(T:List Zy):∀s,(Ks T s).Pairwise Gk
 | 0=>by change([[]]:K_).Pairwise Gk;simp
 | s+1=>by
  change(Kx T (Ks T s)).Pairwise Gk;let e:=Pz T s;let c:=WR T s;delta Kx;generalize Ks T s=gs at e c
  induction gs with
  | nil=>simp
  | cons g gs ihg=>
   rw[mU,dw];let a:=List.pairwise_cons.mp e;show⟨?_,ihg a.2 λh b=>c h (by simp[b]),λx f y d=>?_⟩
   ·rw[dC];delta Ft;apply(List.pairwise_lt_range' (s:=Ij g) (n:=T.length-Ij g)).filter _ |>.imp λq=>wW g q
   ·let⟨t,_,rfl⟩:=aa.mp f;let⟨h,b,d⟩:=gR.mp d;let⟨u,_,rfl⟩:=aa.mp d;apply gd (by rw[(c g ⋯).2,(c h (by simp[b])).2]) (a.1 h b)
def Du(n:Nat):List Zy:=(aL n).flatMap λa=>(aL (n-(a+1))).map λj=>(a,a+1+j)
def lp:(a,b)∈Du n↔a<b/\b<n:=by
 delta Du;dsimp[gR,ao,aa,Prod.mk.injEq];constructor
 ·ext⟨x,e,j,c,rfl,rfl⟩;lia
 ·ext⟨f,d⟩;apply⟨a,(),b-(a+1),(),rfl,()⟩
def L6(n:Nat)(w:J_):List Zy:=(Du n).flatMap λp=>aW (w p.1 p.2).toNat p
def UP(p:Zy)(g:α->List Zy):∀l:List α,(l.flatMap g).count p=(l.map λa=>(g a).count p).sum
 | []=>rfl
 | a::l=>by rw[mU,List.count_append,UP p g l,ak,cO]
def Zdu:∀n,n<=7->(Du n).Nodup:=by decide +kernel
def QR:∀{l:List Zy},l.Nodup->(∀q∈l,q≠p->f q=0)->(l.map f).sum=if p∈l then f p else 0
 | [],_,_=>⋯
 | q::l,nd,h=>by
  let a:=av.mp nd;rw[ak,cO,QR a.2 λr b=>h r (by simp[b])];by_cases e:q=p
  ·subst e;rw[N4 a.1,An ⋯];lia
  ·rw[h q ⋯ e,lQ];by_cases z:p∈l
   ·rw[An z,An (by simp[z])]
   ·rw[N4 z,N4 (by simp[z];apply λy=>e y.symm)]
def Y_(a:n<=7)(w:J_)(p:Zy):(L6 n w).count p=if p∈Du n then(w p.1 p.2).toNat else 0:=by
 delta L6;rw[UP,QR (p:=p) (Zdu n a) λq _ b=>?_]
 ·split
  ·rw[List.count_replicate_self]
  ·rfl
 ·rw[List.count_replicate,N4 (~~~b)]
end _p
namespace Jb
open _p
def Zdv(d:p<n)(g:q<n)(ne:p≠q)(h:∀i,i<n->i≠p->i≠q->f i=0):AM n f=f p+f q:=by
 let e:AM n f=AM n (λi=>(if i=p then f p else 0)+(if i=q then f q else 0)):=Zn λi c=>by
  by_cases a:i=p
  ·subst a;simp[ne]
  ·by_cases b:i=q
   ·subst b;simp[a]
   ·simp[a,b,h i c a b]
 rw[e,Yq,Yg d (λi _ c=>N4 c),Yg g (λi _ c=>N4 c),An rfl,An rfl]
def Zdw(f g:Ka)(n:Nat):AM n (λi=>f i-g i)=AM n f-AM n g:=by
 have:AM n (λi=>f i-g i)=AM n (λi=>f i+(-1)*g i):=Zn λi _=>()
 rw[this,Yq,ZN];lia
def EO(m:Ez)(G:N6)(v:Nat):Bool:=G.any λg=>m g==v
def ei:EO m G v=aD↔∃g,g∈G/\m g=v:=by delta EO;simp[iM]
noncomputable def b1(b:Bool):Int:=if b=aD then 1 else 0
def L7(n:Nat)(m:Ez)(G:N6):Int:=AM n λv=>b1 (EO m G v)
def EK(m:Ez)(a b:Nat):Nat->Nat:=λx=>if m x=m a then m b else m x
def Zoo(ne:m a≠m b):EO (EK m a b) G (m a)=aC:=by
 cases q:EO (EK m a b) G (m a) with
 | false=>rfl
 | true=>
  let⟨g,_,e⟩:=ei.mp q;delta EK at e;split at e
  ·apply absurd e.symm ne
  ·rename_i z;apply absurd e z
def Zop:EO (EK m a b) G (m b)=(EO m G (m a) || EO m G (m b)):=by
 rw[ji,jq,ei,ei,ei];constructor
 ·ext⟨g,c,e⟩;delta EK at e;split at e
  ·rename_i z;apply .inl ⟨g,c,z⟩
  ·apply .inr ⟨g,c,e⟩
 ·ext(⟨g,c,e⟩ | ⟨g,c,e⟩)
  ·apply⟨g,c,by delta EK;rw[An e]⟩
  ·apply⟨g,c,by delta EK;split<;>first | rfl | apply e⟩
def Zoq(f:v≠m a)(d:v≠m b):EO (EK m a b) G v=EO m G v:=by
 rw[ji,ei,ei];constructor
 ·ext⟨g,c,e⟩;delta EK at e;split at e
  ·apply absurd e.symm d
  ·apply⟨g,c,e⟩
 ·ext⟨g,c,e⟩;apply⟨g,c,by delta EK;rw[N4 (by rw[e];apply f)];apply e⟩
def zW(g:m a<n)(c:m b<n)(ne:m a≠m b):L7 n (EK m a b) G=L7 n m G-b1 (EO m G (m a)&&EO m G (m b)):=by
 let e:L7 n (EK m a b) G-L7 n m G=AM n (λv=>b1 (EO (EK m a b) G v)-b1 (EO m G v)):=(Zdw _ _ n).symm;rw[Zdv g c ne (λi _ f d=>by rw[Zoq f d];lia),Zoo ne,Zop] at e;have:b1 aC-b1 (EO m G (m a))+(b1 (EO m G (m a) || EO m G (m b))-b1 (EO m G (m b))) = - b1 (EO m G (m a)&&EO m G (m b)):=by cases EO m G (m a)<;>cases EO m G (m b)<;>decide
 lia
def Zjc(b:Bool):0<=b1 b:=by cases b<;>decide
def Zor(b:Bool):b1 b<=1:=by cases b<;>decide
def Dx(G:N6)(e:Zy):Bool:=decide (e.1∈G)&&decide (e.2∈G)
def MM(G:N6)(E:List Zy):Int:=(E.map λe=>b1 (Dx G e)).sum
def Ul(G:N6)(E:List Zy)(e:Zy):MM G (E++[e])=MM G E+b1 (Dx G e):=by delta MM;simp
structure l3(n:Nat)(m:Ez)(T:List Zy):Prop where
 lt:∀x,x<n->m x<n
 le:∀G:List Nat,G.Nodup->(∀g∈G,g<n)->MM G T+L7 n m G<=la G
 eq:MM (aL n) T+L7 n m (aL n)=n
 F':∀e∈T,e.1<n/\e.2<n
def Sg:∀{l m:N6},l.Nodup->(∀x∈l,x∈m)->la l<=la m
 | [],m,_,_=>dM _
 | x::l,m,nd,sub=>by let a:=av.mp nd;let b:=sub x ⋯;let:=Sg (l:=l) (m:=m.erase x) a.2 λy c=>(gp (λz:y=x=>a.1 (by rw[<-z];apply c))).mpr (sub y (by simp[c]));rw[iB b] at this;have:0<la m:=iX b;dsimp[bH];lia
def QS(p:Nat->Bool):∀n,AM n (λv=>b1 (p v))=(((aL n).filter p).length:Int)
 | 0=>rfl
 | n+1=>by
  change AM n _+b1 (p n)=_;rw[QS p n,jm,qQ,ah];cases h:p n<;>simp[r9,h,b1]
def l3.start(n:Nat):l3 n (λx=>x) []:=by
 let b:∀(G:N6)(v:Nat),EO (λx=>x) G v=decide (v∈G):=λG v=>by rw[ji,ei,decide_eq_true_eq];apply⟨λ⟨g,h,e⟩=>e▸h,λh=>⟨v,h,rfl⟩⟩
 show⟨λx h=>h,λG j f=>?_,?_,⋯⟩
 ·delta L7;rw[Zn λi _=>by rw[b],QS]
  let:=Sg (l:=(aL n).filter λv=>decide (v∈G)) (gQ.filter _) (λx c=>by
   let:=(dG.mp c).2;simpa using this)
  change(0:Int)+_<=_
  lia
 ·delta L7;rw[Zn λi _=>by rw[b],QS];rw[pZ.mpr λa d=>by simpa using d];change(0:Int)+_=_;simp
def l3.step(h:l3 n m T)(d:a<n)(c:b<n)(ne:m a≠m b):l3 n (EK m a b) (T++[(a,b)]):=by
 let i:=h.lt a d;let g:=h.lt b c;let has:∀{G:N6}{x:Nat},x∈G->EO m G (m x)=aD:=λ{G x} f=>ei.mpr ⟨x,f,rfl⟩;show⟨λx f=>?_,λG l j=>?_,?_,λe k=>?_⟩
 ·delta EK;split
  ·apply g
  ·apply h.lt x f
 ·let:=h.le G l j;rw[Ul,zW i g ne]
  cases q:Dx G (a,b) with
  | true=>
   delta Dx at q;dsimp[af,decide_eq_true_eq] at q;rw[has q.1,has q.2];change _+b1 aD+(_-b1 aD)<=_
   lia
  | false=>
   let:=Zjc (EO m G (m a)&&EO m G (m b));change _+(0:Int)+_<=_
   lia
 ·let:=h.eq;rw[Ul,zW i g ne];let q:Dx (aL n) (a,b)=aD:=by delta Dx;simp[d,c]
  rw[q,has (ao.mpr d),has (ao.mpr c)];change _+b1 aD+(_-b1 aD)=_
  lia
 ·rcases aj.mp k with z | z
  ·apply h.F' e z
  ·rw[aO.mp z];apply⟨d,c⟩
def l3.j_(h:l3 n m T)(e:G.Nodup)(a:∀g∈G,g<n)(ne:G≠[]):MM G T<=(G.length:Int)-1:=by
 let l:=h.le G e a;let⟨g,b⟩:=List.exists_mem_of_ne_nil G ne
 let j:(1:Int)<=L7 n m G:=by
  let d:=h.lt g (a g b)
  let le:AM n (λv=>if v=m g then(1:Int) else 0)<=AM n λv=>b1 (EO m G v):=by
   have:0<=AM n (λv=>b1 (EO m G v)-(if v=m g then(1:Int) else 0)):=by
    let f:∀k,0<=AM k (λv=>b1 (EO m G v)-(if v=m g then(1:Int) else 0)):=by
     ext k
     induction k with
     | zero=>apply cz _
     | succ k N8=>
      change 0<=AM k _+(b1 (EO m G k)-(if k=m g then(1:Int) else 0));by_cases z:k=m g
      ·rw[z,ei.mpr ⟨g,b,rfl⟩,An rfl];change 0<=AM (m g) _+((1:Int)-1);rw[z] at N8
       lia
      ·rw[N4 z];let:=Zjc (EO m G k)
       lia
    apply f n
   rw[Zdw] at this
   lia
  rw[Yg d λi _ c=>N4 c,An rfl] at le;apply le
 lia
def Kh(E:List Zy)(i:Nat):Zy:=E.getD i (0,0)
def wb(h:m x=m y):EK m a b x=EK m a b y:=by delta EK;rw[h]
end Jb
namespace _p
open Jb
structure WS where
 L:List Nat
 F:List Nat
 B:List (Nat×Nat×Nat)
def Ig(E:List Zy)(L F:N6):Option Nat:=(aL (la E)).find? λk=>!decide (k∈L)&&(decide ((Kh E k).1∈F) != decide ((Kh E k).2∈F))
def CI(E:List Zy)(F:N6)(k:Nat):Nat:=if(Kh E k).1∈F then(Kh E k).2 else(Kh E k).1
def Cg(E:List Zy)(h j:Nat):Bool:=decide (h=(Kh E j).1) || decide (h=(Kh E j).2)
def CO(E:List Zy)(L:N6)(h:Nat):Nat:=(L.filter (Cg E h)).length
def J3(E:List Zy)(φ:aan)(s:WS)(k:Nat):WS:=
 if φ k (CI E s.F k) (CO E (s.L++[k]) (CI E s.F k))=aD then⟨s.L++[k],s.F++[CI E s.F k],s.B++[(k,CI E s.F k,CO E (s.L++[k]) (CI E s.F k))]⟩ else⟨s.L++[k],s.F,s.B⟩
def MR(E:List Zy)(φ:aan):Nat->WS->WS
 | 0,s=>s
 | n+1,s=>match Ig E s.L s.F with
  | some k=>MR E φ n (J3 E φ s k)
  | none=>s
def EW(b:Nat):WS:=⟨[],[b],[]⟩
def Xf{E:List Zy}{L F:N6}{k:Nat}(h:Ig E L F=aA k):k<la E/\k∉L/\(decide ((Kh E k).1∈F) != decide ((Kh E k).2∈F))=aD:=by let a:=oM h;let b:=jZ h;dsimp[af,jE,decide_eq_false_iff_not] at a;apply⟨ao.mp b,a⟩
def Xl{E:List Zy}{L F:N6}(h:Ig E L F=aB){k:Nat}(c:k<la E)(d:k∉L):(Kh E k).1∈F↔(Kh E k).2∈F:=by
 let:=jz.mp h k (ao.mpr c);dsimp[d] at this;by_cases a:(Kh E k).1∈F
 ·by_cases b:(Kh E k).2∈F
  ·apply⟨λ_=>b,λ_=>a⟩
  ·simp[a,b] at this
 ·by_cases b:(Kh E k).2∈F
  ·simp[a,b] at this
  ·apply⟨λz=>absurd z a,λz=>absurd z b⟩
def S3{E:List Zy}{L F:N6}{k:Nat}(h:Ig E L F=aA k):CI E F k∉F/\Cg E (CI E F k) k=aD/\∃o∈F,(Kh E k=(o,CI E F k)\/Kh E k=(CI E F k,o)):=by
 let⟨_,_,c⟩:=Xf h;delta CI Cg;by_cases a:(Kh E k).1∈F
 ·by_cases b:(Kh E k).2∈F
  ·simp[a,b] at c
  ·rw[An a];apply⟨b,⋯,_,a,.inl rfl⟩
 ·by_cases b:(Kh E k).2∈F
  ·rw[N4 a];apply⟨a,⋯,_,b,.inr rfl⟩
  ·simp[a,b] at c
def vz{E:List Zy}{L:N6}{k h:Nat}(a:Cg E h k=aD):CO E (L++[k]) h=CO E L h+1:=by delta CO;simp[a]
def yu{E:List Zy}{L:N6}{k h:Nat}(a:Cg E h k=aC):CO E (L++[k]) h=CO E L h:=by delta CO;simp[a]
structure ew(E:List Zy)(n b:Nat)(s:WS):Prop where
 xE:s.L.Nodup
 vV:∀k∈s.L,k<la E
 ub:s.F.Nodup
 uy:∀h∈s.F,h<n
 hB:s.F=b::s.B.map (·.2.1)
 Ap:∀x∈s.B,x.1∈s.L
 xF:(s.B.map (·.1)).Nodup
 cn:∀q:Nat->Nat,(∀x∈s.B,q (Kh E x.1).1=q (Kh E x.1).2)->∀h∈s.F,q h=q b
def ew.start{E:List Zy}{n b:Nat}(e:b<n):ew E n b (EW b):=
 ⟨cI,λk c=>by simp[EW] at c,by simp[EW],λh a=>by simp[EW] at a;lia,rfl,λx d=>by simp[EW] at d,by simp[EW],λq _ h a=>by simp[EW] at a;rw[a]⟩
def Xs{b:Type}{l:List b}{a:b}(h:l.Nodup)(n:a∉l):(l++[a]).Nodup:=by grind
def ew.step{E:List Zy}{n b k:Nat}{s:WS}{φ:aan}(w:∀e∈E,e.1<n/\e.2<n)(i:ew E n b s)(r:Ig E s.L s.F=aA k):ew E n b (J3 E φ s k):=by
 let⟨k1,k2,_⟩:=Xf r;let⟨A,C,o,t,l⟩:=S3 r;let d:=Xs i.xE k2
 let c:∀j∈s.L++[k],j<la E:=λj v=>by
  rcases aj.mp v with z | z
  ·apply i.vV j z
  ·rw[aO.mp z];apply k1
 let u:Kh E k∈E:=by delta Kh;rw[aK,aF k1];apply bw k1
 let lt:CI E s.F k<n:=by
  let:=w _ u;rcases l with z | z<;>rw[z] at this
  ·apply this.2
  ·apply this.1
 delta J3;split
 ·show⟨d,c,Xs i.ub A,λh g=>?_,?_,λx a=>?_,?_,λq m h g=>?_⟩
  ·rcases aj.mp g with z | z
   ·apply i.uy h z
   ·rw[aO.mp z];apply lt
  ·change s.F++[_]=b::(s.B++[_]).map _;rw[bR,<-rS,<-i.hB];rfl
  ·rcases aj.mp a with z | z
   ·apply au _ (i.Ap x z)
   ·rw[aO.mp z];apply bA _ ⋯
  ·change((s.B++[_]).map _).Nodup;rw[bR];show Xs i.xF λz=>?_;let⟨x,a,B⟩:=aa.mp z;let:=i.Ap x a;rw[B] at this;apply k2 this
  ·let f:=i.cn q λx a=>m x (au _ a);rcases aj.mp g with z | z
   ·apply f h z
   ·rw[aO.mp z];let:=m (k,CI E s.F k,CO E (s.L++[k]) (CI E s.F k)) (bA _ ⋯);let p:=f o t;rcases l with y | y
    ·rw[y] at this;apply this.symm.trans p
    ·rw[y] at this;apply this.trans p
 ·apply⟨d,c,i.ub,i.uy,i.hB,λx a=>au _ (i.Ap x a),i.xF,i.cn⟩
def ew.walk{E:List Zy}{n b:Nat}{φ:aan}(a:∀e∈E,e.1<n/\e.2<n):∀{m:Nat}{s:WS},ew E n b s->ew E n b (MR E φ m s)
 | 0,s,i=>i
 | m+1,s,i=>by
  delta MR;split
  ·rename_i k c;apply ew.walk a (i.step a c)
  ·apply i
def Rd{n:Nat}:∀{l:N6},l.Nodup->(∀x∈l,x<n)->la l<=n:=by
 induction n with
 | zero=>
  ext l _ h
  cases l with
  | nil=>simp
  | cons a r=>apply absurd (h a ⋯) ()
 | succ n N8=>
  ext l d h
  let g:=N8 (l:=l.filter (· != n)) (d.filter _) λx b=>by
   let:=dG.mp b;let f:=h x this.1;let j:x≠n:=by simpa using this.2
   lia
  let f:la l<=(l.filter (· != n)).length+1:=by
   clear h g N8
   induction l with
   | nil=>simp
   | cons a r ih2=>
    let c:=av.mp d;rw[List.filter_cons];by_cases e:a=n
    ·subst e;have:r.filter (· != a)=r:=pZ.mpr λx b=>by have:x≠a:=λz=>c.1 (z▸b);simpa using this
     simp[this]
    ·let i:(a != n)=aD:=by simpa using e
     rw[i];dsimp[if_true,bH];let:=ih2 c.2
     lia
  lia
def R9{E:List Zy}{n b:Nat}{φ:aan}(a:∀e∈E,e.1<n/\e.2<n):∀{m:Nat}{s:WS},ew E n b s->la E<=m+s.L.length->Ig E (MR E φ m s).L (MR E φ m s).F=aB
 | 0,s,i,h=>by
  delta MR
  cases z:Ig E s.L s.F with
  | none=>rfl
  | some k=>
   let⟨k1,k2,_⟩:=Xf z
   let:=Rd (n:=E.length) (Xs i.xE k2) λx c=>by
    rcases aj.mp c with y | y
    ·apply i.vV x y
    ·rw[aO.mp y];apply k1
   rw[ah,ba] at this
   lia
 | m+1,s,i,h=>by
  delta MR
  cases z:Ig E s.L s.F with
  | none=>apply z
  | some k=>
   show R9 a (i.step a z) ?_
   have:(J3 E φ s k).L.length=s.L.length+1:=by
    delta J3;split<;>simp
   lia
def QU(E:List Zy)(φ:aan)(s:WS)(k:Nat):(J3 E φ s k).L=s.L++[k]:=by delta J3;split<;>rfl
def vF{E:List Zy}{φ:aan}:∀{m:Nat}{s:WS}{k:Nat},k∈s.L->k∈(MR E φ m s).B.map (·.1)->k∈s.B.map (·.1)
 | 0,s,k,_,h=>h
 | m+1,s,k,hk,h=>by
  delta MR at h;split at h
  ·rename_i j b;let a:=vF (s:=J3 E φ s j) (by rw[QU];apply au _ hk) h;let⟨_,c,_⟩:=Xf b;delta J3 at a;split at a
   ·rw[bR] at a;rcases aj.mp a with z | z
    ·apply z
    ·have:k=j:=by simpa using z
     apply absurd (this▸hk) c
   ·apply a
  ·apply h
def QV{E:List Zy}{φ:aan}:∀{m:Nat}{s:WS}{x:I_},x∈s.B->x∈(MR E φ m s).B
 | 0,s,x,h=>h
 | m+1,s,x,h=>by
  delta MR;split
  ·show QV ?_;delta J3;split
   ·apply au _ h
   ·apply h
  ·apply h
def Vd{E:List Zy}{φ:aan}{T:N6}:∀{m:Nat}{s:WS},(∀x∈s.B,x.1∈s.L)->(∀k,k∈T↔k∈(MR E φ m s).B.map (·.1))->MR E (λk _ _=>decide (k∈T)) m s=MR E φ m s
 | 0,s,_,_=>rfl
 | m+1,s,Ck,hT=>by
  delta MR at hT ⊢
  cases z:Ig E s.L s.F with
  | none=>rfl
  | some k=>
   rw[z] at hT;simp only at hT ⊢;let⟨_,k2,_⟩:=Xf z;let g:k∈(J3 E φ s k).L:=by rw[QU];simp
   let same:J3 E (λk _ _=>decide (k∈T)) s k=J3 E φ s k:=by
    by_cases c:φ k (CI E s.F k) (CO E (s.L++[k]) (CI E s.F k))=aD
    ·let b:k∈T:=(hT k).mpr (by
      have:(k,CI E s.F k,CO E (s.L++[k]) (CI E s.F k))∈(J3 E φ s k).B:=by delta J3;rw[An c];simp
      apply aa.mpr ⟨_,QV this,rfl⟩)
     delta J3;rw[An c,An (~~~b)]
    ·let b:k∉T:=λy=>by
      let d:=vF g ((hT k).mp y);let e:(J3 E φ s k).B=s.B:=by delta J3;rw[N4 c]
      rw[e] at d;let⟨x,a,f⟩:=aa.mp d;apply k2 (f▸Ck x a)
     delta J3;rw[N4 c,N4 (~~~b)]
   rw[same];show Vd (λx a=>?_) hT;rw[QU];delta J3 at a;split at a
   ·rcases aj.mp a with y | y
    ·apply au _ (Ck x y)
    ·rw[aO.mp y];simp
   ·apply au _ (Ck x a)
def Bd(D:Ka):Nat->Nat->Nat->Bool:=λ_ h c=>decide (D h<(c:Int))
structure i5(E:List Zy)(n:Nat)(D:Ka)(s:WS):Prop where
 out:∀h,h<n->h∉s.F->(CO E s.L h:Int)<=D h
 zp:∀x∈s.B,(x.2.2:Int)=D x.2.1+1
def i5.step{E:List Zy}{n b k:Nat}{D:Ka}{s:WS}(w:∀e∈E,e.1<n/\e.2<n)(p:i5 E n D s)(m:Ig E s.L s.F=aA k):i5 E n D (J3 E (Bd D) s k):=by
 let⟨k1,k2,_⟩:=Xf m;let⟨A,u,o,r,l⟩:=S3 m;let t:Kh E k∈E:=by delta Kh;rw[aK,aF k1];apply bw k1
 let lt:CI E s.F k<n:=by
  let:=w _ t;rcases l with z | z<;>rw[z] at this
  ·apply this.2
  ·apply this.1
 let Kj:∀g,g∉s.F->g≠CI E s.F k->Cg E g k=aC:=λg v i=>by
  delta Cg;let q:g≠o:=λz=>v (z▸r);rcases l with z | z<;>rw[z]<;>simp[q,i]
 let hs:=p.out _ lt A;let B:=vz (L:=s.L) u;delta J3 Bd;split
 ·rename_i c;let c:=of_decide_eq_true c;show⟨λh f a=>?_,λx y=>?_⟩
  ·let j:=λz=>a (au _ z);let d:h≠CI E s.F k:=λz=>a (bA _ (by simp[z]));rw[yu (Kj h j d)];apply p.out h f j
  ·rcases aj.mp y with z | z
   ·apply p.zp x z
   ·rw[aO.mp z];change((CO E (s.L++[k]) (CI E s.F k):Nat):Int)=D (CI E s.F k)+1
    lia
 ·rename_i c;let c:¬D (CI E s.F k)<(CO E (s.L++[k]) (CI E s.F k):Int):=λz=>c (decide_eq_true z);show⟨λh f a=>?_,p.zp⟩;by_cases d:h=CI E s.F k
  ·rw[d];change(CO E (s.L++[k]) (CI E s.F k):Int)<=_
   lia
  ·rw[yu (Kj h a d)];apply p.out h f a
def i5.walk{E:List Zy}{n:Nat}{D:Ka}(a:∀e∈E,e.1<n/\e.2<n):∀{m:Nat}{s:WS},i5 E n D s->i5 E n D (MR E (Bd D) m s)
 | 0,s,i=>i
 | m+1,s,i=>by
  delta MR;split
  ·rename_i k c;apply i5.walk a (i.step (b:=0) a c)
  ·apply i
def i5.start{E:List Zy}{n b:Nat}{D:Ka}(h:∀g,g<n->g≠b->0<=D g):i5 E n D (EW b):=
 ⟨λg a d=>by
  have:g≠b:=λz=>d (by simp[EW,z]);let:=h g a this;dsimp[EW,CO,List.filter_nil];omega,λx c=>by simp[EW] at c⟩
end _p
namespace Jb
open _p
def M1(m:Ez):List Zy->Nat->Nat
 | []=>m
 | e::T=>M1 (EK m e.1 e.2) T
def Ci(e:Zy):Zy:=(e.2,e.1)
def ug:∀{T:List Zy}{m:Ez}{x y:Nat},m x=m y->M1 m T x=M1 m T y
 | [],m,x,y,h=>h
 | e::T,m,x,y,h=>ug (T:=T) (wb h)
def tp(m:Ez)(a b:Nat):EK m a b a=EK m a b b:=by
 delta EK;rw[An rfl];split<;>rfl
def TH:∀{T:List Zy}{m:Ez},∀e∈T,M1 m T e.1=M1 m T e.2
 | [],m,e,h=>by simp at h
 | f::T,m,e,h=>by
  rcases aY.mp h with rfl | h
  ·apply ug (T:=T) (tp m _ _)
  ·apply TH (T:=T) e h
def i0{q:Ez}:∀{T:List Zy}{m:Ez},(∀e∈T,q e.1=q e.2/\e.1<n/\e.2<n)->(∀x y,x<n->y<n->m x=m y->q x=q y)->∀x y,x<n->y<n->M1 m T x=M1 m T y->q x=q y
 | [],m,_,h,x,y,a,b,e=>h x y a b e
 | f::T,m,hT,h,x,y,a,b,e=>by
  let⟨g,c,d⟩:=hT f ⋯;show i0 (T:=T) (λe i=>hT e (by simp[i])) (λx y a b e=>?_) x y a b e;delta EK at e;split at e
  ·rename_i z1;split at e
   ·rename_i z2;rw[h x _ a c z1,h y _ b c z2]
   ·rw[h x _ a c z1,g,h _ y d b e]
  ·split at e
   ·rename_i z2;rw[h x _ a d e,<-g,h y _ b c z2]
   ·apply h x y a b e
def zu(h:m a=m b):EK m a b=m:=by
 funext x;delta EK;split
 ·rename_i z;rw[z,h]
 ·rfl
def OQ:∀{T:List Zy}{m:Ez},(∀e∈T,e.1<n/\e.2<n)->(∀x,x<n->m x<n)->∀x,x<n->M1 m T x<n
 | [],m,_,h,x,a=>h x a
 | f::T,m,hT,h,x,a=>OQ (T:=T) (λe b=>hT e (by simp[b])) (λx a=>by
   delta EK;split
   ·apply h _ (hT f ⋯).2
   ·apply h x a) x a
def PQ(G:N6):∀{T:List Zy}{m:Ez},(∀e∈T,e.1<n/\e.2<n)->(∀x,x<n->m x<n)->L7 n m G-(la T:Int)<=L7 n (M1 m T) G
 | [],m,_,h=>by change L7 n m G-(0:Int)<=L7 n m G;lia
 | f::T,m,hT,h=>by
  let a:=hT f ⋯
  let lt:∀x,x<n->EK m f.1 f.2 x<n:=λx c=>by
   delta EK;split
   ·apply h _ a.2
   ·apply h x c
  let d:=PQ G (T:=T) (m:=EK m f.1 f.2) (λe b=>hT e (by simp[b])) lt
  let st:L7 n m G-1<=L7 n (EK m f.1 f.2) G:=by
   by_cases q:m f.1=m f.2
   ·rw[zu q];lia
   ·rw[zW (h _ a.1) (h _ a.2) q];let:=Zor (EO m G (m f.1)&&EO m G (m f.2))
    lia
  change L7 n m G-((la T+1:Nat):Int)<=L7 n (M1 (EK m f.1 f.2) T) G
  lia
def tM:∀(A B:List Zy)(m:Ez),M1 m (A++B)=M1 (M1 m A) B
 | [],B,m=>rfl
 | e::A,B,m=>tM A B (EK m e.1 e.2)
def Zma(b:0<n)(lt:∀x,x<n->m x<n)(one:∀x,x<n->m x=m 0):L7 n m (aL n)=1:=by
 delta L7;rw[Yg (lt 0 b) λi e c=>?_]
 ·rw[ei.mpr ⟨0,ao.mpr b,rfl⟩];rfl
 ·cases q:EO m (aL n) i with
  | false=>rfl
  | true=>
   let⟨g,d,a⟩:=ei.mp q;rw[one g (ao.mp d)] at a;apply absurd a.symm c
def Zos(n:Nat):L7 n (λx=>x) (aL n)=n:=by
 let:=(l3.start n).eq;let z:MM (aL n) []=0:=rfl
 lia
def Zhw{T:List Zy}(k:0<n)(d:∀e∈T,e.1<n/\e.2<n)(len:(la T:Int)=n-1)(one:∀x,x<n->M1 (λx=>x) (T.map Ci) x=M1 (λx=>x) (T.map Ci) 0){A B:List Zy}{e:Zy}(hs:T=A++e::B) :
  M1 (λx=>x) A e.1≠M1 (λx=>x) A e.2:=λc=>by
 let p:=λx l=>by show i0 (q:=M1 (λx=>x) T) (λf b=>?_) (λx y _ _ h=>by rw[h]) x 0 l k (one x l);let⟨g,i,rfl⟩:=aa.mp b;apply⟨(TH g i).symm,(d g i).2,(d g i).1⟩
 let a:∀x,x<n->(λx:Nat=>x) x<n:=λx h=>h;let m:=Zma k (OQ d a) p;let j:∀f∈A,f.1<n/\f.2<n:=λf b=>d f (by rw[hs];simp[b]);let o:∀f∈B,f.1<n/\f.2<n:=λf b=>d f (by rw[hs];simp[b]);let t:=PQ (aL n) j a;let u:=PQ (aL n) o (OQ j a);let r:M1 (λx=>x) T=M1 (M1 (λx=>x) A) B:=by rw[hs,tM];change M1 (EK (M1 (λx=>x) A) e.1 e.2) B=_;rw[zu c]
 rw[r] at m;let s:(la T:Int)=la A+la B+1:=by rw[hs];simp;lia
 let:=Zos n
 lia
def hg{m:Ez}{T:List Zy}(h:l3 n m T)(u:0<n)(len:(la T:Int)=n-1){q:Ez}(v:∀e∈T,q e.1=q e.2):∀x,x<n->q x=q 0:=λx A=>by
 show dQ λne=>?_;let' G:=(aL n).filter λy=>decide (q y=q 0);let' d:=(aL n).filter λy=>!decide (q y=q 0);let i:∀y,y∈G↔y<n/\q y=q 0:=λy=>by change y∈(aL n).filter (λy=>decide (q y=q 0))↔_;rw[dG,ao,decide_eq_true_eq]
 let b:∀y,y∈d↔y<n/\¬q y=q 0:=λy=>by change y∈(aL n).filter (λy=>!decide (q y=q 0))↔_;rw[dG,ao];simp
 let f1:=h.j_ (G:=G) (gQ.filter _) (λg r=>((i g).mp r).1) (qR ((i 0).mpr ⟨u,rfl⟩));let B:=h.j_ (G:=d) (gQ.filter _) (λg r=>((b g).mp r).1) (qR ((b x).mpr ⟨A,ne⟩))
 let p:∀l:List Zy,(∀e∈l,q e.1=q e.2/\e.1<n/\e.2<n)->MM G l+MM d l=la l:=by
  ext l
  induction l with
  | nil=>ext _;rfl
  | cons e l N8=>
   ext s;let c:=s e ⋯;let:=N8 λf t=>s f (by simp[t]);delta MM at this ⊢;rw[ak,ak,cO,cO,bH]
   let one:b1 (Dx G e)+b1 (Dx d e)=1:=by
    delta Dx;by_cases z:q e.1=q 0
    ·let o:e.1∈G:=(i _).mpr ⟨c.2.1,z⟩;let k:e.2∈G:=(i _).mpr ⟨c.2.2,by rw[<-c.1];apply z⟩;let j:e.1∉d:=λw=>((b _).mp w).2 z;simp[o,k,j,b1]
    ·let o:e.1∈d:=(b _).mpr ⟨c.2.1,z⟩;let k:e.2∈d:=(b _).mpr ⟨c.2.2,by rw[<-c.1];apply z⟩;let j:e.1∉G:=λw=>z ((i _).mp w).2;simp[o,k,j,b1]
   lia
 let s1:=p T λe c=>⟨v e c,h.F' e c⟩
 let C:G.length+d.length=n:=by
  have:∀l:List Nat,(l.filter λy=>decide (q y=q 0)).length+(l.filter λy=>!decide (q y=q 0)).length=la l:=by
   ext l
   induction l with
   | nil=>rfl
   | cons a l N8=>
    by_cases z:q a=q 0<;>simp[r9,z]<;>lia
  let:=this (aL n);rw[bZ] at this;apply this
 lia
def Zdx{l acc:Gj}:∀x,x∈acc\/x∈l->x∈l.foldl (λ(b:Gj) k=>if b.any (·==k) then b else b++[k]) acc:=by
 induction l generalizing acc with
 | nil=>ext x h;simpa using h
 | cons a l N8=>
  ext x h;rw[g9];show N8 x ?_;rcases h with h | h
  ·left;split
   ·apply h
   ·simp[h]
  ·rcases aY.mp h with rfl | h
   ·left;split
    ·rename_i z;let⟨y,c,e⟩:=iM.mp z;have:y=x:=by simpa using e
     rw[<-this];apply c
    ·simp
   ·apply .inr h
def vy:∀{l:Gj},(∀x∈l,x=a)->l.foldl (λ(c:Gj) k=>if c.any (·==k) then c else c++[k]) [a]=[a]
 | [],_=>rfl
 | b::l,h=>by
  let d:=h b ⋯;subst d;rw[g9];have:([b].any (·==b))=aD:=⋯
  rw[An this];apply vy λx e=>h x (by simp[e])
end Jb
namespace _p
open _l _v
def Zql{n:Nat}(b:1<=n)(a:n<=7):Ni (.tup [.int 0]) (.int (n:Int))=aA (pP (aW n 0)):=by change(if CF [PV.int 0]=aD/\[PV.int 0]≠[]/\(1:Int)<=(n:Int)/\(n:Int)<=1000000/\[PV.int 0].length*((n:Int)).toNat<=10000 then aA (PV.tup (aW ((n:Int)).toNat [PV.int 0]).flatten) else aB)=_;rw[An ⟨rfl,⋯,(),(),by simp;lia⟩,dk,Zl4]
def PG(l:List α)(f:α->Int):iL (l.map f)=l.map λg=>.int (f g):=bS
variable {Z:Gj} {mo:Nat}
def Bc(p:Nat×Nat):PV:=.tup [.int (p.1:Int),.int (p.2:Int)]
end _p
namespace _p
open _l _v _x Jb
def CA(W:N7):List Zy:=L6 (la W) (GQ W)
def AH(W:N7)(a b:Nat):List Zy:=aW (GQ W a b).toNat (a,b)
def IQ(W:N7)(a:Nat):List Zy:=(aL (la W-(a+1))).flatMap λj=>AH W a (a+1+j)
def tF(W:N7):CA W=(aL (la W)).flatMap (IQ W):=by delta CA L6 Du;rw[List.flatMap_assoc];congr 1;funext a;rw[List.flatMap_map];rfl
def TJ(W:N7):la (CA W)=(Mw W).length:=by rw[tF];delta Mw;rw[iG,iG];congr 1;show aq λa _=>?_;delta IQ Nq;rw[iG,iG];congr 1;show aq λj _=>?_;delta AH K2;simp
def dO:∀e∈CA W,e.1<e.2/\e.2<W.length/\0<GQ W e.1 e.2:=λe b=>by delta CA L6 at b;let⟨p,d,c⟩:=gR.mp b;let a:=List.mem_replicate.mp c;let⟨f,rfl⟩:=a;let:=lp.mp (show(e.1,e.2)∈Du W.length from d);apply⟨(),(),()⟩
def oo(ok:Zu W)(d:a<W.length)(c:b<W.length):(AH W a b).length<=9:=by let:=ok.N9 a b d c;delta AH;simp;lia
def A3(n:Nat)(m:Ez):List Int:=(aL n).map λx=>((m x:Nat):Int)
def bt(n:Nat)(m:Ez):(A3 n m).length=n:=by simp[A3]
def Wd{n:Nat}{m:Ez}{x:Nat}(h:x<n):Cz (A3 n m) x=(m x:Int):=Yp h
section
variable {W:N7} {c:Int}
def g0{n:Nat}{m:Ez}{z:Nat}(a:z<n):JZ (.lst (iL (A3 n m))) (.int (z:Int))=aA (.int (m z:Int)):=by rw[Zon (bt n m) z a,Wd a]
def Zhy{k:Nat}(a:k<=10000):K5 (.int (k:Int))=aA (.lst (iL (EF (aL k)))):=by change(if 0<=(k:Int)/\(k:Int)<=10000 then aA (PV.lst (iL ((aL (k:Int).toNat).map λ(i:Nat)=>(i:Int)))) else aB)=_;rw[An ⟨(),()⟩];rfl
def Zhz{W:N7}{i:Nat}(a:i<la (CA W)):JZ (.lst ((CA W).map Bc)) (.int (i:Int))=aA (Bc (Kh (CA W) i)):=by show Za2 ?_;delta Kh;rw[ag,aK,aF a];rfl
def Zot{W:N7}:CD [.lst ((CA W).map Bc)]=aA (.int (la (CA W):Int)):=⋯
def Zou{f:XE}{s:ZK}{v:PV}{i k:Nat}{a b:Int}(q:f s=aA v)(c:v = .tup [.int a,.int b]):Lh (.many [i,k]) f s=aA (.L4 ((s.set i (aA (.int a))).set k (aA (.int b)))):=by subst c;delta Lh;rw[q];rfl
end
def Zjd(b:Bool)(a:Int)(l:Gj):J7 b (.int a) (pP l)=aA (.Ap (if b then !decide (a∈l) else decide (a∈l))):=by
 delta J7;let c:((iL l).all λz=>C1 8 z (.int a))=aD:=by rw[lO,bN];ext x _;rfl
 change(aA (iL l)).bind _=_;dsimp[aZ,An c]
 have:decide (PV.int a∈iL l)=decide (a∈l):=decide_eq_decide.mpr (by
  rw[aa];constructor
  ·ext⟨x,d,e⟩;cases e;apply d
  ·ext h;apply⟨a,h,rfl⟩)
 rw[this]
def zA{W:N7}{i:Nat}(f:i<la (CA W)):∃t:Int,(Mw W)[i]?=aA [((Kh (CA W) i).1:Int),((Kh (CA W) i).2:Int),t]:=by
 let h:(Mw W).map (λr=>((Cz r 0).toNat,(Cz r 1).toNat))=CA W:=by rw[tF];delta Mw;rw[rV];congr 1;funext a;delta Nq IQ;rw[rV];congr 1;funext j;delta K2 AH;apply iN ⋯ (by intros;simp[Cz];lia)
 let c:∀r∈Mw W,∃(a b:Nat) (t:Int),r=[(a:Int),(b:Int),t]:=λr d=>by let⟨a,_,d⟩:=gR.mp d;let⟨j,_,d⟩:=gR.mp d;let⟨t,_,rfl⟩:=aa.mp d;apply⟨a,a+1+j,t,rfl⟩
 let k:i<(Mw W).length:=by rw[<-TJ];apply f
 let⟨a,b,t,e⟩:=c _ (bw k);show⟨t,?_⟩;let m:Kh (CA W) i=(a,b):=by let g:=congrArg (λl=>l[i]?) h;dsimp[ag] at g;rw[aF k,aF f,e] at g;delta Kh;rw[aK,aF f];rw[<-g];rfl
 rw[aF k,e,m]
def Mg(W:N7)(K:N6):Nat->Nat:=M1 (λx=>x) ((K.map (Kh (CA W))).map Ci)
def w5(W:N7)(K:N6)(k:Nat):Mg W (K++[k])=EK (Mg W K) (Kh (CA W) k).2 (Kh (CA W) k).1:=by delta Mg;rw[bR,bR,tM];rfl
def O2{W:N7}(ok:Zu W){K:N6}(p:∀k∈K,k<la (CA W)):Lx [wP W,.lst ((Mw W).map pP),pP (EF K)]=aA (.lst (iL (A3 (la W) (Mg W K)))):=by
 let u:=ok.j_;show XB (Zr (Zh (uY (c1 rfl Vq) (Zhy ()))) (Wm (Zoh (λi s=>∃d f h c,s=[aA (wP W),aA (.lst ((Mw W).map pP)),aA (pP (EF K)),aA (.lst (iL (A3 (la W) (Mg W (K.take i))))),d,f,h,c]) rfl ⟨aB,aB,aB,aB,rfl⟩ ?_) ?_))
 ·ext i s j ⟨d,f,h,c,rfl⟩;let g:=p _ (bw j);let⟨t,r⟩:=zA g;let n:=w5 W (K.take i) K[i];rw[<-kS j] at n
  let o:(Kh (CA W) K[i]).1<(Kh (CA W) K[i]).2/\(Kh (CA W) K[i]).2<la W:=by
   let:=dO (Kh (CA W) K[i]) (by
    delta Kh;rw[aK,aF g];apply bw g)
   apply⟨this.1,this.2.1⟩
  generalize Kh (CA W) K[i]=e at *;let⟨a,b⟩:=e;generalize Mg W (K.take i)=m at *;show YS (Zh (PJ (l:=[(a:Int),(b:Int),t]) (o2 rfl rfl (Wy (by rw[ag,r];rfl))))) (YS (Zh (ep (o2 rfl (o2 rfl rfl rfl) (g0 ())))) (YS (Zh (ep (o2 rfl (o2 rfl rfl rfl) (g0 o.2)))) (n5 (Zh ((ZP (aL (la W)) (λx=>.int (m x:Int)) (λx=>.int (EK m b a x:Int)) ?_ (by rw[bZ];lia) λx v=>⟨_,rfl,rfl,ep ?_⟩).trans ?_)) ⟨_,_,_,_,by rw[n];rfl⟩)))
  ·change aA (iL (A3 (la W) m))=_;rw[A3,PG]
  ·delta EK;by_cases q:m x=m b
   ·rw[An q];apply tB (xb ((P6 rfl rfl).trans (by rw[decide_eq_true ()]))) rfl
   ·rw[N4 q];apply PC (xb ((P6 rfl rfl).trans (by rw[decide_eq_false ()]))) rfl
  ·rw[A3,PG]
 ·ext s ⟨d,f,h,c,rfl⟩;rw[eD];apply⟨_,rfl,rfl⟩
def Ew(K:N6):List Int:=(EF K).foldl Ih []
def FQ(W:N7)(K:N6):Nat:=((A3 (la W) (Mg W K)).foldl gC []).length
def Zmb{K:N6}(a:∀k∈K,k<=31)(d:la K<=17):EL.BU (pP (EF K))=aA (.lst (iL (sortI (Ew K)))):=by
 change(J9 (iL (EF K))).bind (λns=>if EL.BL ns=aD then aA (PV.lst (iL (sortI (ns.foldl Ih [])))) else aB)=_;rw[Z5,aZ,An]
 ·rfl
 ·delta EL.BL;dsimp[af,decide_eq_true_eq,bN];show⟨λk b=>?_,by simpa [EF] using d⟩;let⟨j,c,rfl⟩:=aa.mp b;let:=a j c
  lia
def Zmc{n:Nat}{m:Ez}(h:((A3 n m).foldl gC []).length=1)(d:0<n):∀x,x<n->m x=m 0:=λx c=>by
 let⟨a,ea⟩:=List.length_eq_one_iff.mp h;let b:=λy e=>by have:(m y:Int)∈(A3 n m).foldl gC []:=Zdx _ (.inr (aa.mpr ⟨y,ao.mpr e,rfl⟩));rw[ea] at this;simpa using this
 let g:=b x c;let f:=b 0 d
 lia
def Zmd{n:Nat}{m:Ez}(d:0<n)(h:∀x,x<n->m x=m 0):((A3 n m).foldl gC []).length=1:=by
 let e:A3 n m=(m 0:Int)::(A3 n m).tail:=by delta A3;obtain⟨k,rfl⟩:∃k,n=k+1:=⟨n-1,()⟩;rw[iV,ak,List.tail_cons]
 rw[e];let:=vy λx b=>by let a:x∈A3 n m:=List.mem_of_mem_tail b;let⟨y,c,rfl⟩:=aa.mp a;rw[h y (ao.mp c)]
 apply congrArg fQ this
def dB:∀{l acc:Gj},(acc++l).Nodup->l.foldl Ih acc=acc++l
 | [],acc,_=>⋯
 | k::l,acc,h=>by
  let a:k∉acc:=λz=>by rw[dq] at h;apply h.2.2 k z k ⋯ rfl
  let ea:Ih acc k=acc++[k]:=by delta Ih;rw[N4 a]
  rw[g9,ea];let:=dB (l:=l) (acc:=acc++[k]) (~~~h);rw[this];simp
def As(F:N6):List Nat:=(sortI (EF F)).map cX
def Zh0(F:N6):EF (As F)=sortI (EF F):=by
 change((sortI (EF F)).map cX).map (λ(i:Nat)=>(i:Int))=_;rw[bS]
 conv=>rhs;rw[<-jP (sortI (EF F))]
 show aq λx a=>?_;let:=(sortI_perm _).mem_iff.mp a;let⟨j,_,rfl⟩:=aa.mp this;rfl
def Zdy{a b:Nat}:(λ(i:Nat)=>(i:Int)) a=(λ(i:Nat)=>(i:Int)) b->a=b:=by grind
def TV(F:N6):(As F).Perm F:=by
 let:=(sortI_perm (EF F)).map cX
 let e:(EF F).map cX=F:=by
  delta EF;rw[bS]
  conv=>rhs;rw[<-jP F]
  apply aq λx _=>rfl
 rw[e] at this;apply this
def Xz(i:ew E n b s)(all:∀h,h<n->h∈s.F):s.B.length+1=n:=by
 let f:=Rd i.ub i.uy;let c:=Tz (dC.mpr (gQ.imp λz e=>z (Zdy e))) λx d=>by let⟨k,a,rfl⟩:=aa.mp d;apply aa.mpr ⟨k,all k (ao.mp a),rfl⟩
 let e:s.F.length=s.B.length+1:=by rw[i.hB];simp
 dsimp[EF,aJ,bZ] at c
 lia
def wq(E:List Zy):(aL (la E)).map (Kh E)=E:=by
 apply((iN))
 ·simp
 ·ext i b a;rw[jW,qL];delta Kh;rw[aK,aF a];rfl
def Zdz:∀{l:List α},(∀x∈l,¬(p x=aD/\q x=aD))->l.countP (λx=>p x || q x)=l.countP p+l.countP q
 | [],_=>rfl
 | a::r,h=>by
  let c:=Zdz (l:=r) λx d=>h x (aS _ d);let b:=h a ⋯;rw[nI,nI,nI,c];cases Mc:p a<;>cases e2:q a<;>simp[Mc,e2] at b ⊢<;>lia
def Cn(h o:Nat):Zy:=if h<o then(h,o) else(o,h)
def Zh1(b:o≠h)(a:JR≠h)(e:Cn h o=Cn h JR):o=JR:=by
 delta Cn at e;split at e<;>split at e<;>cases e<;>first | rfl | lia
def Mh(E:List Zy)(h:Nat)(G:N6)(j:Nat):Bool:=G.any λo=>decide (Kh E j=Cn h o)
def Zme(ok:Zu W)(a:h<W.length)(b:o<W.length)(ne:o≠h):((aL (la (CA W))).countP (λj=>decide (Kh (CA W) j=Cn h o)):Int)=GQ W h o:=by
 let c:(aL (la (CA W))).countP (λj=>decide (Kh (CA W) j=Cn h o))=(CA W).count (Cn h o):=by
  conv=>rhs;rw[<-wq (CA W)]
  rw[List.count,rj];show List.countP_congr λx _=>?_;simp
 rw[c];delta CA;rw[Y_ ok.j_];delta Cn;let d:=ok.lo h o a b;split
 ·rw[An (lp.mpr ⟨(),()⟩)];change((GQ W h o).toNat:Int)=_
  lia
 ·rw[An (lp.mpr ⟨(),()⟩)];rw[ok.sym o h b a]
  lia
def S9(ok:Zu W)(f:h<W.length):∀{G:N6},G.Nodup->(∀o∈G,o<W.length/\o≠h)->((aL (la (CA W))).countP (Mh (CA W) h G):Int)=Ko W h G
 | [],_,_=>by
  have:(aL (la (CA W))).countP (Mh (CA W) h [])=0:=by rw[List.countP_eq_zero];ext a _;simp[Mh]
  rw[this];rfl
 | o::G,nd,hG=>by
  let d:=av.mp nd;let l:=S9 ok f d.2 λx k=>hG x (aS _ k);let i:=Zme ok f (hG o ⋯).1 (hG o ⋯).2
  let e:(aL (la (CA W))).countP (Mh (CA W) h (o::G))=(aL (la (CA W))).countP (λj=>decide (Kh (CA W) j=Cn h o))+(aL (la (CA W))).countP (Mh (CA W) h G):=by
   rw[<-Zdz]
   ·rfl
   ·intro x _ ⟨a,c⟩;let a:Kh (CA W) x=Cn h o:=of_decide_eq_true a;let⟨g,b,c⟩:=iM.mp c;let c:Kh (CA W) x=Cn h g:=of_decide_eq_true c;let:=Zh1 (hG o ⋯).2 (hG g (aS _ b)).2 (a.symm.trans c);apply d.1 (this▸b)
  rw[e]
  push_cast
  rw[l,i];delta Ko;rw[ak,cO]
def Zd0(ok:Zu W)(i:ew (CA W) W.length b s)(n:Ig (CA W) s.L s.F=aB)(m:h<W.length)(j:h∉s.F):Ko W h s.F<=(CO (CA W) s.L h:Int):=by
 rw[<-S9 ok m i.ub λo d=>⟨i.uy o d,λz=>j (z▸d)⟩]
 let sub:∀x∈(aL (la (CA W))).filter (Mh (CA W) h s.F),x∈s.L.filter (Cg (CA W) h):=λx l=>by
  let⟨g,q⟩:=dG.mp l;let g:=ao.mp g;let⟨o,d,c⟩:=iM.mp q;let c:=of_decide_eq_true c
  let f:Cg (CA W) h x=aD:=by
   delta Cg;rw[c];delta Cn;split<;>simp
  show dG.mpr ⟨?_,f⟩;by_cases z:x∈s.L
  ·apply z
  ·let a:=Xl n g z;rw[c] at a;delta Cn at a;split at a
   ·apply absurd (a.mpr d) j
   ·apply absurd (a.mp d) j
 let:=Tz (dC.mpr ((gQ.filter _).imp λz e=>z (Zdy e))) λx l=>by let⟨k,p,rfl⟩:=aa.mp l;apply aa.mpr ⟨k,sub k p,rfl⟩
 dsimp[EF,aJ] at this;rw[ie];delta CO
 lia
def Zd1{l m:Gj}(h:l.Perm m):l.sum=m.sum:=by
 induction h with
 | nil=>rfl
 | cons x _ N8=>rw[cO,cO,N8]
 | swap x y l=>dsimp[cO];lia
 | trans _ _ a b=>apply a.trans b
def V6(ok:Zu W)(c:h<W.length):∀{G F:N6},G.Nodup->(∀x∈G,x∈F)->(∀x∈F,x<W.length)->Ko W h G<=Ko W h F
 | [],F,_,_,hF=>by
  change(0:Int)<=_;delta Ko;apply SY λx a=>by let⟨o,i,rfl⟩:=aa.mp a;apply ok.lo h o c (hF o i)
 | g::G,F,nd,sub,hF=>by
  let b:=av.mp nd;let d:=sub g ⋯
  let j:=V6 ok c (G:=G) (F:=F.erase g) b.2 (λx a=>by
   have:x≠g:=λz=>b.1 (z▸a);apply(gp this).mpr (sub x (aS _ a))) λx a=>hF x (List.mem_of_mem_erase a)
  let f:F.Perm (g::F.erase g):=ou d;let e:Ko W h F=GQ W h g+Ko W h (F.erase g):=by delta Ko;rw[Zd1 (f.map _)];rw[ak,cO]
  let k:Ko W h (g::G)=GQ W h g+Ko W h G:=by delta Ko;rw[ak,cO]
  lia
def Sj(ok:Zu W)(i:ew (CA W) W.length b s)(p:i5 (CA W) W.length (Cz D) s)(f:Ig (CA W) s.L s.F=aB)(B:fu W D b G):∀k,k<=G.length->∀x∈G.take k,x∈s.F
 | 0,_,x,hx=>by simp at hx
 | k+1,hk,x,hx=>by
  let e:=Sj ok i p f B k ();let a:k<G.length:=()
  rw[jR,aF a] at hx;rcases aj.mp hx with z | z
  ·apply e x z
  ·let g:x=G[k]:=by simpa using z
   by_cases k0:k=0
   ·subst k0;let:=B.hd;rw[aF a] at this;have:G[0]=b:=bM this;rw[g,this,i.hB];simp
   ·let st:=B.st k () a;rw[aF a] at st;let⟨d,l,m⟩:=W9 st;by_cases c:x∈s.F
    ·apply c
    ·rw[g] at c;let h:=p.out _ d c;let n:=Zd0 ok i f d c;let j:=V6 ok d (B.nd.sublist (fm _ _)) e i.uy
     lia
end _p
namespace _p
open PySem _l _v _x Jb
def MN(W:N7)(k:Nat):List Int:=(Mw W).getD k []
def Zh2{W:N7}{k:Nat}(a:k<la (CA W)):∃t:Int,MN W k=[((Kh (CA W) k).1:Int),((Kh (CA W) k).2:Int),t]:=by let⟨t,e⟩:=zA a;show⟨t,?_⟩;delta MN;rw[aK,e];rfl
def Mj(W:N7):PV:=.lst ((Mw W).map pP)
def hc(W:N7):KP ((Mw W).map pP)=(aL (la (CA W))).map λ(i:Nat)=>.tup [.int (i:Int),pP (MN W i)]:=by rw[Wj,aJ,TJ];show aq λi a=>?_;let a:=ao.mp a;rw[aK,ag,aF a];delta MN;rw[aK,aF a];rfl
def Zd2{W:N7}{k:Nat}(b:k<la (CA W)):JZ (Mj W) (.int (k:Int))=aA (pP (MN W k)):=by
 let a:k<(Mw W).length:=by rw[<-TJ];apply b
 show Wy (xs:=(Mw W).map pP) ?_;delta MN;rw[ag,aK,aF a];rfl
def S8{W:N7}{k:Nat}(a:k<la (CA W)):JZ (pP (MN W k)) (.int 0)=aA (.int ((Kh (CA W) k).1:Int))/\JZ (pP (MN W k)) (.int 1)=aA (.int ((Kh (CA W) k).2:Int))/\G7 (pP (MN W k)) aB (aA 2)=aA (pP [((Kh (CA W) k).1:Int),((Kh (CA W) k).2:Int)]):=by let⟨t,b⟩:=Zh2 a;rw[b];apply⟨rfl,rfl,rfl⟩
def PB{W:N7}{L F:N6}:BM [Mj W,.lst (iL (EF L)),.lst (iL (EF F))]=aA (Lw (Ig (CA W) L F)):=by
 show XB (Zja (L:=aL (la (CA W))) (q:=λ(i:Nat)=>.tup [.int (i:Int),pP (MN W i)]) (g:=λ(i:Nat)=>.int (i:Int)) (λk=>!decide (k∈L)&&(decide ((Kh (CA W) k).1∈F) != decide ((Kh (CA W) k).2∈F))) (λst=>∃x y,st=[aA (Mj W),aA (.lst (iL (EF L))),aA (.lst (iL (EF F))),x,y]) (by rw[<-hc];rfl) ⟨aB,aB,rfl⟩ ?_ (λa e=>by delta Ig;rw[e];rfl) λe s=>?_)
 ·ext k c s ⟨x,y,rfl⟩;let⟨f,b,_⟩:=S8 (ao.mp c)
  let d:∀p q:Bool,J1 aD (.Ap p) (.Ap q)=aA (.Ap (p != q)):=λp q=>by
   delta J1;rw[An (by rfl)];cases p<;>cases q<;>simp
  apply⟨_,rfl,xa (xb (o2 rfl rfl (S4 k L))) (xb (o2 (o2 (o2 rfl rfl f) rfl (Sf _ F)) (o2 (o2 rfl rfl b) rfl (Sf _ F)) (d _ _))),rfl,_,_,rfl⟩
 ·ext⟨x,y,rfl⟩;show⟨.Ma,rfl,?_⟩;delta Ig;rw[e];rfl
def IX(x:I_):List Int:=[(x.1:Int),(x.2.1:Int),(x.2.2:Int)]
abbrev Zov(W:N7)(b:Nat)(C:PV)(s:WS)(aay x8 x9:Option PV):ZK:=[aA (wP W),aA (.int (b:Int)),aA C,aA (Mj W),aA (.lst (iL (EF s.F))),aA (.lst (iL (EF s.L))),aA (.lst (s.B.map λx=>pP (IX x))),aay,x8,x9]
def X5{W:N7}:∀e∈CA W,e.1<la W/\e.2<la W:=λe a=>by
 let:=dO e a
 lia
def Zh3{E:List Zy}{k:Nat}(h:k<la E):Kh E k∈E:=by delta Kh;rw[aK,aF h];apply bw h
def Zmf{s:ZK}{i:Nat}{fs:List XE}{ls:List PV}{a:G5}{l:PV}{v:Bool}(g:s[i]?=aA (aA (.ox a l)))(d:A2 fs s=aA ls)(b:KC l=aD)(c:Ik ls=aD)(e:NF a l ls=aA (.Ap v)):By (Hi NF i fs) s=aA v:=by delta By Hi;rw[g];rw[d];dsimp[aZ];rw[An (by rw[b,c];rfl),e];rfl
def h_{W:N7}{L:N6}{h:Nat}{s:ZK}(c:∀j∈L,j<la (CA W))(g:la L<=1000)(d:Cw 5 s=aA (.lst (iL (EF L))))(e:CT 1 [8,3] s=[aB,aA (.int (h:Int)),aA (Mj W)]) :
  AK CD [AS 1 [8,3] (G6 (Cw 5)) (.one 0) (AO (Cy (J7 aC) (Cw 1) (MW G7 (Cy JZ (Cw 2) (Cw 0)) CP (AY (AL (.int 2)))))) (Cw 0)] s=aA (.int (CO (CA W) L h:Int)):=by
 show c1 (WD L (λi=>.int (i:Int)) (λi=>.int (i:Int)) (Cg (CA W) h) (by delta G6;rw[d];simp[EF]) () λy a=>⟨[aA (.int (y:Int)),aA (.int (h:Int)),aA (Mj W)],by rw[e];rfl,?_,λ_=>rfl⟩) (by simp[CO]);let⟨_,_,f⟩:=S8 (c y a);show xb (o2 (b:=pP [((Kh (CA W) y).1:Int),((Kh (CA W) y).2:Int)]) rfl ?_ ?_)
 ·change((JZ (Mj W) (.int (y:Int))).bind λx=>G7 x aB (aA 2))=_;rw[Zd2 (c y a)];apply f
 ·rw[Zjd];simp[Cg,Int.ofNat_inj]
def tl{W:N7}(ok:Zu W){b:Nat}(A:b<la W){g:G5}{l:PV}{φ:aan}(E:KC l=aD)
  (C:∀k h c:Nat,k<la (CA W)->h<la W->NF g l [.int (k:Int),.int (h:Int),.int (c:Int)]=aA (.Ap (φ k h c))) :
  BQ [wP W,.int (b:Int),.ox g l]=aA (.lst ((MR (CA W) φ (la (CA W)) (EW b)).B.map λx=>pP (IX x))):=by
 let I:=ok.j_;let w:=W8 ok;let N:la (CA W)<=441:=by rw[TJ];apply w.2
 show XB (Zr (Zh (c1 rfl w.1)) (Zr rfl (Zr rfl (Zr rfl (Zr (Zh (c3 rfl rfl rfl (PB (L:=[]) (F:=[b])))) (Wm (zK (λk st=>∃s r t,st=Zov W b (.ox g l) s (aA (Lw (Ig (CA W) s.L s.F))) r t/\ew (CA W) (la W) b s/\la (CA W)<=k+s.L.length/\MR (CA W) φ k s=MR (CA W) φ (la (CA W)) (EW b)) ⟨EW b,aB,aB,rfl,ew.start A,⋯,rfl⟩ ?_) ?_))))))
 ·ext k st ⟨s,r,t,rfl,a,H,m⟩
  cases e:Ig (CA W) s.L s.F with
  | none=>apply .inl rfl
  | some j=>
   cases k with
   | zero=>
    let:=R9 (φ:=φ) X5 a (by omega);delta MR at this;rw[e] at this;cases this
   | succ k=>
    let⟨d,P,_⟩:=Xf e;let⟨O,S,o,J,B⟩:=S3 e
    let p:CI (CA W) s.F j<la W:=by
     let:=X5 _ (Zh3 d);rcases B with z | z<;>rw[z] at this
     ·apply this.2
     ·apply this.1
    let Q:=Rd a.xE a.vV;let T:=Rd a.ub a.uy;let M:s.F.length=s.B.length+1:=by rw[a.hB];simp
    let⟨u,D,_⟩:=S8 d;let f:=Zd2 d;let' h:=CI (CA W) s.F j;let' c:=CO (CA W) (s.L++[j]) h;show .inr ⟨rfl,YS (u0 rfl rfl ()) (YS (Zh (vP ?_)) (YS (Zh (vP (h_ (λi G=>?_) (by rw[ah,ba];lia) rfl rfl))) (Zi9 (R:=λst=>st=Zov W b (.ox g l) (J3 (CA W) φ s j) (aA (.int (j:Int))) (aA (.int (h:Int))) (aA (.int (c:Int)))) (xm (Zmf rfl rfl E rfl (C j h c d p)) (λv=>YS (u0 rfl rfl ()) (n5 (SR (λx=>pP (IX x)) (y:=(j,h,c)) rfl rfl ()) ?_)) λv=>n5 rfl ?_) ?_)))⟩
    ·change _=aA (PV.int (CI (CA W) s.F j:Int));delta CI;by_cases q:(Kh (CA W) j).1∈s.F
     ·rw[An q];apply tB (xb ((o2 (o2 (o2 rfl rfl f) rfl u) rfl (Sf _ _)).trans (by rw[decide_eq_true q]))) (o2 (o2 rfl rfl f) rfl D)
     ·rw[N4 q];apply PC (xb ((o2 (o2 (o2 rfl rfl f) rfl u) rfl (Sf _ _)).trans (by rw[decide_eq_false q]))) (o2 (o2 rfl rfl f) rfl u)
    ·rcases aj.mp G with z | z
     ·apply a.vV i z
     ·rw[aO.mp z];apply d
    ·delta J3;rw[An v];rfl
    ·delta J3;rw[N4 (by rw[v];decide)];rfl
    ·ext st rfl;show n5 (Zh (c3 rfl rfl rfl PB)) ⟨k,(),J3 (CA W) φ s j,_,_,rfl,a.step X5 e,by rw[QU,ah,ba];lia,?_⟩;rw[<-m]
     conv=>rhs;unfold MR
     rw[e]
 ·ext st ⟨k,⟨s,r,t,rfl,a,H,m⟩,q⟩;show⟨_,rfl,?_⟩;rw[<-m]
  cases k with
  | zero=>rfl
  | succ n=>
   delta MR
   cases e:Ig (CA W) s.L s.F with
   | none=>rfl
   | some h=>rw[e] at q;cases q
def cy{K:N6}{k h c:Nat}:NF DA (pP (EF K)) [.int (k:Int),.int (h:Int),.int (c:Int)]=aA (.Ap (decide (k∈K))):=by delta NF;rw[An rfl];apply o2 rfl rfl (by rw[Zjd];dsimp[Wh];rfl)
def VI(D:Gj):KC (pP D)=aD:=by
 change Ik (iL D)=aD
 induction D with
 | nil=>rfl
 | cons a r N8=>apply N8
def IB(W:N7)(D:Gj)(b:Nat):WS:=MR (CA W) (Bd (Cz D)) (la (CA W)) (EW b)
def DB(W:N7)(D:Gj)(b:Nat):List Nat:=As ((IB W D b).B.map (·.1))
def Zd3{W:N7}(ok:Zu W){D:Gj}{b:Nat}(a:b<la W){G:N6}(B:fu W D b G)(all:la G=la W)(i:∀g,g<la W->g≠b->0<=Cz D g):∀h,h<la W->h∈(IB W D b).F:=λh c=>by
 let j:ew (CA W) (la W) b (IB W D b):=ew.walk X5 (ew.start a);let k:i5 (CA W) (la W) (Cz D) (IB W D b):=i5.walk X5 (i5.start i);let d:Ig (CA W) (IB W D b).L (IB W D b).F=aB:=R9 X5 (ew.start a) ⋯
 let e:h∈G:=by
  by_cases z:h∈G
  ·apply z
  ·let:=Rd (Xs B.nd z) λx f=>by
    rcases aj.mp f with y | y
    ·apply B.lt x y
    ·rw[aO.mp y];apply c
   rw[ah,ba] at this
   lia
 apply Sj ok j k d B (la G) (aU _) h (by rw[eD];apply e)
def wi{W:N7}{D:Gj}{b:Nat}:MR (CA W) (λk _ _=>decide (k∈DB W D b)) (la (CA W)) (EW b)=IB W D b:=
 Vd (T:=DB W D b) (λx a=>by simp[EW] at a) λk=>(TV _).mem_iff
def E9(B:L3)(c:Gj):List Int:=B.foldl (λc x=>c.set x.2.1 ((x.2.2:Int)-1)) c
def Qa:∀(B:L3)(c:Gj),(E9 B c).length=la c
 | [],_=>rfl
 | x::B,c=>by change(E9 B (c.set _ _)).length=_;rw[Qa,cq]
def yM(B:L3)(x:I_)(c:Gj):E9 (B++[x]) c=(E9 B c).set x.2.1 ((x.2.2:Int)-1):=by delta E9;rw[mP];rfl
def PF{W:N7}(ok:Zu W){b:Nat}(f:b<la W){K:N6} :
  Hk [wP W,.int (b:Int),pP (EF K)]=aA (pP (E9 (MR (CA W) (λk _ _=>decide (k∈K)) (la (CA W)) (EW b)).B (aW (la W) 0))):=by
 let g:=tl ok f (VI (EF K)) λk h c _ _=>cy;generalize hs:MR (CA W) (λk _ _=>decide (k∈K)) (la (CA W)) (EW b)=s at g ⊢;let j:ew (CA W) (la W) b s:=by rw[<-hs];apply ew.walk X5 (ew.start f)
 let t:=ok.j_;let o:=λx p=>j.uy _ (by rw[j.hB];apply aS _ (aa.mpr ⟨x,p,rfl⟩))
 let n:∀B:List (Nat×Nat×Nat),Ik (B.map λx=>pP (IX x))=aD:=λB=>by
  induction B with
  | nil=>rfl
  | cons x r N8=>
   change(KC (pP (IX x))&&Ik _)=aD;rw[VI];apply N8
 show XB (Zr (Zh (o2 rfl (c1 rfl Vq) (Zjb ()))) (Zr (Zh ?_) (Wm (QJ (λi st=>∃d e a,st=[aA (wP W),aA (.int (b:Int)),aA (pP (EF K)),aA (.lst (iL (E9 (s.B.take i) (aW (la W) 0)))),aA (.lst (s.B.map λx=>pP (IX x))),d,e,a]) rfl ⟨aB,aB,aB,rfl⟩ ?_) ?_)))
 ·change(BQ [wP W,.int (b:Int),.ox DA (pP (EF K))]).bind _=_;rw[g,aZ,An (show KC (PV.lst _)=aD from n _)]
 ·ext i l st m ⟨d,e,a,rfl⟩;obtain⟨x,q,rfl⟩:∃x,s.B[i]?=aA x/\pP (IX x)=l:=by simpa using m
  show⟨_,rfl,n5 (Zly rfl (uh rfl rfl) rfl (by rw[Qa,cH];apply o x (aw q))) ⟨aA (.int (x.1:Int)),aA (.int (x.2.1:Int)),aA (.int (x.2.2:Int)),?_⟩⟩;rw[show s.B.take (i+1)=s.B.take i++[x] by rw[jR,q];rfl,yM];rfl
 ·ext st ⟨d,e,a,rfl⟩;apply Yd (PJ (c1 rfl rfl)) ⋯
def Qb{h:Nat}:∀{B:L3}{c:Gj},(∀x∈B,x.2.1≠h)->(E9 B c)[h]?=c[h]?
 | [],_,_=>rfl
 | x::B,c,Ck=>by change(E9 B (c.set x.2.1 _))[h]?=_;rw[Qb λy a=>Ck y (aS _ a),cu (Ck x ⋯)]
def rd{x:I_}:∀{B:L3}{c:Gj},(B.map (·.2.1)).Nodup->x∈B->x.2.1<la c->(E9 B c)[x.2.1]?=aA ((x.2.2:Int)-1)
 | [],_,_,h,_=>by simp at h
 | y::B,c,nd,h,Kb=>by
  rw[ak] at nd;let a:=av.mp nd;change(E9 B (c.set y.2.1 _))[x.2.1]?=_;rcases aY.mp h with e | h
  ·subst e;rw[Qb λz b e=>a.1 (aa.mpr ⟨z,b,e⟩),eB Kb]
  ·apply rd a.2 h (by rw[cq];apply Kb)
def Zd4{W:N7}{D:Gj}{b:Nat}{s:WS}(m:la D=la W)(a:ew (CA W) (la W) b s)(l:i5 (CA W) (la W) (Cz D) s)(all:∀h,h<la W->h∈s.F):E9 s.B (aW (la W) 0)=D.set b 0:=by
 let j:(s.B.map (·.2.1)).Nodup:=by let:=a.ub;rw[a.hB] at this;apply(av.mp this).2
 let k:∀x∈s.B,x.2.1≠b:=λx c e=>by let:=a.ub;rw[a.hB] at this;apply(av.mp this).1 (aa.mpr ⟨x,c,e⟩)
 apply((gA));ext h;by_cases d:h<la W
 ·by_cases e:h=b
  ·subst e;rw[Qb k,eB (),cP,An d]
  ·let g:=all h d;rw[a.hB] at g;rcases aY.mp g with z | z
   ·apply absurd z e
   ·let⟨x,c,f⟩:=aa.mp z;let f:x.2.1=h:=f;subst f;rw[rd j c (by rw[cH];apply d),cu (λz=>e z.symm),l.zp x c];let i:x.2.1<la D:=()
    rw[aF i];delta Cz;rw[aK,aF i];simp
 ·rw[cT (by rw[Qa,cH];lia),cT (by rw[cq];lia)]
end _p
namespace _p
open _l _v
structure tU(m:Nat)(A E:Mt)(d:Int)(p:Nat):Prop where
 Cr:0<d
 off:∀i j,p<=i->i<m->p<=j->j<m->i≠j->E i j<=0
 row:∀i,p<=i->i<m->0<=AM m λj=>if j<p then 0 else E i j
 uR:∀i,p<=i->i<m->E i i<=d*A i i
def tU.piv(S:tU m A E d p)(a:p<m):0<=E p p:=by
 let h:=S.row p (aU p) a;let e:=Yg (f:=λj=>if j=p then E p p else 0) a λi _ ne=>N4 ne
 let l:=Yj (f:=λj=>(if j=p then E p p else 0)+(-1)*(if j<p then 0 else E p j)) λj b=>by
  by_cases q:j=p
  ·subst q;rw[An rfl];lia
  ·rw[N4 q];split
   ·lia
   ·let:=S.off p j (aU p) a () b (λz=>q z.symm);lia
 rw[Yq,ZN,e] at l
 lia
def tU.step(ok:uI m A X)(f:p<m)(I:xZ m A X p E d)(S:tU m A E d p):tU m A (λi j=>if i=p then E i j else(E p p*E i j-E i p*E p j).fdiv d) (E p p) (p+1):=by
 let⟨u,t⟩:=S1 ok f I;let h:0<E p p:=by let:=S.piv f;let:=u.nz;lia
 let n:=S.Cr;let l:∀i j,p+1<=i->i<m->j<m->d*(if i=p then E i j else(E p p*E i j-E i p*E p j).fdiv d)=E p p*E i j-E i p*E p j:=λi j c b k=>by let⟨q,e⟩:=t i j b () ();rw[N4 (),e,jh _ ()]
 let o:∀i j,p+1<=i->i<m->p+1<=j->j<m->0<=E i p*E p j:=λi j c b k g=>
  Int.mul_nonneg_of_nonpos_of_nonpos (S.off i p () b (aU p) f ()) (S.off p j (aU p) f () g ())
 show⟨h,λi j c b k g ne=>?_,λi c b=>?_,λi c b=>?_⟩
 ·show j4 ?_ n;rw[l i j c b g];let:=Int.mul_nonpos_of_nonneg_of_nonpos (n9 h) (S.off i j () b () g ne);let:=o i j c b k g
  lia
 ·show j4 ?_ n;rw[<-ZN]
  let e:(AM m λj=>d*(if j<p+1 then 0 else if i=p then E i j else(E p p*E i j-E i p*E p j).fdiv d))=AM m λj=>E p p*(if j<p then 0 else E i j)+(- E i p)*(if j<p then 0 else E p j):=Zn λj r=>by
   by_cases q:j<p
   ·rw[An (),An q,An q];simp
   ·rw[N4 q,N4 q];by_cases s:j=p
    ·subst s;rw[An (),eU,dF (E i j)];lia
    ·rw[N4 (),l i j c b r,eU];lia
  rw[e,Yq,ZN,ZN];let:=fj (n9 h) (S.row i () b);let:=fj (a:=- E i p) (by let:=S.off i p () b (aU p) f ();lia) (S.row p (aU p) f)
  lia
 ·show j4 ?_ n;rw[l i i c b b];let:=o i i c b c b;let:=iQ (S.uR i () b) (n9 h);rw[gy] at this
  lia
def FO(A:Mt):Nat->Int
 | 0=>1
 | p+1=>FO A p*A p p
def Zd5(ok:uI m A X)(o:∀i j,i<m->j<m->i≠j->A i j<=0)(r:∀i,i<m->0<=AM m (A i))(a:∀i,i<m->0<=A i i):∀{p:Nat},p<=m->tU m A (AW m X p).1 (AW m X p).2 p/\(AW m X p).2<=FO A p
 | 0,_=>⟨⟨by change(0:Int)<1;decide,λi j _ b _ c ne=>by change X i j<=0;rw[ok.ext i j b c];apply o i j b c ne,λi _ b=>by
   rw[Zn (g:=A i) λj c=>by rw[N4 ()];apply ok.ext i j b c];apply r i b,λi _ b=>by change X i i<=1*A i i;rw[ok.ext i i b b];lia⟩,cz _⟩
 | p+1,h=>by let⟨S,l⟩:=Zd5 ok o r a (p:=p) ();show⟨S.step ok () (XD ok ()),?_⟩;let d:=S.uR p (aU p) ();apply nu d (fV l (a p ()))
def DD:Nat->Nat->Nat
 | 0,_=>1
 | m+1,s=>(aL (s+1)).foldl (λa x=>max a (x*DD m (s-x))) 0
def Zje{f:Ez}:∀(l:N6)(a:Nat),a<=l.foldl (λa x=>max a (f x)) a/\∀x∈l,f x<=l.foldl (λa x=>max a (f x)) a
 | [],a=>⟨aU _,⋯⟩
 | y::l,a=>by
  let⟨c,d⟩:=Zje (f:=f) l (max a (f y));show⟨cG (Nat.le_max_left _ _) c,λx b=>?_⟩;rcases aY.mp b with rfl | b
  ·apply cG (Nat.le_max_right _ _) c
  ·apply d x b
def Zd6:∀{m s:Nat},(∀i,i<m->0<=A i i)->AM m (λi=>A i i)<=(s:Int)->FO A m<=(DD m s:Int)
 | 0,s,_,_=>cz _
 | m+1,s,h0,h=>by
  let j:=h0 m ();let d:=Yj (n:=m) (f:=λi=>A i i) λi a=>h0 i ();let h:AM m (λi=>A i i)+A m m<=(s:Int):=h;obtain⟨x,c⟩:∃x:Nat,A m m=(x:Int):=⟨(A m m).toNat,()⟩;let b:=Zd6 (A:=A) (m:=m) (s:=s-x) (λi a=>h0 i ()) ();let g:=(Zje (f:=λx=>x*DD m (s-x)) (aL (s+1)) 0).2 x (ao.mpr ());let g:x*DD m (s-x)<=DD (m+1) s:=g;let e:=fV b (show(0:Int)<=(x:Int) by lia);change FO A m*A m m<=_;rw[c];show nu e ?_;rw[dF]
  exact_mod_cast g
def Zmg:∀n,n<=6->DD n (if n<=3 then 15 else 2*n+3)<=300:=by decide +kernel
def UW(i:Nat):Kj 0 i=i+1:=by delta Kj;rw[N4 ()]
def Zd7{W:N7}(ok:Zu W)(o:E7 W)(p:2<=la W):1<=(Kl W 0).sum:=by
 let c:=ok.pos;rw[Oo ok c,R4];show dQ λh=>?_;let h:¬1<=AM (la W) (GQ W 0):=h
 let z:∀j,j<la W->GQ W 0 j=0:=λj d=>by
  let e:=Yg (f:=λi=>if i=j then GQ W 0 j else 0) d λi _ ne=>N4 ne
  let l:=Yj (f:=λi=>GQ W 0 i+(-1)*(if i=j then GQ W 0 j else 0)) λi n=>by
   let:=ok.lo 0 i c n;split
   ·rename_i q;subst q;lia
   ·lia
  rw[Yq,ZN,e] at l;let:=ok.lo 0 j c d
  lia
 let:=(o (· = 0) (λa b g m k=>⟨λq=>by rw[q,z b m] at k;lia,λq=>by rw[q,ok.sym a 0 g c,z a g] at k;lia⟩) 1 0 () c).mpr rfl
 lia
def Zd8{W:N7}(ok:Zu W)(a:E7 W)(b:2<=la W):AM (la W-1) (λi=>A1 W 0 i i)<=2*(la (CA W):Int)-1:=by
 let g:=Zd7 ok a b;let t:=Zdb ok;rw[<-TJ,R4] at t;let e:=VA (m:=W.length-1) (f:=λh=>if h=0 then 0 else(Kl W h).sum) (An rfl) ();rw[show la W-1+1=la W by lia] at e
 let j:AM (la W-1) (λi=>A1 W 0 i i)=AM (la W) λh=>if h=0 then 0 else(Kl W h).sum:=by
  rw[e];apply Zn λi _=>by delta A1;rw[An rfl,UW,N4 ()]
 let d:=Yg (f:=λh=>if h=0 then(Kl W 0).sum else 0) ok.pos λi _ ne=>N4 ne
 let c:AM (la W) (λh=>(Kl W h).sum)=AM (la W) (λh=>(if h=0 then 0 else(Kl W h).sum)+if h=0 then(Kl W 0).sum else 0):=Zn λi _=>by
  split
  ·rename_i q;rw[q];lia
  ·lia
 rw[c,Yq,d] at t
 lia
def Zd9{W:N7}(ok:Zu W)(o:E7 W)(A:la (CA W)<=8)(v:4<la W->la (CA W)<=la W+1):∃d:Int,B2 [wP W]=aA (.int d)/\d<=300:=by
 let n:=ok.pos;let z:=ok.j_;obtain⟨m,l⟩:∃m,W.length=m+1:=⟨W.length-1,()⟩;let b:la W-1=m:=()
 let Gw:=PT ok o n (λ_=>0);let sq:=Vs ok n;rw[b] at Gw sq;let f:∀i j,i<m->j<m->0<=GQ W (Kj 0 i) (Kj 0 j):=λi j a c=>ok.lo _ _ (by rw[l];apply Wf a) (by rw[l];apply Wf c);let e:∀i,i<m->0<=A1 W 0 i i:=λi a=>by delta A1;rw[An rfl];apply SY (h1 ok (by rw[l];apply Wf a))
 let⟨_,le⟩:=Zd5 Gw (λi j a c ne=>by
  delta A1;rw[UW,UW];let:=f i j a c;rw[UW,UW] at this
  lia) (λi a=>by
  let g:=yw ok n (Y:=λh=>if h=0 then 0 else 1) (An rfl) (k:=i) ();rw[b,Zn λj _=>by rw[UW,N4 (),Int.mul_one]] at g
  have:0<=AM (la W) λh=>(-1)*(GQ W (Kj 0 i) h*((if h=0 then 0 else 1)-(if Kj 0 i=0 then 0 else 1))):=Yj λh r=>by
   let:=ok.lo (Kj 0 i) h (by rw[l];apply Wf a) r;rw[UW] at this ⊢;rw[N4 (show ¬i+1=0 by lia)];split
   ·rw[Int.zero_sub];lia
   ·simp
  rw[ZN] at this;let g:(AM (la W) λh=>GQ W (Kj 0 i) h*((if h=0 then(0:Int) else 1)-(if Kj 0 i=0 then 0 else 1))) = - AM m (A1 W 0 i):=g
  lia) e (aU m)
 let y:CN m m (A1 W 0)=CN m m (G4 W 0 λ_=>0):=by
  apply aq λi a=>aq λj c=>by delta G4;rw[An (by let:=ao.mp c;lia)]
 let t:=Wi (w:=m) (R:=wP (CN m m (A1 W 0))) () () () Gw (λi j a c=>ZD ok () ()) (λi a=>by delta G4;rw[N4 ()];apply dM _) (.inr (by rw[y];rfl));show⟨_,?_,nu le ?_⟩
 ·let p:BZ [wP (CN m m (A1 W 0))]=aA (.int (AW m (G4 W 0 λ_=>0) m).2):=by
   change(AQ _ [aA (wP (CN m m (A1 W 0)))]).bind MB=_
   rw[w6 (vP (by
    rw[show Cy JZ (AK Bt [Cw 0]) (AL (.int 0)) [aA (wP (CN m m (A1 W 0)))]=(Bt [wP (CN m m (A1 W 0))]).bind λx=>JZ x (.int 0) from rfl,t];rfl))]
   rfl
  let hs:NG [wP W]=aA (wP (CN m m (A1 W 0))):=by change(AQ _ [aA (wP W)]).bind MB=_;rw[w6 sq];rfl
  change(AQ _ [aA (wP W)]).bind MB=_
  rw[w6 (by
   rw[Wc,Zt,show AK NG [Cw 0] [aA (wP W)]=aA (wP (CN m m (A1 W 0))) from hs];apply p)]
  rfl
 ·let B:=Zmg m ();by_cases q:m=0
  ·subst q;apply nu (cz 1) ∅
  ·let u:=Zd8 ok o ();rw[b] at u
   let:=Zd6 (s:=if m<=3 then 15 else 2*m+3) e (by
    split
    ·lia
    ·let:=v ();lia)
   lia
end _p
namespace Fu
open PySem _l _v _p
def Zqm(c:Int):∃v:Int,1<=v/\v<=9/\AZ [PV.int 1,PV.int 1,PV.int 1,PV.int 2,PV.int 3] (c%5)=aA (.int v):=by
 let h:c%5=0\/c%5=1\/c%5=2\/c%5=3\/c%5=4:=()
 rcases h with h | h | h | h | h<;>rw[h]
 ·apply⟨1,∅,∅,rfl⟩
 ·apply⟨1,∅,∅,rfl⟩
 ·apply⟨1,∅,∅,rfl⟩
 ·apply⟨2,∅,∅,rfl⟩
 ·apply⟨3,∅,∅,rfl⟩
def Zqn(c:Int):∃v:Int,0<=v/\v<=9/\AZ [PV.int 0,PV.int 1,PV.int 0,PV.int 1,PV.int 2] (c%5)=aA (.int v):=by
 let h:c%5=0\/c%5=1\/c%5=2\/c%5=3\/c%5=4:=()
 rcases h with h | h | h | h | h<;>rw[h]
 ·apply⟨0,∅,∅,rfl⟩
 ·apply⟨1,∅,∅,rfl⟩
 ·apply⟨0,∅,∅,rfl⟩
 ·apply⟨1,∅,∅,rfl⟩
 ·apply⟨2,∅,∅,rfl⟩
abbrev stC(ns:Gj)(Y2 n:Nat)(first:Int)(ts:List X7)(t7:Int)(x6 aay x8 x9 x10 x11:Option PV):ZK:=
 [aA (.cst (iL ns)),aA (.int (Y2:Int)),aA (.int (n:Int)),aA (.int first),aA (.int t7),aA (M5 ts),x6,aay,x8,x9,x10,x11]
def Nu(n:Nat):Int:=if 4<n then(n:Int)+1 else 8
def tZ{ns:Gj}{Y2 n:Nat}(D:la ns<=63)(Es:1<=n)(Ay:n<=7):∃ts,Hz [.cst (iL ns),.int (Y2:Int),.int (n:Int)]=aA (M5 ts)/\cm n ts/\Dw n ts/\EU ts<=Nu n:=by
 let hR:(n:Int)+1<=Nu n/\Nu n<=8:=by delta Nu;split<;>lia
 generalize Z:Nu n=R at *;let l:=Xd D Y2;generalize Cz ns Y2=first at l
 let⟨r,er,alt⟩:=YF (most:=9) () () Ay Es;let g4:∀{s:ZK},Cw 2 s=aA (.int (n:Int))->AK IH [Cy E3 (Cw 2) (AL (.int 4))] s=aA (.int (if 4<n then 1 else 0)):=λh=>c1 (yo h rfl) ⋯
 let W:∃v,Hz [.cst (iL ns),.int (Y2:Int),.int (n:Int)]=aA v/\∃ts,v=M5 ts/\cm n ts/\Dw n ts/\EU ts<=R:=by
  show RW (Zr (Zh (c2 rfl rfl l)) (Zr (Zh (v:=.int R) (ep (o2 rfl (g4 rfl) (by rw[<-Z];delta Nu;split<;>rfl)))) ?_));let a3:AK DF [Cy WU (Cw 3) (AL (.int 2)),Cw 2,Cw 4,AL (.int 9)] [aA (.cst (iL ns)),aA (.int (Y2:Int)),aA (.int (n:Int)),aA (.int first),aA (.int R),aB,aB,aB,aB,aB,aB,aB]=aA r:=c4 (xj rfl rfl) rfl rfl rfl er;let a2:C9 aD (AK DF [Cy WU (Cw 3) (AL (.int 2)),Cw 2,Cw 4,AL (.int 9)]) [aA (.cst (iL ns)),aA (.int (Y2:Int)),aA (.int (n:Int)),aA (.int first),aA (.int R),aB,aB,aB,aB,aB,aB,aB]=aA (.Ap (!BD r)):=by rw[Zaz,a3];cases r<;>rfl
  cases H:(decide (first%2=1)&&!BD r) with
  | true=>
   rcases alt with rfl | ⟨ts,rfl,ok,_,Gz,o⟩
   ·rw[af] at H;apply absurd H.2 ∅
   ·apply ZF ((xa (xb (P6 (Oy rfl rfl) rfl)) (xb a2)).trans (congrArg aA H)) (Yd a3 ⟨ts,rfl,ok,Gz,o ()⟩)
  | false=>
   show Zr (kV ((xa (xb (P6 (Oy rfl rfl) rfl)) (xb a2)).trans (congrArg aA H))) (Zr rfl (Wm (hX (m:=1) (λi s=>∃ts d I J Q,s=stC ns Y2 n first ts d I J Q aB aB aB/\cm n ts/\ts.length+1<=i/\(n:Int)-i<=d/\EU ts+d<=R/\∀h,1<=h->h<i->∃c,c<h/\B6 ts c h) rfl rfl ⟨[],R,aB,aB,aB,rfl,cm.nil n,aU _,(),by change(0:Int)+R<=R;lia,λh Es Md=>()⟩ ?_) ?_))
   ·ext h s i1 hh ⟨ts,d,I,J,Q,rfl,ok,F,hr,o,w⟩;let q:=Xd D (Y2+h);generalize Cz ns (Y2+h)=c at q;let⟨v,v1,v9,ev⟩:=Zqm (c/(h:Int));generalize hd:(if d-((n:Int)-1-(h:Int))<v then d-((n:Int)-1-(h:Int)) else v)=Cr;let d1:1<=Cr/\Cr<=9/\Cr<=d-((n:Int)-1-(h:Int)):=by rw[<-hd];split<;>lia
    let m0:=jt c (show(h:Int)≠0 by lia);let aby:=iY c (show(0:Int)<(h:Int) by lia);let⟨x,N,t,B,hh2,u,Y⟩:=RX (a:=(c%(h:Int)).toNat) ok () hh d1.1 d1.2.1 ();rw[j7 m0] at N;show YS (Zh (c2 rfl rfl q)) (YS (Zh (ep (c2 (o2 rfl (Oy (xj rfl rfl) rfl) ev) (uh rfl (uh (uh rfl rfl) rfl)) (by rw[<-hd];rfl)))) (YS (RY rfl (Zoi (Oy rfl rfl) rfl) rfl N) (n5 (Zh (ep (uh rfl rfl))) ⟨x,_,_,_,_,rfl,t,(),(),(),λg g1 g2=>?_⟩)));by_cases z:g<h
    ·let⟨c,a,b⟩:=w g g1 z;apply⟨c,a,u _ _ b⟩
    ·rw[show g=h by lia];apply⟨_,(),hh2⟩
   ·ext s ⟨y,E,I,J,Q,rfl,X,hle1,hr1,L,w⟩;show Zr (Zh (ep (o2 rfl (o2 rfl (g4 rfl) (show _=aA (PV.int ((if 4<n then 27 else 5:Nat):Int)) by split<;>rfl)) rfl))) (Wm (Pr (λi s=>∃ts d A k C f,s=stC ns Y2 n first ts d I J A (aA (.int ((k:Nat):Int))) C f/\cm n ts/\ts.length<=7+7*i/\Ext y ts/\0<=d/\EU ts+d<=R) rfl ⟨y,E,Q,_,aB,aB,rfl,X,(),Ext.refl y,(),L⟩ ?_) ?_)
    ·ext a s Mi ⟨ts,d,A,k,C,f,rfl,ok,F,M,G,o⟩;show WH (hX (m:=a+1) (λj s=>∃ts d A k f,s=stC ns Y2 n first ts d I J A (aA (.int ((k:Nat):Int))) (aA (.int (a:Int))) f/\cm n ts/\ts.length<=7+7*a+(j-(a+1))/\Ext y ts/\0<=d/\EU ts+d<=R) rfl rfl ⟨ts,d,A,k,f,rfl,ok,(),M,G,o⟩ ?_) λs ⟨ts,d,A,k,f,e,ok,F,h⟩=>⟨ts,d,A,k,_,f,e,ok,(),h⟩;ext b s j1 S ⟨ts,d,A,k,f,rfl,ok,F,M,G,o⟩;let⟨v,v0,v9,ev⟩:=Zqn (Cz ns k);let⟨cc,ec⟩:=Zl3 ts (a:Int) (b:Int);show YS (Zh (ep (o2 rfl (Oy (c2 rfl rfl (Xd D k)) rfl) ev))) (YS (Zh (ep rfl)) (xm (p:=!cc&&(decide (0<v)&&decide (v<=d))) (xa (xb (by simp[FL,ec])) (xb (by by_cases Ey:0<v<;>simp[IV,Ey]))) (λc=>?_) λ_=>n5 rfl ⟨ts,d,_,k+1,_,rfl,ok,(),M,G,o⟩));dsimp[af,decide_eq_true_eq] at c;let⟨x,N,t,B,_,u,Y⟩:=RX ok j1 S () v9 ();apply YS (RY rfl rfl rfl N) (n5 (Zh (ep (uh rfl rfl))) ⟨x,_,_,k+1,_,rfl,t,(),M.trans u,(),()⟩)
    ·ext s ⟨x,Df,A,k,C,f,rfl,t,B,u,_,hsu2⟩
     let all:∀P,Cl x P->∀i,i<n->(P i↔P 0):=by
      ext P O i
      induction i using rz with
      | _ i N8=>
       ext U;by_cases h0:i=0
       ·subst h0;apply Iff.rfl
       ·let⟨c,H,S⟩:=w i () U;apply(O _ _ (u _ _ S)).symm.trans (N8 c H ())
     let⟨rn,eR,T,_,hgR,hsR⟩:=wX t Ay () (first/7);apply Yd (c3 rfl (xj (c2 rfl rfl l) rfl) rfl eR) ⟨rn,rfl,T,hgR λP O i j U hj=>(all P O i U).trans (all P O j hj).symm,()⟩
 let⟨v,e,ts,rfl,h⟩:=W;apply⟨ts,e,h⟩
end Fu
namespace _p
open PySem _l _v _x Jb
def TM(T:List Zy):∀(g:N6)(P:Ez),Iz T P g=M1 P ((g.map (Kh T)).map Ci)
 | [],P=>rfl
 | t::g,P=>TM T g _
def PH{E:List Zy}{k:Nat}(h:k<la E):Kh E k∈E:=by delta Kh;rw[aK,aF h];apply bw h
def Qc(g:N6):g=[]\/∃h x,g=h++[x]:=by
 rcases kW g with h | ⟨h,x,e⟩
 ·apply .inl h
 ·apply .inr ⟨h,x,by rw[e,iu]⟩
abbrev gP(g:N6):PV:=pP (EF g)
def tn{g:N6}{f:XE}{s:ZK}(v:f s=aA (gP g)):CW (AO (Cy E3 (AK CD [f]) (AL (.int 0)))) (Cy YD (Cy JZ f (A6 K4 (AL (.int 1)))) (AL (.int 1))) (AL (.int 0)) s=aA (.int ((Ij g:Nat):Int)):=by
 let t:AO (Cy E3 (AK CD [f]) (AL (.int 0))) s=aA (decide (0<(la g:Int))):=xb (o2 (a:=.int (la g:Int)) (c1 v (by rw[Za5];simp[EF])) rfl rfl);rw[Ya,t];rcases Qc g with rfl | ⟨h,x,rfl⟩
 ·rfl
 ·rw[Wq,decide_eq_true (show 0<((h++[x]).length:Int) by simp)];show o2 (a:=.int (x:Int)) (o2 v rfl ?_) rfl rfl;change AZ (iL (EF (h++[x]))) (-1)=_;delta AZ
  have:Kn (iL (EF (h++[x]))).length (-1)=aA h.length:=by
   delta Kn;simp[EF]
   lia
  rw[this];simp[EF]
def Zea{W:N7}(ok:Zu W){a:K_}(C:∀g∈a,∀t∈g,t<la (CA W))(E:(Kx (CA W) a).length<=1000)(A:∀g∈a,g.length<=100) :
  Jp [wP W,.lst ((Mw W).map pP),.lst (a.map gP)]=aA (.lst ((Kx (CA W) a).map gP)):=by
 let H:la (CA W)<=441:=by rw[TJ];apply(W8 ok).2
 let' st:=λz p q r=>[aA (wP W),aA (.lst ((Mw W).map pP)),aA (.lst (a.map gP)),z,p,q,r];let' acc:Nat->Option PV:=λi=>aA (.lst ((Kx (CA W) (a.take i)).map gP))
 let⟨G,f1,p,q,r,rfl⟩:=U8 (T:=.one 4) (fb:=(GP (Kg 5 (AK Lx [Cw 0,Cw 1,Cw 4]))
  (GP (Kg 6 (AN (CW (AO (Cy E3 (AK CD [Cw 4]) (AL (.int 0)))) (Cy YD (Cy JZ (Cw 4) (A6 K4 (AL (.int 1)))) (AL (.int 1))) (AL (.int 0)))))
  (Bn 3 (AS 1 [4,5,1] (C3 [Cw 6,AK CD [Cw 1]]) (.one 0) (AO (AK Jy [Cw 2,Cy JZ (Cw 3) (Cw 0)])) (AN (Cy E1 (Cw 1) (EM [Cw 0])))))))) (λi s=>∃p q r,s=st (acc i) p q r) ⟨aB,aB,aB,rfl⟩ (by
  ext i l s d ⟨p,q,r,rfl⟩
  obtain⟨g,f,rfl⟩:∃g,a[i]?=aA g/\l=gP g:=by
   rw[ag] at d
   cases e:a[i]? with
   | none=>rw[e] at d;cases d
   | some g=>rw[e] at d;cases d;apply⟨g,rfl,rfl⟩
  let k:=aw f;let o:=C g k
  let F:Ij g<=la (CA W):=by
   rcases Qc g with rfl | ⟨h,x,rfl⟩
   ·apply dM _
   ·rw[Wq];let:=o x ⋯;lia
  let L4:Kx (CA W) (a.take (i+1))=Kx (CA W) (a.take i)++(Ft (CA W) g).map λt=>g++[t]:=by delta Kx;rw[jC,f];simp
  let u:(Kx (CA W) (a.take (i+1))).length<=(Kx (CA W) a).length:=by
   have:Kx (CA W) a=Kx (CA W) (a.take (i+1))++Kx (CA W) (a.drop (i+1)):=by delta Kx;rw[<-List.flatMap_append,gX]
   rw[this,ah];lia
  rw[L4,ah] at u;show⟨_,_,rfl,sq (Zh (c3 rfl rfl rfl (O2 ok o))) (sq (Zh (ep (tn rfl))) (Su (n:=((Ft (CA W) g).map λt=>g++[t]).map gP) ?_ rfl (by dsimp[aJ] at u ⊢;lia))),aA (gP g),aA (.lst (iL (A3 (la W) (Mg W g)))),aA (.int ((Ij g:Nat):Int)),?_⟩
  ·rw[WD (mT (Ij g) (la (CA W)-Ij g)) (λt=>PV.int (t:Int)) (λt=>gP (g++[t])) (λt=>!decide (Mg W g (Kh (CA W) t).1=Mg W g (Kh (CA W) t).2)) ?_ (by simp;lia) λt D=>?_]
   ·delta Ft;rw[bS];let e:Iz (CA W) id g=Mg W g:=TM _ _ _;rw[e];rfl
   ·rw[Qv (j:=(la (CA W):Int)) rfl (c1 rfl (by rw[Za6,aJ,TJ])) ⟨(),()⟩ ⟨(),()⟩];rw[List.range'_eq_map_range,bS,show((la (CA W):Int)-((Ij g:Nat):Int)).toNat=la (CA W)-Ij g by lia];rfl
   ·let m:t<la (CA W):=by rw[mV] at D;lia
    let⟨c,y⟩:=zA m;let B:=dO _ (PH m);let lt:(Kh (CA W) t).1<la W/\(Kh (CA W) t).2<la W:=⟨(),B.2.1⟩;let w:∀x,x<la W->AZ (iL (A3 (la W) (Mg W g))) ((x:Nat):Int)=aA (.int ((Mg W g x:Nat):Int)):=λx v=>by rw[YX (by rw[bt];apply v),Wd v]
    show⟨[aA (.int (t:Int)),aA (gP g),aA (.lst (iL (A3 (la W) (Mg W g)))),aA (.lst ((Mw W).map pP))],rfl,xb (c2 rfl (o2 rfl rfl (Wy (by rw[ag,y];rfl))) ?_),λ_=>PJ (o2 (b:=pP [(t:Int)]) rfl rfl ?_)⟩
    ·change CB 2 F9 _=_;show XQ (ret (ep (o2 (o2 rfl (o2 rfl rfl rfl) (w _ lt.1)) (o2 rfl (o2 rfl rfl rfl) (w _ lt.2)) ?_)));simp
     lia
    ·rw[Vr (by let:=A g k;simp[EF];lia)];simp[EF]
  ·change _=st (aA (.lst ((Kx (CA W) (a.take (i+1))).map gP))) _ _ _;rw[L4,bR];rfl)
 show XQ (sq rfl (sq f1 (ret ?_)));change acc (a.map gP).length=_;simp[acc]
def bn8:∀k,k<=8->∀s,s<=6->bn k s<=300:=by decide +kernel
def vW{W:N7}(ok:Zu W)(k:E7 W)(c:la (CA W)<=8)(n:4<la W->la (CA W)<=la W+1):IS [wP W,.int 300]=aA (.lst ((Ks (CA W) (la W-1)).map gP)):=by
 let o:=ok.j_;let⟨d,j,p⟩:=Zd9 ok k c n;let' st:=λh a=>[aA (wP W),aA (.int 300),aA (.lst ((Mw W).map pP)),h,a]
 let⟨q,f1,a,rfl⟩:=U8 (T:=.one 4) (fb:=Kg 3 (AK Jp [Cw 0,Cw 2,Cw 3])) (ls:=Dm 1 (la W-1)) (λi s=>∃a,s=st (aA (.lst ((Ks (CA W) i).map gP))) a) ⟨aB,rfl⟩ (by
  ext i l s f ⟨a,rfl⟩;let⟨r,rfl⟩:=YJ f;let e:=WR (CA W) i;show⟨_,_,rfl,Zh (c3 rfl rfl rfl (Zea ok (λg b t m=>(e g b).1.lt t m) ?_ λg b=>by rw[(e g b).2];lia)),_,rfl⟩;change(Ks (CA W) (i+1)).length<=_;rw[zy];let:=zT (CA W) id (i+1);let:=bn8 _ c (i+1) ()
  lia)
 rw[T4] at f1;show XQ (sq (kV (xb (o2 (c1 rfl j) rfl (show aA (PV.Ap (decide ((300:Int)<d)))=_ by rw[decide_eq_false ()])))) (sq (Zh (c1 rfl (W8 ok).1)) (sq rfl (sq (s1:=st (aA (.lst ((Ks (CA W) (la W-1)).map gP))) a) ?_ (ret rfl)))));rw[Zbf,Qv rfl (c1 rfl (by rw[Za5,aJ])) ⟨(),()⟩ ⟨(),()⟩,show((la W:Int)-1).toNat=la W-1 by lia];apply f1
def Zow{W:N7}:∀{g:N6},Gv (CA W) g->l3 (la W) (Iz (CA W) id g) ((g.map (Kh (CA W))).map Ci):=by
 let c:∀(k:Nat)(g:N6),g.length=k->Gv (CA W) g->l3 (la W) (Iz (CA W) id g) ((g.map (Kh (CA W))).map Ci):=by
  ext k
  induction k with
  | zero=>
   ext g h _;rw[bV.mp h];apply l3.start _
  | succ k N8=>
   ext g h a;rcases Qc g with rfl | ⟨l,t,rfl⟩
   ·simp at h
   let f:l.length=k:=by simpa using h
   let m:Gv (CA W) l:=⟨λx b=>a.lt x (au _ b),(dw.mp a.uO).1,λi x b=>by
    let j:=(aQ.mp b).1;let:=a.vZ i x (by rw[bB j];apply b);rw[eQ ()] at this;apply this⟩
   let d:=a.vZ l.length t ⋯;rw[ju rfl] at d;let e:=a.lt t ⋯;let lt:=X5 _ (PH e);let:=(N8 l f m).step lt.2 lt.1 (λz=>d z.symm);rw[QQ,bR,bR];apply this
 apply λ{g} a=>c (la g) g rfl a
def Tq{W:N7}(ok:Zu W){g:N6}(c:Gv (CA W) g)(i:la g+1=la W){q:Ez}(h:∀t∈g,q (Kh (CA W) t).1=q (Kh (CA W) t).2):∀x,x<la W->q x=q 0:=
 hg (Zow c) ok.pos (by rw[aJ,aJ];lia) λe a=>by let⟨f,d,rfl⟩:=aa.mp a;let⟨t,b,rfl⟩:=aa.mp d;apply(h t b).symm
def VZ{W:N7}(ok:Zu W){g:N6}(lt:∀t∈g,t<la (CA W))(c:g.Pairwise (· < ·))(r:la g+1=la W)(p:∀q:Nat->Nat,(∀t∈g,q (Kh (CA W) t).1=q (Kh (CA W) t).2)->∀x,x<la W->q x=q 0):Gv (CA W) g:=by
 show⟨lt,c,λi t d=>?_⟩;let n:=(aQ.mp d).1;let a:g=g.take i++t::g.drop (i+1):=by let e:=(aQ.mp d).2;rw[<-e,<-gZ n,gX]
 let k:∀e∈(g.map (Kh (CA W))).map Ci,e.1<la W/\e.2<la W:=λe h=>by let⟨f,j,rfl⟩:=aa.mp h;let⟨u,b,rfl⟩:=aa.mp j;let m:=lt u b;let l:=PH m;let:=X5 _ l;apply⟨this.2,this.1⟩
 let o:((g.map (Kh (CA W))).map Ci).map Ci=g.map (Kh (CA W)):=by
  rw[bS]
  conv=>rhs;rw[<-jP (g.map (Kh (CA W)))]
  apply aq λ_ _=>rfl
 let:=Zhw (A:=((g.take i).map (Kh (CA W))).map Ci) (B:=((g.drop (i+1)).map (Kh (CA W))).map Ci) (e:=Ci (Kh (CA W) t)) ok.pos k (by rw[aJ,aJ];lia) (by
  rw[o]
  apply p _ λu b=>TH _ (gK b)) (by
  conv=>lhs;rw[a]
  dsimp[bR,ak])
 rw[TM];apply λz=>this z.symm
def iF{T:List Zy}:∀{k:Nat}{g:N6},g.length=k->Gv T g->g∈Ks T k
 | 0,g,h,_=>by rw[bV.mp h];simp[Ks]
 | k+1,g,h,gv=>by
  rcases Qc g with rfl | ⟨l,t,rfl⟩
  ·simp at h
  let j:l.length=k:=by simpa using h
  let f:Gv T l:=⟨λx a=>gv.lt x (au _ a),(dw.mp gv.uO).1,λi x a=>by
   let c:=(aQ.mp a).1;let:=gv.vZ i x (by rw[bB c];apply a);rw[eQ ()] at this;apply this⟩
  let b:=gv.vZ l.length t ⋯;rw[ju rfl] at b;let m:=gv.lt t ⋯;change l++[t]∈Kx T (Ks T k);show gR.mpr ⟨l,iF j f,aa.mpr ⟨t,?_,rfl⟩⟩;delta Ft
  let d:Ij l<=t:=by
   rcases kW l with e | ⟨r,u,e⟩
   ·rw[e];apply dM _
   ·rw[e,iu,Wq];let:=(dw.mp gv.uO).2.2 u (by rw[e,iu];simp) t ⋯
    lia
  rw[dG,mV];apply⟨⟨d,()⟩,by dsimp[jE,decide_eq_false_iff_not];apply b⟩
section
variable {E:List Zy} {n b m:Nat} {s:WS} {φ:aan} {g:N6}
def QX:∀{m:Nat}{s:WS}{x:I_},x∈(MR E φ m s).B->x∈s.B\/CO E s.L x.2.1+1<=x.2.2
 | 0,s,x,h=>.inl h
 | m+1,s,x,h=>by
  delta MR at h;split at h
  ·rename_i k a;rcases QX (s:=J3 E φ s k) h with z | z
   ·delta J3 at z;split at z
    ·rcases aj.mp z with y | y
     ·apply .inl y
     ·rw[aO.mp y];apply .inr (by rw[vz (S3 a).2.1];apply aU _)
    ·apply .inl z
   ·rw[QU] at z;show .inr (cG (Nat.succ_le_succ ?_) z);delta CO;rw[qQ,ah]
    lia
  ·apply .inl h
def Sd{D:Ka}(f:∀e∈E,e.1<n/\e.2<n):∀{m:Nat}{s:WS},ew E n b s->(∀x∈(MR E φ m s).B,(x.2.2:Int)=D x.2.1+1)->(∀h,h<n->h∈(MR E φ m s).F)->MR E (Bd D) m s=MR E φ m s
 | 0,s,_,_,_=>rfl
 | m+1,s,i,hD,all=>by
  let d:=ew.walk (φ:=φ) (m:=m+1) f i;delta MR at hD all d ⊢
  cases z:Ig E s.L s.F with
  | none=>rfl
  | some k=>
   rw[z] at hD all d;simp only at hD all d ⊢;let⟨k1,k2,_⟩:=Xf z;let⟨r,C,o,B,u⟩:=S3 z;let t:=PH (E:=E) k1
   let lt:CI E s.F k<n:=by
    let:=f _ t;rcases u with y | y<;>rw[y] at this
    ·apply this.2
    ·apply this.1
   let same:J3 E (Bd D) s k=J3 E φ s k:=by
    by_cases c:φ k (CI E s.F k) (CO E (s.L++[k]) (CI E s.F k))=aD
    ·let g:(k,CI E s.F k,CO E (s.L++[k]) (CI E s.F k))∈(J3 E φ s k).B:=by delta J3;rw[An c];simp
     let:=hD _ (QV g);simp only at this;delta J3;let l:Bd D k (CI E s.F k) (CO E (s.L++[k]) (CI E s.F k))=aD:=decide_eq_true ();rw[An c,An l]
    ·let p:=all _ lt;rw[d.hB] at p;let j:(J3 E φ s k).B=s.B:=by delta J3;rw[N4 c]
     rcases aY.mp p with y | y
     ·apply absurd (y▸(by rw[i.hB];simp:b∈s.F)) r
     ·let⟨x,g,a⟩:=aa.mp y;let a:x.2.1=CI E s.F k:=a;let A:=hD x g;rcases QX g with w | w
      ·rw[j] at w;let v:CI E s.F k∈b::s.B.map (·.2.1):=aS _ (aa.mpr ⟨x,w,a⟩);apply absurd (i.hB.symm▸v) r
      ·rw[QU,a] at w;rw[a] at A;delta J3;rw[N4 c,N4]
       apply λq=>by
        let:=of_decide_eq_true q
        lia
   rw[same];apply Sd f (i.step f z) hD all
structure tz(E:List Zy)(g:N6)(s:WS):Prop where
 two:∀k∈s.L,k∈g->(Kh E k).1∈s.F/\(Kh E k).2∈s.F
 sub:∀x∈s.B,x.1∈g
def tz.walk:∀{m:Nat}{s:WS},tz E g s->tz E g (MR E (λk _ _=>decide (k∈g)) m s)
 | 0,s,i=>i
 | m+1,s,i=>by
  delta MR;split
  ·rename_i k f;show tz.walk ?_;let⟨n,p,o,b,e⟩:=S3 f;delta J3;by_cases q:k∈g
   ·rw[An (decide_eq_true q)];show⟨λj d a=>?_,λx l=>?_⟩
    ·rcases aj.mp d with y | y
     ·let:=i.two j y a;apply⟨au _ this.1,au _ this.2⟩
     ·rw[aO.mp y];let b:o∈s.F++[CI E s.F k]:=au _ b;let c:CI E s.F k∈s.F++[CI E s.F k]:=⋯
      generalize CI E s.F k=h at e b c;rcases e with y | y<;>rw[y]
      ·apply⟨b,c⟩
      ·apply⟨c,b⟩
    ·rcases aj.mp l with y | y
     ·apply i.sub x y
     ·rw[aO.mp y];apply q
   ·rw[N4 (~~~q)];show⟨λj d a=>?_,i.sub⟩;rcases aj.mp d with y | y
    ·apply i.two j y a
    ·rw[aO.mp y] at a;apply absurd a q
  ·apply i
end
structure qe(W:N7)(s:WS):Prop where
 lk:∀k∈s.L,(Kh (CA W) k).1∈s.F\/(Kh (CA W) k).2∈s.F
 j_:∀i x,s.B[i]?=aA x->(x.2.2:Int)<=Ko W x.2.1 (s.F.take (i+1))
def Zeb{W:N7}(ok:Zu W){L F:N6}(l:L.Nodup)(lt:∀k∈L,k<la (CA W))(d:F.Nodup)(e:∀h∈F,h<la W)(r:∀k∈L,(Kh (CA W) k).1∈F\/(Kh (CA W) k).2∈F){h:Nat}(j:h<la W)(c:h∉F):(CO (CA W) L h:Int)<=Ko W h F:=by
 rw[<-S9 ok j d λo g=>⟨e o g,λz=>c (z▸g)⟩]
 let sub:∀x∈L.filter (Cg (CA W) h),x∈(aL (la (CA W))).filter (Mh (CA W) h F):=λx n=>by
  let⟨b,f⟩:=dG.mp n;show dG.mpr ⟨ao.mpr (lt x b),?_⟩;let p:=lt x b;let m:=PH p;let s:=(dO _ m).1;let a:=r x b;delta Cg at f;dsimp[jq,decide_eq_true_eq] at f;show iM.mpr ?_;delta Cn;by_cases q:h=(Kh (CA W) x).1
  ·rcases a with y | y
   ·apply absurd (q▸y) c
   ·apply⟨_,y,decide_eq_true (by rw[An (),q])⟩
  ·let i:=f.resolve_left q;rcases a with y | y
   ·apply⟨_,y,decide_eq_true (by rw[N4 (),i])⟩
   ·apply absurd (i▸y) c
 let:=Sg (l.filter _) sub;rw[ie];delta CO
 lia
def qe.walk{W:N7}(ok:Zu W){b:Nat}{φ:aan}:∀{m:Nat}{s:WS},ew (CA W) (la W) b s->qe W s->qe W (MR (CA W) φ m s)
 | 0,s,_,i=>i
 | m+1,s,Ke,i=>by
  delta MR;split
  ·rename_i k e;show qe.walk ok (Ke.step X5 e) ?_;let⟨k1,k2,_⟩:=Xf e;let⟨p,t,o,g,d⟩:=S3 e;let n:=PH (E:=(CA W)) k1
   let lt:CI (CA W) s.F k<la W:=by
    let:=X5 _ n;rcases d with y | y<;>rw[y] at this
    ·apply this.2
    ·apply this.1
   let f:∀j∈s.L++[k],(Kh (CA W) j).1∈s.F\/(Kh (CA W) j).2∈s.F:=λj c=>by
    rcases aj.mp c with y | y
    ·apply i.lk j y
    ·rw[aO.mp y];generalize CI (CA W) s.F k=h at d;rcases d with y | y<;>rw[y]
     ·apply .inl g
     ·apply .inr g
   delta J3;split
   ·show⟨λj c=>?_,λj x a=>?_⟩
    ·rcases f j c with y | y
     ·apply .inl (au _ y)
     ·apply .inr (au _ y)
    ·let l:s.F.length=s.B.length+1:=by rw[Ke.hB];simp
     by_cases q:j<s.B.length
     ·rw[bB q] at a;rw[eQ ()];apply i.j_ j x a
     ·let r:=(aQ.mp a).1;rw[ah,ba] at r;have:j=s.B.length:=()
      subst this;rw[bQ (aU _),nj] at a;let a:=bM a;subst a;rw[show s.B.length+1=s.F.length from l.symm,ju rfl];show Zeb ok (Xs Ke.xE k2) (λj c=>?_) Ke.ub Ke.uy f lt p;rcases aj.mp c with y | y
      ·apply Ke.vV j y
      ·rw[aO.mp y];apply k1
   ·apply⟨f,i.j_⟩
  ·apply i
def qe.start(W:N7)(b:Nat):qe W (EW b):=⟨λk a=>by simp[EW] at a,λi x c=>by simp[EW] at c⟩
structure Kc(W:N7)(b:Nat)(D:Gj):Prop where
 len:la D=la W
 base:Cz D b=0
 set:∃F,f' W b D F
def K8(W:N7)(b:Nat)(g:N6):List Int:=E9 (MR (CA W) (λk _ _=>decide (k∈g)) (la (CA W)) (EW b)).B (aW (la W) 0)
def zX{l:Gj}{i:Nat}{v:Int}(h:l[i]?=aA v):Cz l i=v:=by delta Cz;rw[aK,h];rfl
def UE{W:N7}(ok:Zu W){b:Nat}(j:b<la W){g:N6}(v:Gv (CA W) g)(N:la g+1=la W):Kc W b (K8 W b g)/\DB W (K8 W b g) b=g:=by
 delta K8 DB IB;generalize hs:MR (CA W) (λk _ _=>decide (k∈g)) (la (CA W)) (EW b)=s;let d:ew (CA W) (la W) b s:=by rw[<-hs];apply ew.walk X5 (ew.start j)
 let G:tz (CA W) g s:=by rw[<-hs];apply tz.walk ⟨λk u=>by simp[EW] at u,λx a=>by simp[EW] at a⟩
 let Q:qe W s:=by rw[<-hs];apply qe.walk ok (ew.start j) (qe.start W b)
 let M:Ig (CA W) s.L s.F=aB:=by rw[<-hs];apply R9 X5 (ew.start j) ⋯
 let T:b∈s.F:=by rw[d.hB];simp
 let all:=λh f=>by
  let n:=Tq ok v N (q:=λx=>if x∈s.F then 1 else 0) λt I=>by
   by_cases q:t∈s.L
   ·let:=G.two t q I;dsimp[this.1,this.2]
   ·let:=Xl M (v.lt t I) q;dsimp[this]
  let r:=n h f;let E:=n b j;dsimp[T] at E;rw[<-E] at r;by_cases q:h∈s.F
  ·apply q
  ·simp[q] at r
 let w:(s.B.map (·.2.1)).Nodup:=by let:=d.ub;rw[d.hB] at this;apply(av.mp this).2
 let S:=λx a e=>by let:=d.ub;rw[d.hB] at this;apply(av.mp this).1 (aa.mpr ⟨x,a,e⟩)
 let m:=λx a=>d.uy _ (by rw[d.hB];apply aS _ (aa.mpr ⟨x,a,rfl⟩));let' D:=E9 s.B (aW (la W) 0);let H:D.length=la W:=by change(E9 _ _).length=_;rw[Qa,cH]
 let A:∀x∈s.B,(x.2.2:Int)=Cz D x.2.1+1:=λx a=>by let:=zX (rd (c:=aW (la W) 0) w a (by rw[cH];apply m x a));rw[this];lia
 let O:Cz D b=0:=zX (by change(E9 _ _)[b]?=_;rw[Qb S,cP,An j]);let same:MR (CA W) (Bd (Cz D)) (la (CA W)) (EW b)=s:=by rw[<-hs];apply Sd X5 (ew.start j) (by rw[hs];apply A) (by rw[hs];apply all)
 let one:∀h,h<la W->h≠b->∃(i:Nat) (x:I_),s.B[i]?=aA x/\x.2.1=h:=λh f l=>by
  let:=all h f;rw[d.hB] at this;rcases aY.mp this with z | z
  ·apply absurd z l
  ·let⟨x,a,C⟩:=aa.mp z;let⟨i,R,e⟩:=cW a;apply⟨i,x,by rw[aF R,e],C⟩
 show⟨⟨H,O,?_⟩,?_⟩
 ·let⟨F,_,B,L4⟩:=R1 ok H j
  let sub:∀k,k<=s.B.length->∀h∈s.F.take (k+1),h∈F:=by
   ext k
   induction k with
   | zero=>
    ext _ h f;rw[d.hB] at f;rw[show h=b by simpa using f];apply aw B.hd
   | succ k p=>
    ext u h f;let p:=p ();rw[jR] at f;rcases aj.mp f with z | z
    ·apply p h z
    ·obtain⟨x,a⟩:∃x,s.B[k]?=aA x:=⟨_,aF ()⟩;let J:h=x.2.1:=by rw[d.hB,kD,ag,a] at z;simpa using z
     let o:h<la W:=by rw[J];apply m x (aw a)
     by_cases q:h∈F
     ·apply q
     ·let Y:=UC L4 o q;let Z:=V6 ok o (d.ub.sublist (fm _ _)) p B.lt;let L:=Q.j_ k x a;let y:=A x (aw a);rw[<-J] at L y
      lia
  show⟨F,λh f l=>?_,B,L4,λh f=>?_⟩
  ·let⟨i,x,a,C⟩:=one h f l;let y:=A x (aw a);rw[C] at y;let:=QX (by rw[hs];apply aw a);rcases this with z | z
   ·simp[EW] at z
   ·change 0<=Cz D h
    lia
  ·let X:s.F.length=s.B.length+1:=by rw[d.hB];simp
   let:=sub s.B.length (aU _) h;rw[cN ()] at this;apply this (all h f)
 ·change As ((MR (CA W) (Bd (Cz D)) (la (CA W)) (EW b)).B.map (·.1))=g;rw[same];let U:=Xz d all
  let P:=Td d.xF (λk u=>by
   let⟨x,a,rfl⟩:=aa.mp u;apply G.sub x a) (by rw[aJ];lia)
  delta As;let r:EF g=sortI (EF (s.B.map λx=>x.1)):=iz (P.symm.map _) (dC.mpr (v.uO.imp λh=>()));rw[<-r];delta EF;rw[bS]
  conv=>rhs;rw[<-jP g]
  apply aq λx _=>dk x
def f'.len{W:N7}{b:Nat}{D:Gj}{F:N6}(s:f' W b D F):la F=la W:=by
 let d:=s.oy.len;let a:=Sg (l:=aL (la W)) (m:=F) gQ λx c=>s.all x (ao.mp c);rw[bZ] at a
 lia
def SJ{W:N7}(ok:Zu W){b:Nat}(l:b<la W){D:Gj}(st:Kc W b D):K8 W b (DB W D b)=D/\Gv (CA W) (DB W D b)/\(DB W D b).length+1=la W:=by
 let⟨F,g⟩:=st.set;let u:=g.len;let a:ew (CA W) (la W) b (IB W D b):=ew.walk X5 (ew.start l);let s:i5 (CA W) (la W) (Cz D) (IB W D b):=i5.walk X5 (i5.start g.free);let all:=Zd3 ok l g.oy u g.free;let f:=TV ((IB W D b).B.map (·.1));let n:=Xz a all;let lt:(DB W D b).length+1=la W:=by change(As _).length+1=_;rw[f.length_eq,aJ];apply n
 show⟨?_,VZ ok (λt r=>?_) ?_ lt λq p x d=>?_,lt⟩
 ·delta K8;rw[wi,Zd4 st.len a s all];have:D[b]?=aA 0:=by let v:=st.len;let k:=st.base;rw[aF ()];delta Cz at k;rw[aK,aF ()] at k;apply congrArg aA k
  apply((gA));ext i;rw[cB];split
  ·rename_i e;subst e;rw[An (by let:=st.len;lia),this]
  ·rfl
 ·let⟨x,d,rfl⟩:=aa.mp (f.mem_iff.mp r);apply a.vV _ (a.Ap x d)
 ·let m:=f.nodup_iff.mpr a.xF;let j:=WG (EF ((IB W D b).B.map (·.1)));rw[<-Zh0] at j;let j:=dC.mp j
  apply(j.and m).imp λh=>by
   lia
 ·let c:=λx d=>a.cn q (λy o=>p y.1 (f.mem_iff.mpr (aa.mpr ⟨y,o,rfl⟩))) x (all x d);apply(c x d).trans (c 0 ok.pos).symm
def Iy(W:N7)(b:Nat):List (List Int):=(Ks (CA W) (la W-1)).map (K8 W b)
def xp{W:N7}(ok:Zu W){b:Nat}(a:b<la W){D:Gj}:D∈Iy W b↔Kc W b D:=by
 delta Iy;rw[aa];constructor
 ·ext⟨g,c,rfl⟩;let⟨d,h⟩:=WR _ _ g c;apply(UE ok a d ()).1
 ·ext st;let⟨f,e,i⟩:=SJ ok a st;apply⟨_,iF () e,f⟩
def Zmh{c:K_}(h:c.Pairwise Gk):c.Nodup:=h.imp λ{a b} q e=>by
 subst e
 induction a with
 | nil=>apply q
 | cons x r N8=>rcases q with q | q;apply cR _ q;apply N8 q.2
def Zh5{W:N7}(ok:Zu W){b:Nat}(f:b<la W):(Iy W b).Nodup:=by let d:=WR (CA W) (la W-1);let i:=Zmh (Pz (CA W) (la W-1));show dC.mpr ?_;let two:(Ks (CA W) (la W-1)).Pairwise λa c=>a∈Ks (CA W) (la W-1)/\c∈Ks (CA W) (la W-1):=List.pairwise_iff_forall_sublist.mpr λ{a c} hs=>⟨hs.subset ⋯,hs.subset ⋯⟩;show(i.and two).imp λ{a c} h e=>h.1 ?_;let⟨g,j⟩:=d a h.2.1;let⟨c1,c2⟩:=d c h.2.2;rw[<-(UE ok f g ()).2,<-(UE ok f c1 ()).2,e]
def Bz(W:N7)(T:Gj):Prop:=∃g,T=EF g/\Gv (CA W) g/\g.length+1=la W
section
variable {W:N7} {T:Gj} {K:N6}
def Zjf(h:∀t∈T,0<=t):T=EF (T.map cX):=by
 delta EF;rw[bS]
 conv=>lhs;rw[<-jP T]
 show aq λt a=>?_;let:=h t a;change t=((t.toNat:Nat):Int)
 lia
def Zox{g:N6}(e:EF K=EF g):K=g:=by let:=congrArg (List.map cX) e;simpa [EF,qo] using this
def Zed:∀{l acc:Gj},acc.Nodup->(l.foldl Ih acc).Nodup
 | [],_,h=>h
 | k::l,acc,h=>Zed (l:=l) (by
  delta Ih;split
  ·apply h
  ·rename_i q;apply Xs h q)
def q3:EF K=sortI (Ew K)↔K.Pairwise (· < ·):=by
 constructor
 ·ext h;let b:=WG (Ew K);let a:=(sortI_perm (Ew K)).nodup_iff.mpr (Zed cI);rw[<-h] at b a
  apply((dC.mp b).and (dC.mp a)).imp λh=>by
   lia
 ·ext h;let e:Ew K=EF K:=dB (dC.mpr (h.imp λz=>()));rw[e];apply iz (kO _) (dC.mpr (h.imp λz=>()))
def Zee(ok:Zu W)(c:∀k∈K,k<la (CA W))(b:la K+1=la W):(EF K=sortI (Ew K)/\FQ W K=1)↔Gv (CA W) K:=by
 constructor
 ·ext⟨hs,h⟩;let one:=Zmc h ok.pos;show VZ ok c (q3.mp hs) b λq l x d=>i0 (λe i=>?_) (λx y _ _ e=>congrArg q e) x 0 d ok.pos (one x d);let⟨f,j,rfl⟩:=aa.mp i;let⟨k,g,rfl⟩:=aa.mp j;let:=X5 _ (PH (c k g));apply⟨(l k g).symm,this.2,this.1⟩
 ·ext a;apply⟨q3.mpr a.uO,Zmd ok.pos (Tq ok a b λt m=>(TH (Ci (Kh (CA W) t)) (gK (gK m))).symm)⟩
def S_(ok:Zu W)(s:la (CA W)<=32)(w:la T<=30):∃v,Fe [wP W,pP T]=aA (.Ap v)/\(v=aD↔Bz W T):=by
 let u:=ok.j_
 let d:Ky (AO (Cy (J1 aD) (AK CD [Cw 1]) (Cy Vc (AK CD [Cw 0]) (AL (.int 1))))) (Kt (AO (AK G8 [AS 1 [2] (KW (Cw 1)) (.one 0) MV (IV oLe CV (AL (.int 0)) (Cw 0) (AK CD [Cw 1]))]))) [aA (wP W),aA (pP T),aA (.lst ((Mw W).map pP))]=aA (!(decide ((la T:Int)=(la W:Int)-1)&&T.all λt=>decide (0<=t)&&decide (t<(la (CA W):Int)))):=by
  show(xo (xb (o2 (a:=.int (la T:Int)) (c1 rfl ?_) (uh (c1 rfl Vq) rfl) (Zba ..))) (xn (xb (c1 (a:=.lst ((T.map λt=>decide (0<=t)&&decide (t<(la (CA W):Int))).map PV.Ap)) ((ZP T PV.int (λt=>.Ap (decide (0<=t)&&decide (t<(la (CA W):Int)))) (yj rfl) () λt f=>⟨_,rfl,rfl,?_⟩).trans ?_) (Za4 _))))).trans ?_
  ·change aA (PV.int ((iL T).length:Int))=_;rw[aJ]
  ·change((aA (PV.Ap (decide ((0:Int)<=t)))).bind Jf).bind (λk=>if k=aD then aA (PV.Ap (decide (t<(((Mw W).map pP).length:Int)))) else aA (.Ap aC))=_;rw[aJ,<-TJ];by_cases q:(0:Int)<=t
   ·rw[decide_eq_true q];rfl
   ·rw[decide_eq_false q];rfl
  ·rw[bS];rfl
  ·rw[lO,Bool.not_and];rfl
 let j:∀{p:Bool},(p=aD↔la T+1=la W/\∀t∈T,0<=t/\t<(la (CA W):Int))->(decide ((la T:Int)=(la W:Int)-1)&&T.all λt=>decide (0<=t)&&decide (t<(la (CA W):Int)))=p:=λh=>by
  rw[ji,h];dsimp[af,decide_eq_true_eq,bN];apply and_congr_left λ_=>()
 by_cases c:la T+1=la W/\∀t∈T,0<=t/\t<(la (CA W):Int)
 ·rw[j ⟨λ_=>c,λ_=>rfl⟩] at d;let⟨l,c2⟩:=c;let n:=Zjf λt f=>(c2 t f).1;generalize T.map cX=K at n;subst n
  let i:∀k∈K,k<la (CA W):=λk b=>by
   let:=(c2 (k:Int) (gK b)).2
   lia
  let m:la K+1=la W:=by simpa [EF] using l
  show⟨decide (EF K=sortI (Ew K))&&decide ((FQ W K:Int)=1),XB (Zr (Zh (c1 rfl (W8 ok).1)) (Zr (kV d) (Yd (ep (ea (o2 (c1 rfl (An (Y3 _))) (uY rfl (Zmb (λk b=>by let:=i k b;lia) ())) (Zbb ..)) (P6 (uY (c3 rfl rfl rfl (O2 ok i)) ?_) rfl))) rfl))),?_⟩
  ·change(J9 (iL (A3 (la W) (Mg W K)))).bind (λns=>if ns.length<=1000 then aA (PV.int ((ns.foldl gC []).length:Int)) else aB)=_;rw[Z5,aZ,An (by rw[bt];lia)];rfl
  ·rw[af,decide_eq_true_eq,decide_eq_true_eq,show(FQ W K:Int)=1↔FQ W K=1 by lia,Zee ok i m];apply⟨λh=>⟨K,rfl,h,m⟩,λ⟨g,e,h,_⟩=>by rw[Zox e];apply h⟩
 ·rw[j (p:=aC) ⟨λz=>(by cases z),λz=>absurd z c⟩] at d;show⟨aC,XB (Zr (Zh (c1 rfl (W8 ok).1)) (ZF d (Yd (ep rfl) rfl))),⟨λz=>(by cases z),?_⟩⟩;ext⟨g,rfl,o,r⟩;show absurd ⟨by simpa [EF] using r,λt f=>?_⟩ c;let⟨k,b,rfl⟩:=aa.mp f;let:=o.lt k b
  lia
def Uo{l:Gj}{k:Int}(c:la l<=1000):ME [pP l,.int k]=aA (.Ap (decide ((la l:Int)=k))):=by
 show XQ (ret (ep ((ea rfl (ea (p2:=aD) (P6 (a:=(la l:Int)) (c1 rfl ?_) rfl) (c1 (a:=.lst ((l.map λ_=>aD).map PV.Ap)) ((ZP l PV.int (λ_=>.Ap aD) (yj rfl) () λi b=>⟨_,rfl,rfl,c1 rfl (Zc5 i)⟩).trans ?_) ?_))).trans ?_)))
 ·change aA (PV.int ((iL l).length:Int))=_;rw[aJ]
 ·rw[bS];rfl
 ·rw[Za4];simp
 ·rw[Bool.and_true,sx]
def FE(W:N7)(T:Gj)(i:Nat):Prop:=0<=Cz T i/\Cz T i<(la (CA W):Int)/\Mg W ((T.map cX).take i) (Kh (CA W) (Cz T i).toNat).1≠Mg W ((T.map cX).take i) (Kh (CA W) (Cz T i).toNat).2
def Zmi(s:la T+1=la W)(y:T.Pairwise (·<=·)):(∀i,i<la T->FE W T i)↔Bz W T:=by
 let l:∀{i}(h:i<la T),(T.map cX)[i]'(by rw[aJ];apply h)=(Cz T i).toNat:=λ{i} h=>by simp[Cz,aF h]
 constructor
 ·ext h;let q:=Zjf λt o=>by let⟨i,c,rfl⟩:=Se o;apply(h i c).1
  let m:(T.map cX).length=la T:=aJ _;show⟨T.map cX,q,⟨λt o=>?_,?_,λi t c=>?_⟩,by rw[m];apply s⟩
  ·let⟨x,w,rfl⟩:=aa.mp o;let⟨i,c,rfl⟩:=Se w;let:=(h i c).1;let:=(h i c).2.1
   lia
  ·let n:(T.map cX).Pairwise (λ(a b:Nat)=>(a:Int)<=(b:Int)):=by show dC.mp ?_;change(EF (T.map cX)).Pairwise (·<=·);rw[<-q];apply y
   show fS.mpr λi j c r u=>?_;let a:=fS.mp n i j c r u;let f:j<la T:=by rw[<-m];apply r
   let k:i<la T:=()
   let b:=(h j f).2.2;rw[l k,l f] at a ⊢;show dQ λne=>b ?_;let e:(Cz T j).toNat=(Cz T i).toNat:=()
   rw[e];show(TH (Ci (Kh (CA W) (Cz T i).toNat)) (gK (gK ?_))).symm;rw[<-l k];apply mH.mpr ⟨i,(),rfl⟩
  ·let d:=(aQ.mp c).1;let e:=(aQ.mp c).2;rw[m] at d;rw[l d] at e;subst e;rw[TM];apply(h i d).2.2
 ·ext⟨g,rfl,p,_⟩ i c
  let e:(EF g).map cX=g:=by
   delta EF;rw[bS]
   conv=>rhs;rw[<-jP g]
   apply aq λx _=>dk x
  let d:i<g.length:=()
  let v:Cz (EF g) i=((g[i]:Nat):Int):=by simp[Cz,EF,d]
  delta FE;rw[e,v];let b:=p.vZ i g[i] (aF d);rw[TM] at b;let:=p.lt g[i] (bw d);apply⟨(),(),b⟩
def Y8{G:lZ}{fb:XS}{v:PV}:∀(ls:List PV)(I:Nat->ZK->Prop)(P:Nat->Prop)(s:ZK),I 0 s->(∀i l s,ls[i]?=aA l->I i s->∃s1,CS G l s=aA s1/\(¬P i->fb s1=aA (.Cj v))/\(P i->Kp fb s1 (I (i+1))))->
  ((∃i,i<la ls/\¬P i)/\Mx G fb ls s=aA (.Cj v))\/((∀i,i<la ls->P i)/\Kp (Mx G fb ls) s (I (la ls)))
 | [],I,P,s,h0,_=>.inr ⟨λi b=>by simp at b,s,rfl,h0⟩
 | l::r,I,P,s,h0,h=>by
  let⟨s1,e,k,c⟩:=h 0 l s rfl h0;by_cases q:P 0
  ·let⟨s2,j,d⟩:=c q;let u:Mx G fb (l::r) s=Mx G fb r s2:=by change(CS G l s).bind _=_;rw[e,aZ,j];rfl
   rcases Y8 r (λi=>I (i+1)) (λi=>P (i+1)) s2 d λi l s f=>h (i+1) l s f with⟨⟨i,b,z⟩,w⟩ | ⟨a,g,w,z⟩
   ·apply .inl ⟨⟨i+1,Nat.succ_lt_succ b,z⟩,u.trans w⟩
   ·show .inr ⟨λi b=>?_,g,u.trans w,z⟩
    cases i with
    | zero=>apply q
    | succ i=>apply a i (Nat.lt_of_succ_lt_succ b)
  ·show .inl ⟨⟨0,Nat.succ_pos _,q⟩,?_⟩;change(CS G l s).bind _=_;rw[e,aZ,k q];rfl
def Sk(L:List Zy):CF (L.map Bc)=aD:=Qu λ_ _=>rfl
abbrev stI(W:N7)(T:Gj)(L:List Zy)(x3 x4:Option PV):ZK:=[aA (wP W),aA (pP T),aA (.lst (L.map Bc)),x3,x4,aB,aB,aB]
def zZ(ok:Zu W):Kp (GZ [] (Ib [AK CD [Cw 0]]) (.one 3) (GZ [] (C3 [Cy YD (Cw 3) (AL (.int 1)),AK CD [Cw 0]]) (.one 4) (Kg 2 (Cy Hd (Cw 2) (Cy Fh (Mv [EM [Cw 3,Cw 4]]) (Cy JZ (Cy JZ (Cw 0) (Cw 3)) (Cw 4))))))) (stI W T [] aB aB) λs=>∃g c,s=stI W T (CA W) g c:=by
 let p:=ok.j_
 let l:∀i,i<la W->(IQ W i).length<=63:=λi d=>by
  let:=Pu (n:=W.length-(i+1)) (f:=λj=>AH W i (i+1+j)) λj o=>oo ok d ();delta IQ
  lia
 show WH (Pr (λi s=>∃g c,s=stI W T ((aL i).flatMap (IQ W)) g c) (c1 rfl Vq) ⟨aB,aB,rfl⟩ ?_) λs ⟨g,c,e⟩=>⟨g,c,by rw[e,tF]⟩;ext i s d ⟨g,c,rfl⟩;let r:=Pu (n:=i) λj o=>l j ();show WH (hX (m:=i+1) (λj s=>∃c,s=stI W T ((aL i).flatMap (IQ W)++(aL (j-(i+1))).flatMap λj=>AH W i (i+1+j)) (aA (.int (i:Int))) c) rfl (c1 rfl Vq) ⟨c,?_⟩ ?_) λs ⟨c,e⟩=>⟨aA (.int (i:Int)),c,by rw[e,WO];rfl⟩
 ·rw[nj,rq,rT,bx];rfl
 ·ext j s q h ⟨c,rfl⟩;let w:=Pu (n:=j-(i+1)) (f:=λj=>AH W i (i+1+j)) λk x=>oo ok d ();let t:=oo ok d h;let b1:=ok.lo i j d h;let u:=ok.N9 i j d h;show n5 (Zh (v:=.lst (((aL i).flatMap (IQ W)++((aL (j-(i+1))).flatMap λj=>AH W i (i+1+j))++AH W i j).map Bc)) (o2 (b:=.lst ((AH W i j).map Bc)) rfl (o2 (a:=.lst [Bc (i,j)]) rfl (Zqe d (by rw[ok.sq i d];lia) rfl rfl rfl) ?_) ((An ⟨?_,Sk _,Sk _⟩).trans ?_))) ⟨aA (.int (j:Int)),?_⟩
  ·delta Fh;dsimp[];rw[An ⟨rfl,(),(),by simp;lia⟩];delta AH;rw[List.flatten_replicate_singleton,qO]
  ·rw[<-bR]
  ·rw[show j+1-(i+1)=(j-(i+1))+1 by lia,WO,show i+1+(j-(i+1))=j by lia,<-fL];rfl
  ·rw[aJ,aJ,ah];lia
abbrev stK(W:N7)(T:Gj)(m:Ez)(x3 x4 x6 aay:Option PV):ZK:=[aA (wP W),aA (pP T),aA (.lst ((CA W).map Bc)),x3,x4,aA (.lst (iL (A3 (la W) m))),x6,aay]
def ZL(ok:Zu W)(R:la T<=30):∃v,DG [wP W,pP T]=aA (.Ap v)/\(v=aD↔Bz W T):=by
 let D:∃w,DG [wP W,pP T]=aA w/\∃v,w = .Ap v/\(v=aD↔Bz W T):=by
  show RW (Zr rfl (Wm (zZ ok) ?_));ext s ⟨C,E,rfl⟩
  let I:Ky (Kt (AO (AK ME [Cw 1,Cy Vc (AK CD [Cw 0]) (AL (.int 1))]))) (AO (Cy (J1 aD) (AK MD [Cw 1]) (AK Hn [Cw 1]))) (stI W T (CA W) C E)=aA (!decide ((la T:Int)=(la W:Int)-1) || !decide (T=sortI T)):=
   xo (xn (xb (c2 rfl (uh (c1 rfl Vq) rfl) (Uo ())))) (xb (o2 (c1 rfl (An (Y3 _))) (c1 rfl (by
    change(J9 (iL T)).bind (λns=>if ns.length<64 then aA (PV.lst (iL (sortI ns))) else aB)=_;rw[Z5,aZ,An ()])) (Zbb ..)))
  by_cases q:(la T:Int)=(la W:Int)-1/\T=sortI T
  ·let P:T.Pairwise (·<=·):=by rw[q.2];apply WG T
   let Aw:=Zmi (W:=W) () P;show Zr (kV (I.trans (by rw[decide_eq_true q.1,decide_eq_true q.2];rfl))) (Zr (Zh (v:=.lst (iL (A3 (la W) λx=>x))) ((ZP (aL (la W)) (λx=>.int (x:Int)) (λx=>.int (x:Int)) (WL (c1 rfl Vq) ()) (by rw[bZ];lia) λx O=>⟨_,rfl,rfl,rfl⟩).trans ?_)) ?_)
   ·delta A3;rw[PG]
   let st:=Y8 (G:=.one 6) (v:=.Ap aC) (fb:=(GP (EI (Ky (AO (Cy CV (Cw 6) (AL (.int 0)))) (AO (Cy vS (Cw 6) (AK CD [Cw 2])))) (AQ (AN (AL (.Ap aC)))) GX)
  (GP (Lh (.many [3,4]) (Cy JZ (Cw 2) (Cw 6)))
  (GP (Kg 7 (AN (Cy JZ (Cw 5) (Cw 4))))
  (GP (EI (AO (Cy (J1 aC) (Cy JZ (Cw 5) (Cw 3)) (Cw 7))) (AQ (AN (AL (.Ap aC)))) GX)
  (Kg 5 (AS 1 [5,3,7] (G6 (Cw 5)) (.one 0) MV (AN (Cy JZ (Mv [Cw 0,Cy JZ (Cw 1) (Cw 2)]) (AK IH [Cy (J1 aC) (Cw 0) (Cw 3)])))))))))) (iL T) (λi s=>∃n d F j,s=stK W T (Mg W ((T.map cX).take i)) n d F j) (FE W T) (stK W T (λx=>x) C E aB aB) ⟨C,E,aB,aB,rfl⟩ ?_
   ·rw[aJ] at st;rcases st with⟨⟨i,p,z⟩,w⟩ | ⟨a,S,w,n,d,F,j,rfl⟩
    ·apply⟨_,TP w,aC,rfl,λe=>(by cases e),λt=>absurd (Aw.mpr t i p) z⟩
    ·apply Zr w (Yd (ep rfl) ⟨aD,rfl,λ_=>Aw.mp a,λ_=>rfl⟩)
   ext i l s c ⟨n,d,F,j,rfl⟩
   let p:i<la T:=by
    let:=(aQ.mp c).1
    rwa [aJ] at this
   rw[O9 p] at c;let c:=bM c;subst c;show⟨stK W T (Mg W ((T.map cX).take i)) n d (aA (.int (Cz T i))) j,rfl,?_⟩;let A:Ky (AO (Cy CV (Cw 6) (AL (.int 0)))) (AO (Cy vS (Cw 6) (AK CD [Cw 2]))) (stK W T (Mg W ((T.map cX).take i)) n d (aA (.int (Cz T i))) j)=aA (decide (Cz T i<0) || decide ((la (CA W):Int)<=Cz T i)):=xo (xb (o2 rfl rfl rfl)) (xb (vge rfl (c1 rfl Zot)));by_cases r:0<=Cz T i/\Cz T i<(la (CA W):Int)
   ·rw[decide_eq_false (),decide_eq_false ()] at A;obtain⟨k,ek⟩:∃k:Nat,Cz T i=(k:Int):=⟨(Cz T i).toNat,()⟩;let J:k<la (CA W):=()
    let tk:(T.map cX).take (i+1)=(T.map cX).take i++[k]:=by
     rw[jC,ag,aF p];have:T[i]=(k:Int):=by rw[<-ek];simp[Cz,aF p]
     rw[this];rfl
    let L:=w5 W ((T.map cX).take i) k;rw[<-tk] at L;let H:FE W T i↔Mg W ((T.map cX).take i) (Kh (CA W) k).1≠Mg W ((T.map cX).take i) (Kh (CA W) k).2:=by delta FE;rw[ek];apply⟨λz=>z.2.2,λz=>⟨(),(),z⟩⟩
    rw[ek] at A ⊢;rw[L];generalize Mg W ((T.map cX).take i)=m at *;let lt:=X5 _ (PH J);let N:=Zhz J;generalize Kh (CA W) k=e at *;let⟨a,b⟩:=e;let t:AO (Cy (J1 aC) (Cy JZ (Cw 5) (Cw 3)) (Cw 7)) (stK W T m (aA (.int (a:Int))) (aA (.int (b:Int))) (aA (.int (k:Int))) (aA (.int (m b:Int))))=aA (decide ((m a:Int)=(m b:Int))):=xb (P6 (o2 rfl rfl (g0 lt.1)) rfl);let u:∀{G:XS}{o:Option Out},G (stK W T m (aA (.int (a:Int))) (aA (.int (b:Int))) (aA (.int (k:Int))) (aA (.int (m b:Int))))=o->GP (EI (Ky (AO (Cy CV (Cw 6) (AL (.int 0)))) (AO (Cy vS (Cw 6) (AK CD [Cw 2])))) (AQ (AN (AL (.Ap aC)))) GX) (GP (Lh (.many [3,4]) (Cy JZ (Cw 2) (Cw 6))) (GP (Kg 7 (AN (Cy JZ (Cw 5) (Cw 4)))) G)) (stK W T m n d (aA (.int (k:Int))) j)=o:=λh=>sq (kV A) (sq (Zou (o2 rfl rfl N) rfl) (sq (Zh (ep (o2 rfl rfl (g0 lt.2)))) h));show⟨λQ=>u (TP (wC (t.trans (by rw[decide_eq_true (by let:=λz=>Q (H.mpr z);have:m a=m b:=dQ this;lia)])) (ret (ep rfl)))),λB=>⟨_,u (sq (kV (t.trans (by rw[decide_eq_false (by have:m a≠m b:=H.mp B;lia)]))) (Zh ((ZP (aL (la W)) (λx=>.int (m x:Int)) (λx=>.int (EK m b a x:Int)) ?_ (by rw[bZ];lia) λx O=>⟨_,rfl,rfl,ep (o2 (a:=.lst [.int (m x:Int),.int (m a:Int)]) (b:=.int (if m x=m b then 1 else 0)) ?_ (c1 (P6 rfl rfl) ?_) ?_)⟩).trans ?_))),_,_,_,_,rfl⟩⟩
    ·change aA (iL (A3 (la W) m))=_;delta A3;rw[PG]
    ·rw[ya,Zt,Zt,o2 rfl rfl (g0 lt.1)];rfl
    ·by_cases z:m x=m b
     ·rw[An z,decide_eq_true ()];rfl
     ·rw[N4 z,decide_eq_false ()];rfl
    ·delta EK;by_cases z:m x=m b
     ·rw[An z,An z];rfl
     ·rw[N4 z,N4 z];rfl
    ·delta A3;rw[PG]
   ·show⟨λ_=>TP (wC (A.trans ?_) (ret (ep rfl))),λf=>absurd ⟨f.1,f.2.1⟩ r⟩;by_cases z:Cz T i<0
    ·rw[decide_eq_true z];rfl
    ·rw[decide_eq_false z,decide_eq_true ()];rfl
  ·show ZF (I.trans ?_) (Yd (ep rfl) ⟨aC,rfl,⟨λe=>(by cases e),?_⟩⟩)
   ·by_cases z:(la T:Int)=(la W:Int)-1
    ·rw[decide_eq_true z,decide_eq_false (λy=>q ⟨z,y⟩)];rfl
    ·rw[decide_eq_false z];rfl
   ·ext⟨g,rfl,M,U⟩;let X:(EF g).length=g.length:=by simp[EF]
    apply absurd ⟨(),iz (kO _) (dC.mpr (M.uO.imp λz=>()))⟩ q
 let⟨w,e,v,rfl,h⟩:=D;apply⟨v,e,h⟩
end
def JP(W:N7)(D:Gj)(L:N6)(h:Nat):List Nat:=if h∉L/\Cz D h<Ko W h L then L++[h] else L
structure uV(W:N7)(b:Nat)(F L:N6):Prop where
 nd:L.Nodup
 sub:∀x∈L,x∈F
 Ck:b∈L
def uV.step{W:N7}(ok:Zu W){D:Gj}{b h:Nat}{F L:N6}(B:fu W D b F)(d:E5 W D F=aB)(i:uV W b F L)(a:h<la W):uV W b F (JP W D L h):=by
 delta JP;split
 ·rename_i q
  let e:h∈F:=by
   by_cases z:h∈F
   ·apply z
   ·let g:=UC d a z;let f:=V6 ok a i.nd i.sub B.lt
    lia
  show⟨Xs i.nd q.1,λx c=>?_,au _ i.Ck⟩;rcases aj.mp c with z | z
  ·apply i.sub x z
  ·rw[aO.mp z];apply e
 ·apply i
def Sv{W:N7}{D:Gj}{L:N6}{h x:Nat}(a:x∈L):x∈JP W D L h:=by
 delta JP;split
 ·apply au _ a
 ·apply a
def Zh6{W:N7}(ok:Zu W){D:Gj}{b h:Nat}{F L G:N6}(B:fu W D b F)(i:uV W b F L)(a:h<la W)(c:G.Nodup)(sub:∀x∈G,x∈L)(lt:Cz D h<Ko W h G):h∈JP W D L h:=by
 delta JP;let e:=V6 ok a c sub λx d=>B.lt x (i.sub x d);by_cases z:h∈L
 ·rw[N4 (λq=>q.1 z)];apply z
 ·rw[An ⟨z,()⟩];simp
def uV.len{W:N7}{D:Gj}{b:Nat}{F L:N6}(B:fu W D b F)(i:uV W b F L):la L<=la W:=Rd i.nd λx a=>B.lt x (i.sub x a)
def Tb{W:N7}(ok:Zu W){D:Gj}(A:la D=la W){b:Nat}{F:N6}(B:fu W D b F)(o:E5 W D F=aB):B1 [wP W,pP D,.int (b:Int)]=aA (.Ap (decide (la F=la W))):=by
 let C:=ok.j_;let k:=aw B.hd;let' st:=λL f c d=>[aA (wP W),aA (pP D),aA (.int (b:Int)),aA (.lst (iL (EF L))),f,c,d];show XB (Zr rfl (Wm (Pr (λi s=>∃L f c d,s=st L f c d/\uV W b F L/\∀x∈F.take (i+1),x∈L) (c1 rfl Vq) ⟨[b],aB,aB,aB,rfl,⟨⋯,λx a=>by rw[aO.mp a];apply k,⋯⟩,λx a=>?_⟩ ?_) ?_))
 ·let:=B.hd
  cases F with
  | nil=>simp at this
  | cons y r=>simp at this;subst this;simpa using a
 ·ext i s n ⟨u,f,c,d,rfl,w,t⟩;show WH (Pr (λj s=>∃L c d,s=st L (aA (.int (i:Int))) c d/\uV W b F L/\(∀x∈F.take (i+1),x∈L)/\∀x,F[i+1]?=aA x->x<j->x∈L) (c1 rfl Vq) ⟨u,c,d,rfl,w,t,λx _ h=>()⟩ ?_) ?_
  ·ext j s m ⟨L,c,d,rfl,e,g,l⟩;let E:=e.len B;show YS (Zh (ep (ob ok m (λx a=>B.lt x (e.sub x a)) () rfl rfl rfl))) (WH (R:=λs=>s=st (JP W D L j) (aA (.int (i:Int))) (aA (.int (j:Int))) (aA (.int (Ko W j L)))) (xm (xa (xb (o2 rfl rfl (S4 j L))) (xb (o2 (o2 rfl rfl (YX ())) rfl rfl))) (λq=>n5 (u0 (ep rfl) rfl ()) ?_) λq=>n5 rfl ?_) ?_)
   ·dsimp[af,jE,decide_eq_false_iff_not,decide_eq_true_eq] at q;delta JP;rw[An q];rfl
   ·delta JP;rw[N4 λz=>by dsimp[decide_eq_false z.1,decide_eq_true z.2] at q;cases q];rfl
   ·ext s rfl;show⟨_,_,_,rfl,e.step ok B o m,λx a=>Sv (g x a),λx a v=>?_⟩;by_cases q:x=j
    ·subst q;let n:=(aQ.mp a).1;let st:=B.st (i+1) () n;rw[a] at st;apply Zh6 ok B e m (B.nd.sublist (fm _ _)) (λy p=>g y p) (W9 st).2.2
    ·apply Sv (l x a ())
  ·ext s ⟨L,c,d,rfl,e,g,l⟩;show⟨L,_,c,d,rfl,e,λx a=>?_⟩;rw[jR] at a;rcases aj.mp a with z | z
   ·apply g x z
   ·let a:F[i+1]?=aA x:=by simpa using z
    apply l x a (B.lt x (aw a))
 ·ext s ⟨L,f,c,d,rfl,e,tk⟩;let H:=B.len;rw[cN ()] at tk;let G:=Sg e.nd e.sub;let p2:=Sg B.nd tk;apply Yd (ep ((P6 (c1 rfl yc) (c1 rfl Vq)).trans (by rw[show L.length=la F by lia,decide_eq_decide.mpr Int.ofNat_inj]))) rfl
def Zef{D:Gj}{b:Nat}(n:b<la D):(if D.take b++D.drop (b+1)=[] then(0:Int) else M4 (D.take b++D.drop (b+1)))<0↔¬G9 D b=[]:=by
 let c:∀x,x∈D.take b++D.drop (b+1)↔∃h,h<la D/\h≠b/\Cz D h=x:=λx=>by
  rw[aj,mH,List.mem_drop_iff_getElem];let g:∀h,(j:h<la D)->Cz D h=D[h]:=λh j=>by delta Cz;rw[aK,aF j];rfl
  constructor
  ·ext(⟨i,m,e⟩ | ⟨i,m,e⟩)
   ·apply⟨i,(),(),by rw[g i (),e]⟩
   ·apply⟨b+1+i,(),(),by rw[g _ (),<-e]⟩
  ·ext⟨h,d,k,e⟩;rw[g h d] at e;by_cases q:h<b
   ·apply .inl ⟨h,(),e⟩
   ·show .inr ⟨h-(b+1),(),?_⟩;rw[<-e];congr 1;lia
 rw[ny];split
 ·rename_i h;show⟨λz=>(),λz=>?_⟩;exfalso;show z λx f a=>?_;let:=(c (Cz D x)).mpr ⟨x,f,a,rfl⟩;rw[h] at this;simp at this
 ·rename_i h;let l:=Qx h;constructor
  ·ext z y;let⟨x,d,k,e⟩:=(c _).mp l.1;let:=y x d k
   lia
  ·ext z;by_cases q:M4 (D.take b++D.drop (b+1))<0
   ·apply q
   ·show absurd (λx f a=>?_) z;let:=l.2 _ ((c (Cz D x)).mpr ⟨x,f,a,rfl⟩)
    lia
def Wu{W:N7}(ok:Zu W){D:Gj}(d:la D=la W){b:Nat}(g:b<la W){F:N6}(B:fu W D b F)(e:E5 W D F=aB):IY [wP W,pP D,.int (b:Int)]=aA (.Ap (decide (G9 D b=[])&&decide (la F=la W))):=by
 let f:=ok.j_
 let a:Jt (pP (D.take b++D.drop (b+1)))=aA (.int (if D.take b++D.drop (b+1)=[] then(0:Int) else M4 (D.take b++D.drop (b+1)))):=by
  change(J9 (iL (D.take b++D.drop (b+1)))).bind _=_;rw[Z5];dsimp[aZ];split<;>rfl
 let c:=Zef (D:=D) (b:=b) ();show XQ (sq (Zh (PJ (o2 (Oq rfl rfl ()) (Ot rfl rfl ()) (Vr (by rw[bK,cQ];lia))))) ?_);by_cases q:G9 D b=[]
 ·rw[decide_eq_true q];apply sq (kV (xb (o2 (uY rfl a) rfl (congrArg (λz=>aA (PV.Ap z)) (decide_eq_false λz=>c.mp z q))))) (ret (c3 rfl rfl rfl (Tb ok d B e)))
 ·rw[decide_eq_false q];apply TP (wC (xb (o2 (uY rfl a) rfl (congrArg (λz=>aA (PV.Ap z)) (decide_eq_true (c.mpr q))))) (ret (ep rfl)))
def Fz(T:Gj)(n:Nat):Prop:=T.length<=n/\∀x∈T,x.natAbs<=31
def AI(f:XE)(s:ZK)(n:Nat):Prop:=∃T,f s=aA (pP T)/\Fz T n
section
variable {f g:XE} {s:ZK} {n k:Nat} {T:Gj} {F G:XS} {Q:PV->Prop} {x:XT} {p:Bool}
def PS(q:x s=aA p)(a:J4 F s Q)(b:J4 G s Q):J4 (GP (EI x F GX) G) s Q:=by
 cases p
 ·apply Zr (kV q) b
 ·apply ZF q a
def UG{d c:XO}{a b:Mo}(h:AI f s n)(j:d s=aA a)(g:c s=aA b):AI (MW Ff f d c) s n:=by
 let⟨T,e,k,hs⟩:=h;show⟨(T.drop (HT.GR (iL T).length 0 a)).take (HT.GR (iL T).length (iL T).length b-HT.GR (iL T).length 0 a),?_,?_,λx i=>hs x (gn (dt i))⟩
 ·rw[wR,e,j,g];change aA (PV.tup (E4 (iL T) a b))=_;delta E4;rw[<-me,<-ke]
 ·rw[bK,cQ];lia
def TN(h:AI f s n)(d:AI g s k)(l:n+k<=1000):AI (Cy E1 f g) s (n+k):=by
 let⟨A,e,a,b⟩:=h;let⟨B,j,m,c⟩:=d;show⟨A++B,o2 e j (Vr ()),by rw[ah];lia,λx i=>?_⟩;rcases aj.mp i with z | z
 ·apply b x z
 ·apply c x z
def Ze{y:Int}(h:f s=aA (.int y))(b:y.natAbs<=31):AI (EM [f]) s 1:=⟨[y],by rw[Rt,Zt,h];rfl,aU _,λx a=>by rw[aO.mp a];apply b⟩
def QZ(h:AI f s n)(c:n<=30):J4 (AQ (AN f)) s λv=>∃T,v=pP T/\Fz T 30:=by let⟨T,e,a,b⟩:=h;apply Yd (PJ e) ⟨T,rfl,(),b⟩
def o'{w a c:Int}(d:Fz T 7)(m:0<=c/\c<10):∃b,BN [pP T,.int w,.int a,.int c]=aA (pP b)/\Fz b 30:=by
 let' s:=MQ 4 [pP T,.int w,.int a,.int c];let t:AI (Cw 0) s 7:=⟨T,rfl,d⟩;let lo:AI (MW Ff (Cw 0) CP (AY (Cw 2))) s 7:=UG t rfl rfl;let k:AI (MW Ff (Cw 0) (AY (Cy YD (Cw 2) (AL (.int 1)))) CP) s 7:=UG t rfl rfl;let at2:AI (MW Ff (Cw 0) (AY (Cw 2)) CP) s 7:=UG t rfl rfl;let j:AI (MW Ff (Cw 0) (AY (Cw 2)) (AY (Cy YD (Cw 2) (AL (.int 1))))) s 7:=UG t rfl rfl
 let g:∃v,BN [pP T,.int w,.int a,.int c]=aA v/\∃T,v=pP T/\Fz T 30:=by
  show RW (PS (xb (P6 rfl rfl)) (QZ (TN lo k ∅) ∅) (PS (xb (P6 rfl rfl)) (QZ (TN (TN lo j ∅) at2 ∅) ∅) (PS (xb (P6 rfl rfl)) (QZ ⟨T.reverse,uY rfl ?_,by rw[pY];apply d.1,λx i=>d.2 x (rR.mp i)⟩ ∅) (PS (xb (P6 rfl rfl)) (QZ (TN (TN lo (Ze rfl ()) ∅) k ∅) ∅) (PS (xb (P6 rfl rfl)) (QZ (TN (TN lo (Ze (y:=c-9) rfl ()) ∅) at2 ∅) ∅) ?_)))))
  ·change(if CF (iL T)=aD then aA (PV.tup (iL T).reverse) else aB)=_;rw[An (Y3 _),<-List.map_reverse]
  ·let⟨A,e,l,b1⟩:=TN t (Ze (f:=Cw 3) rfl ()) ∅;show QZ ⟨sortI A,c1 (a:=.lst (iL (sortI A))) (c1 e ?_) rfl,by rw[(sortI_perm A).length_eq];apply l,λx i=>b1 x ((sortI_perm A).mem_iff.mp i)⟩ ∅;change(J9 (iL A)).bind (λns=>if ns.length<64 then aA (PV.lst (iL (sortI ns))) else aB)=_;rw[Z5,aZ,An ()]
 let⟨v,e,b,rfl,h⟩:=g;apply⟨b,e,h⟩
end
section
variable {W:N7} {b:Nat} {A B C D E R S:Gj} {F:N6} {v:Int}
def ih{g:Nat}(v:Int)(h:g≠b):Cz (D.set b v) g=Cz D g:=by delta Cz;rw[aK,aK,cu (bU h)]
def hI(v:Int)(h:b<la D):Cz (D.set b v) b=v:=zX (eB h)
def zQ(ok:Zu W)(o:b<la W)(j:Kc W b D){h:Nat}(d:h<la W):0<=Cz D h/\Cz D h<=63:=by
 let⟨F,c⟩:=j.set;by_cases e:h=b
 ·subst e;rw[j.base];apply⟨∅,∅⟩
 ·show⟨c.free h d e,?_⟩;let⟨k,m,ek⟩:=cW (c.all h d);let f:F[k]?=aA h:=by rw[aF m,ek]
  let k0:k≠0:=λz=>by subst z;rw[c.oy.hd] at f;apply e (bM f).symm
  let st:=c.oy.st k () m;rw[f] at st;let lt:=(W9 st).2.2;let s:=c.oy.len;let n:=ok.j_
  have:∀l:List Nat,(∀x∈l,x<la W)->Ko W h l<=9*(la l:Int):=by
   ext l
   induction l with
   | nil=>ext _;apply cz 0
   | cons a r N8=>
    ext i;let p:=N8 λx g=>i x (by simp[g]);let q:=ok.N9 h a d (i a ⋯);have:Ko W h (a::r)=GQ W h a+Ko W h r:=by delta Ko;rw[ak,cO]
    rw[bH]
    lia
  let:=this (F.take k) λx g=>c.oy.lt x (dt g);rw[bK] at this
  lia
def vh(ok:Zu W)(n:E7 W)(f:b<la W):Kc W b (aW (la W) 0):=by
 let j:(aW (la W) (0:Int)).length=la W:=cH;let g:∀h,h<la W->Cz (aW (la W) 0) h=0:=λh c=>YZ 0 c;let⟨F,_,B,L4⟩:=R1 ok j f;show⟨j,g b f,F,λh c _=>by rw[g h c];apply cz 0,B,L4,λh c=>?_⟩;show(n (·∈F) (λx y e a i=>?_) h b c f).mpr (aw B.hd)
 let d:∀x y,x<la W->y<la W->0<GQ W x y->x∈F->y∈F:=λx y e a i m=>by
  by_cases q:y∈F
  ·apply q
  ·let l:=UC L4 a q;rw[g y a] at l;let o:=V6 ok a (G:=[x]) ⋯ (λz k=>by rw[aO.mp k];apply m) B.lt;have:Ko W y [x]=GQ W y x:=by delta Ko;simp
   rw[this,ok.sym y x a e] at o
   lia
 apply⟨d x y e a i,d y x a e (by rw[ok.sym y x a e];apply i)⟩
def Zqp:∀k,k<=8->∀s,s<=6->(3<s->k<=s+2)->bn k s<64:=by decide +kernel
def od(ok:Zu W)(t:E7 W)(f:b<la W)(h:la (CA W)<=8)(i:4<la W->la (CA W)<=la W+1):FI [wP W,.int (b:Int),.int 300]=aA (.lst ((Di (Iy W b)).map pP)):=by
 let v:=ok.j_;let u:(Ks (CA W) (la W-1)).length<64:=by rw[zy];apply eu (zT _ _ _) (Zqp _ h _ () λq=>by let:=i ();lia)
 let l:=vW ok t h i;let k:=Zh5 ok f;let m:=λD=>xp (D:=D) ok f
 let c:∀D∈Iy W b,G1 (la W) D=aD:=λD d=>by
  let st:=(m D).mp d;delta G1;dsimp[af,decide_eq_true_eq,bN];show⟨st.len,λx o=>?_⟩;let⟨j,n,rfl⟩:=Se o;let:=zQ ok f st (by rw[<-st.len];apply n)
  lia
 show XQ (ret (c1 (a:=.lst ((Iy W b).map pP)) ?_ ?_))
 ·delta Iy;rw[bS];show ZP (Ks (CA W) (la W-1)) gP (λg=>pP (K8 W b g)) ?_ () λg w=>⟨_,rfl,rfl,c3 rfl rfl rfl (PF ok f)⟩;change(AK IS [Cw 0,Cw 2] _).bind Bi=_;rw[c2 rfl rfl l];rfl
 ·change(Nx ((Iy W b).map λp=>PV.tup (iL p))).bind _=_;rw[ZY,aZ]
  cases e:Iy W b with
  | nil=>
   simp[Di]
  | cons D r=>
   let d:=c D (by rw[e];simp);let s:la D=la W:=by delta G1 at d;dsimp[af,decide_eq_true_eq] at d;apply d.1
   rw[An];rw[<-e];show⟨by change((Ks _ _).map _).length<64;rw[aJ];apply u,k,?_,bN.mpr ?_⟩
   ·rw[e];change 1<=la D;lia
   ·rw[show((Iy W b).headD []).length=la W by rw[e];apply s];apply c
end
def Zw{f g h:Zy->Nat}:∀{l:List Zy},(∀p∈l,f p<=g p+h p)->(l.map f).sum<=(l.map g).sum+(l.map h).sum
 | [],_=>⋯
 | p::r,H=>by
  let b:=H p ⋯;let:=Zw (l:=r) λq a=>H q (by simp[a]);dsimp[ak,cO]
  lia
def Fj(n:Nat)(M:N7):Nat:=((Du n).map λp=>(GQ M p.1 p.2).toNat).sum
def Zo0(W:N7):la (CA W)=Fj (la W) W:=by delta CA L6 Fj;rw[iG];congr 1;show aq λp _=>?_;rw[cH]
def Zh7{n:Nat}(i:n<=7){M:N7}{e:X7}(ok:fD n M)(h:e.1<e.2.1/\e.2.1<n/\1<=e.2.2/\e.2.2<=9):Fj n (Iw M e)<=Fj n M+e.2.2.toNat:=by
 let a:=Zw (f:=λp:Zy=>(GQ (Iw M e) p.1 p.2).toNat) (g:=λp=>(GQ M p.1 p.2).toNat) (h:=λp=>if p=(e.1,e.2.1) then e.2.2.toNat else 0) (l:=Du n) λp j=>by
  let:=lp.mp (j);rw[P8 ok h];by_cases q:e.1=p.1/\e.2.1=p.2
  ·rw[An (Prod.ext q.1.symm q.2.symm)];lia
  ·rw[N4 q];lia
 let b:=QR (f:=λp:Zy=>if p=(e.1,e.2.1) then e.2.2.toNat else 0) (Zdu n i) λq _ d=>N4 d
 let c:(if(e.1,e.2.1)∈Du n then(if(e.1,e.2.1)=(e.1,e.2.1) then e.2.2.toNat else 0) else 0)<=e.2.2.toNat:=by
  split
  ·rw[An rfl];apply aU _
  ·lia
 rw[b] at a;apply cG a (pT c _)
def Zi{n:Nat}(d:n<=7):∀(l:List X7)(M:N7),(∀e∈l,e.1<e.2.1/\e.2.1<n/\1<=e.2.2/\e.2.2<=9)->fD n M->(Fj n (l.foldl Iw M):Int)<=(Fj n M:Int)+EU l
 | [],M,_,_=>by change(Fj n M:Int)<=(Fj n M:Int)+(0:Int);lia
 | e::r,M,Kb,hM=>by
  let c:=Kb e ⋯;let a:=Zh7 d hM c;let b:=Zi d r _ (λf h'=>Kb f (by simp[h'])) (hM.step c);rw[QK];change(Fj n (r.foldl Iw (Iw M e)):Int)<=_
  lia
abbrev GI(n:Nat):List (List Int):=aW n (aW n 0)
def vB{n a b:Nat}(d:a<n)(c:b<n):GQ (GI n) a b=0:=by delta GQ Kl Cz;simp[d,c]
def Zeg{n:Nat}{ts:List X7}(ok:cm n ts)(c:n<=7):(Fj n (G3 n ts):Int)<=EU ts:=by
 let h:=Zi c ts (GI n) ok.ok (fD.zero n)
 let z:Fj n (GI n)=0:=by
  have:∀l:List Zy,(∀p∈l,p.1<n/\p.2<n)->(l.map λp=>(GQ (GI n) p.1 p.2).toNat).sum=0:=by
   ext l
   induction l with
   | nil=>ext _;rfl
   | cons p r N8=>
    ext H;let a:=H p ⋯;rw[ak,cO,N8 λq b=>H q (by simp[b]),vB a.1 a.2];rfl
  apply this _ λp a=>by
   let:=lp.mp (a)
   lia
 let e:Fj n (G3 n ts)=Fj n (ts.foldl Iw (GI n)):=rfl
 lia
def r4(c:Int):∃n:Nat,1<=n/\n<=7/\Jz [.int c]=aA (.int (n:Int)):=by
 let b:Kk c 4:=PE () ();let a:Kk c 16:=PE () ();by_cases q:c/4%4=3
 ·show⟨(5+c/16%3).toNat,(),(),?_⟩;rw[show(((5+c/16%3).toNat:Nat):Int)=5+c/16%3 by lia];change CB 1 Ly _=_;delta Ly;simp[CB,MQ,b,a,q]
 ·show⟨(1+c%4).toNat,(),(),?_⟩;rw[show(((1+c%4).toNat:Nat):Int)=1+c%4 by lia];change CB 1 Ly _=_;delta Ly;simp[CB,MQ,b,q]
section
variable {W:N7} {b:Nat} {D T:Gj}
def WI(ok:Zu W)(d:la D=la W)(c:b<la W):∃v,Lk [wP W,pP D,.int (b:Int)]=aA (.Ap v)/\IY [wP W,pP D,.int (b:Int)]=aA (.Ap v)/\(v=aD↔∃F,f' W b D F):=by
 let k:=ok.j_;let⟨F,i,B,L4⟩:=R1 ok d c;let f:=w3 () i;rw[decide_eq_decide.mpr (show((G9 D b).length:Int)=0↔G9 D b=[] by rw[<-bV];lia),decide_eq_decide.mpr (show(F.length:Int)=(la W:Int)↔F.length=la W by lia)] at f;show⟨_,f,Wu ok d c B L4,?_⟩;rw[af,decide_eq_true_eq,decide_eq_true_eq,ny];constructor
 ·ext⟨g,l⟩;show⟨F,λh a ne=>g h () ne,B,L4,λh a=>?_⟩;show dQ λz=>?_
  let:=Rd (Xs B.nd z) λx j=>by
   rcases aj.mp j with y | y
   ·apply B.lt x y
   ·rw[aO.mp y];apply a
  rw[ah,ba] at this
  lia
 ·ext⟨G,st⟩;let e:=B.uniq st.oy L4 st.stop;subst e;apply⟨λh a ne=>st.free h () ne,st.len⟩
def ZT(b:la D<=100)(h:∀x∈D,x.natAbs<2^100):K7 (pP D)=aD:=by
 change(match J9 (iL D) with | some is=>decide (is.length<=100)&&is.all λi=>decide (i.natAbs.log2<1920) | none=>aC)=aD;rw[Z5];dsimp[af,decide_eq_true_eq,bN];show⟨b,λx a=>?_⟩;by_cases z:x.natAbs=0
 ·rw[z];decide
 ·apply ay ((Nat.log2_lt z).mpr (h x a)) ∅
def TB(ok:Zu W)(u:la (CA W)<=8)(d:b<la W)(c:Fz T 30):Bv [wP W,.int (b:Int),pP T]=aA (.Ap aD):=by
 let t:=ok.j_;let⟨v,j,h⟩:=S_ ok () c.1;let⟨w,i,m⟩:=ZL ok c.1;by_cases q:Bz W T
 ·let a:=h.mpr q;let e:=m.mpr q;subst a e;let⟨g,rfl,n,r⟩:=q;let st:=(UE ok d n r).1;let lS:=st.len;let⟨v,_,p,o⟩:=WI ok st.len d;let a:=o.mpr st.set;subst a;let f:=Uo (l:=K8 W b g) (k:=(la W:Int)) ();rw[decide_eq_true ()] at f;apply Zdr j i (PF ok d) f (by change b<(K8 W b g).length;lia) st.base p
 ·let a:v=aC:=by cases v;rfl;apply absurd (h.mp rfl) q
  let e:w=aC:=by cases w;rfl;apply absurd (m.mp rfl) q
  subst a e;apply Zhp j i (ZT (by let:=c.1;lia) λx s=>eu (c.2 x s) ∅)
end
def Y0{b:Type}{X:List b}(h:b->PV){k:Nat}(j:la X=k)(f:0<k)(c:Int):∃x,x∈X/\AZ (X.map h) (c%(k:Int))=aA (h x):=by
 let e:=jt c (show(k:Int)≠0 by lia);let g:=iY c (show(0:Int)<(k:Int) by lia);obtain⟨i,d⟩:∃i:Nat,c%(k:Int)=(i:Int):=⟨(c%(k:Int)).toNat,()⟩;let a:i<la X:=()
 rw[d];apply⟨X[i],bw a,Wy (by rw[ag,aF a];rfl)⟩
def Zeh:∀{l:Gj},(∀x∈l,0<=x/\x<=9)->0<=l.sum/\l.sum<=9*(la l:Int)
 | [],_=>⟨cz 0,cz 0⟩
 | a::r,h=>by
  let c:=h a ⋯;let d:=Zeh (l:=r) λx b=>h x (by simp[b]);rw[cO,bH]
  lia
def law_true:∀ns:List Int,ns.length<=63->(∀n∈ns,n.natAbs.log2<=1048576)->D_law [.cst (iL ns)]=aA (.Ap aD):=by
 ext ns d _;let⟨n,Es,I,Ay⟩:=r4 (Cz ns 0);let⟨ts,eT,r,S,M⟩:=Fu.tZ (Y2:=1) d Es I;let eS:=tY r I;let ok:Zu (G3 n ts):=(OJ r).web Es I;let O:(G3 n ts).length=n:=(OJ r).len;let J:E7 (G3 n ts):=S.conn r;let fw:((CA (G3 n ts)).length:Int)<=EU ts:=by rw[Zo0,O];apply Zeg r I
 generalize G3 n ts=W at *
 let y:la (CA W)<=8/\(4<W.length->la (CA W)<=W.length+1):=by
  delta Fu.Nu at M;split at M<;>lia
 let N:∀k:Nat,∃b:Nat,b<W.length/\Cz ns k%(n:Int)=(b:Int):=λk=>by let q0:=jt (Cz ns k) (show(n:Int)≠0 by lia);let q1:=iY (Cz ns k) (show(0:Int)<(n:Int) by lia);apply⟨(Cz ns k%(n:Int)).toNat,(),()⟩
 let⟨b,o,eb⟩:=N 12;let⟨h,E,eh⟩:=N 18;let R:=vW ok J y.1 y.2;let st:=od ok J o y.1 y.2;let gv:=WR (CA W) (W.length-1);let z0:=vh ok J o;let ml:∀D∈Di (Iy W b),Kc W b D:=λD hD=>(xp ok o).mp ((W0 _).mem_iff.mp hD);let ls:(Di (Iy W b)).length=(Ks (CA W) (W.length-1)).length:=by rw[(W0 _).length_eq];apply aJ _
 let pos:0<(Ks (CA W) (W.length-1)).length:=by rw[<-ls];apply iX ((W0 _).mem_iff.mpr ((xp ok o).mpr z0))
 generalize Ks (CA W) (W.length-1)=gs at *;generalize Di (Iy W b)=L at *;let⟨g,S,eg⟩:=Y0 gP rfl pos (Cz ns 13);let⟨g1,g2⟩:=gv g S
 let Nm:Fz (EF g) 7:=⟨by simp[EF];lia,λx H=>by
  let⟨k,hk,rfl⟩:=aa.mp H;let:=g1.lt k hk;change((k:Nat):Int).natAbs<=31
  lia⟩
 let⟨T',eX,sm⟩:=o' (T:=EF g) (w:=Cz ns 14%6) (a:=Cz ns 15%(n:Int)) (c:=Cz ns 16%10) Nm ⟨(),()⟩;let t1:=TB ok y.1 o sm;let t2:=TB (T:=EF g) ok y.1 o ⟨by let:=Nm.1;lia,Nm.2⟩;let⟨G,hG,eG⟩:=Y0 pP ls pos (Cz ns 17);let C:=ml G hG;let Y:=C.len;let bG:=λi (m:i<W.length)=>zQ ok o C m;let rs:=Zeh (l:=Kl W h) λx H=>by let⟨i,m,rfl⟩:=Se H;rw[ok.sq h E] at m;apply⟨ok.lo h i E m,ok.N9 h i E m⟩
 rw[ok.sq h E] at rs
 obtain⟨v,ev,Ey⟩:∃v:Int,AZ [PV.int (-1),PV.int (Kl W h).sum,PV.int (1+Cz ns 19%10^9),PV.int (0-Cz ns 19%7)] (Cz ns 20%4)=aA (.int v)/\v.natAbs<=2^60:=by
  let c:Cz ns 20%4=0\/Cz ns 20%4=1\/Cz ns 20%4=2\/Cz ns 20%4=3:=()
  rcases c with c | c | c | c<;>rw[c]
  ·apply⟨-1,rfl,∅⟩
  ·apply⟨_,rfl,()⟩
  ·apply⟨_,rfl,()⟩
  ·apply⟨_,rfl,()⟩
 let lP:(G.set h v).length=W.length:=by rw[cq];apply Y
 let bP:∀i,i<W.length->(Cz (G.set h v) i).natAbs<=2^60:=λi m=>by
  by_cases e:i=h
  ·subst e;rw[hI v ()];apply Ey
  ·rw[ih v e];let:=bG i m
   lia
 let vP:=λs=>Zl7 (l:=G) (k:=h) (v:=v) (f:=Cw 8) (g:=Cw 9) (h:=Cw 11) (s:=s);generalize G.set h v=P at *;let Z:K7 (pP P)=aD:=ZT () λx H=>by let⟨i,m,rfl⟩:=Se H;apply eu (bP i ()) ∅
 let⟨p,sP,nP,iP⟩:=WI ok lP o;let⟨u,sU,_,iU⟩:=WI ok Y o;let qu:=iU.mpr C.set;subst qu;let⟨z,sZ,_,iZ⟩:=WI ok z0.len o;let qz:=iZ.mpr z0.set;subst qz;let zr:∀i,i<W.length->Cz (aW W.length 0) i=0:=λi m=>YZ 0 m;let r0:Ni (.tup [.int 0]) (.int (n:Int))=aA (pP (aW W.length 0)):=by rw[O];apply Zql Es I
 let big:(2:Nat)^60<=2^208:=∅
 let⟨FG,fG⟩:=C.set;let jG:=Py (F:=FG) (G:=FG) ok J Y o (λi m=>by let:=bG i m;lia) fG C.base z0.len zr sU sZ;let' j:Option PV->ZK:=λx=>[aA (.cst (iL ns)),aA (.int (n:Int)),aA (wP W),aA (.int (b:Int)),aA (.lst (gs.map gP)),aA (gP g),aA (.int (Cz ns 15%(n:Int))),aA (pP T'),aA (pP G),aA (.int (h:Int)),aA (.int (Cz ns 19)),aA (.int v),aA (pP P),x];let R:(λls=>IS (ls++[.int 300])) [wP W]=aA (.lst (gs.map gP)):=R;let st:(λls=>FI (ls++[.int 300])) [wP W,.int (b:Int)]=aA (.lst (L.map pP)):=st;let lg:CD [.lst (gs.map gP)]=aA (.int (gs.length:Int)):=by rw[Za6,aJ]
 show XB (Zr (Zh (c1 (c2 rfl rfl (Xd d 0)) Ay)) (Zr (Zh (c2 (c3 rfl rfl rfl eT) rfl eS)) (Zr (Zh (v:=.int (b:Int)) (ep ((Oy (c2 rfl rfl (Xd d 12)) (b:=(n:Int)) rfl).trans (by rw[eb])))) (Zr (Zh (c1 rfl R)) (Zr (Zh (v:=gP g) (PJ (o2 rfl (Oy (c2 rfl rfl (Xd d 13)) (c1 rfl lg)) eg))) (Zr (Zh (ep (Oy (c2 rfl rfl (Xd d 15)) (b:=(n:Int)) rfl))) (Zr (Zh (c4 rfl (Oy (c2 rfl rfl (Xd d 14)) (b:=6) rfl) rfl (Oy (c2 rfl rfl (Xd d 16)) (b:=10) rfl) eX)) (Zr (kV (xo (xn (p:=aD) (xb (c3 rfl rfl rfl t1))) (xn (p:=aD) (xb (c3 rfl rfl rfl t2))))) (Zr (Zh (v:=pP G) (PJ (o2 (c2 rfl rfl st) (Oy (c2 rfl rfl (Xd d 17)) (c1 rfl lg)) eG))) (Zr (Zh (v:=.int (h:Int)) (ep ((Oy (c2 rfl rfl (Xd d 18)) (b:=(n:Int)) rfl).trans (by rw[eh])))) (Zr (Zh (c2 rfl rfl (Xd d 19))) (Zr (Zh (v:=.int v) (ep (o2 (a:=.lst [.int (-1),.int (Kl W h).sum,.int (1+Cz ns 19%10^9),.int (0-Cz ns 19%7)]) ?_ (Oy (c2 rfl rfl (Xd d 20)) (b:=4) rfl) ev))) (Zr (s1:=j aB) (Zh (vP _ rfl rfl rfl () ())) ?_)))))))))))))
 ·rw[ya,Zt,Zt,Zt,Zt,c1 (o2 rfl rfl (Uq E)) (Zk9 _),yp (a:=1) rfl (Oy (b:=10^9) rfl (o2 rfl rfl rfl) ∅),uh (a:=0) rfl (Oy (b:=7) rfl rfl)];rfl
 let X:KJ (AO (Cy (J1 aC) (Cy JZ (Cw 12) (Cw 3)) (AL (.int 0)))) (AO (AK IY [Cw 2,Cw 12,Cw 3])) (j aB)=aA (decide (Cz P b=0)&&p):=xa (xb (P6 (o2 rfl rfl (YX ())) rfl)) (xb (c3 rfl rfl rfl nP));by_cases q:Cz P b=0/\p=aD
 ·let qp:=q.2;subst qp;let⟨F,fP⟩:=iP.mp rfl;rw[decide_eq_true q.1] at X;apply ZF X (Yd (ep (X' (c4 rfl rfl rfl (o2 rfl rfl r0) (Py (F:=F) (G:=F) ok J lP o (λi m=>by let:=bP i m;lia) fP q.1 z0.len zr sP sZ)) rfl)) rfl)
 ·let U:=Zom () () sP Z q;let rG:=Oa () sU C.base;show Zr (s1:=j aB) (kV (X.trans ?_)) (Wm (QJ (λi s=>∃x,s=j x) (ls:=[.tup [pP P,pP G,.Ap aC],.tup [pP G,pP P,.Ap aC],.tup [pP P,pP G,.Ap aD]]) rfl ⟨aB,rfl⟩ ?_) ?_)
  ·by_cases z:Cz P b=0
   ·cases p
    ·rw[decide_eq_true z];rfl
    ·apply absurd ⟨z,rfl⟩ q
   ·rw[decide_eq_false z];rfl
  ·ext i l s O ⟨x,rfl⟩;let Q:∀{A B:Gj}{t:Bool},He [wP W,.int (b:Int),pP A,pP B,.Ap t]=aA (.Ap aD)->∃s1,CS (.one 13) (.tup [pP A,pP B,.Ap t]) (j x)=aA s1/\Kp (EI (Kt (AO (AK He [Cw 2,Cw 3,Cy JZ (Cw 13) (AL (.int 0)),Cy JZ (Cw 13) (AL (.int 1)),Cy JZ (Cw 13) (AL (.int 2))]))) (AQ (AN (AL (.Ap aC)))) GX) s1 λs=>∃x,s=j x:=λ{A B t} e=>⟨j (aA (.tup [pP A,pP B,.Ap t])),rfl,n5 (kV (xn (p:=aD) (xb (c5 rfl rfl rfl rfl rfl e)))) ⟨_,rfl⟩⟩
   match i,O with
   | 0,rfl=>apply Q (Zl (Ww (g:=aD) U))
   | 1,rfl=>apply Q (Zl (Ww (g:=aC) ⟨rG,U⟩))
   | 2,rfl=>apply Q (qn (Zhq U))
  ·ext s ⟨x,rfl⟩;apply Yd (ep (X' (c4 rfl rfl rfl (o2 rfl rfl r0) jG) rfl)) rfl
end _p
namespace _p
open PySem _l _v
def all_mk{P:bO}{w:bX}{K:aG}{h:bp}{mg:JM}{fa:aP}(X:K.In h)(G:h.Ns bY mg)(hfa:mg "law" = aA (.ref fa))(B:Blt mg)
  (d0:Def K mg "_law_houses" NO)
  (d1:Def K mg "_law_square" NP)
  (d2:Def K mg "ties_of" LH)
  (d3:Def K mg "reduced" LI)
  (d4:Def K mg "evened" HD)
  (d5:Def K mg "determinant" Sy)
  (d6:Def K mg "ties_at" LJ)
  (d7:Def K mg "row_of" HE)
  (d8:Def K mg "square_without" V3)
  (d9:Def K mg "square_of" Ph)
  (d10:Def K mg "tree_count" RO)
  (d11:Def K mg "pieces_of" Pj)
  (d12:Def K mg "is_between" RP)
  (d13:Def K mg "grown" DP)
  (d14:IL K mg "trees" Om 300)
  (d15:Def K mg "_law_changed" Pk)
  (d16:Def K mg "_law_cell" HF)
  (d17:Def K mg "_law_renamed" Pl)
  (d18:Def K mg "_law_read_times" Tv)
  (d19:Def K mg "_law_times" NR)
  (d20:Def K mg "tie_to_look_at" V4)
  (d21:Def K mg "walked" HH)
  (d22:Def K mg "still_by" NS)
  (d23:IL K mg "stills" NT 300)
  (d24:Def K mg "_law_all_burn" RS)
  (d25:Def K mg "_law_settled" Pn)
  (d26:Def K mg "in_debt" LK)
  (d27:Def K mg "ties_to" LL)
  (d28:Def K mg "house_to_burn" UN)
  (d29:Def K mg "burnt" DQ)
  (d30:Def K mg "is_settled" RT)
  (d31:Def K mg "refuse_unstill" Xc)
  (d32:Def K mg "solved_below" Tw)
  (d33:Def K mg "nearing" LM)
  (d34:Def K mg "gain" Zcv)
  (d35:Def K mg "run" Zi8)
  (d36:Def K mg "borrowing" Po)
  (d37:Def K mg "plus" Zcw)
  (d38:Def K mg "least" DR)
  (d39:Def K mg "settle" HJ)
  (d40:Def K mg "stilled" LN)
  (d41:Def K mg "joined" RV)
  (d42:Def K mg "_law_whole" LO)
  (d43:Def K mg "_law_tuple" LP)
  (d44:Def K mg "_law_is_tree" Pp)
  (d45:Def K mg "is_tree" LQ)
  (d46:Def K mg "still_of" UB)
  (d47:Def K mg "_law_kind" NU)
  (d48:Def K mg "_law_told" HL)
  (d49:Def K mg "minus" DS)
  (d50:Def K mg "back" Jx)
  (d51:Def K mg "_law_refused" Pq)
  (d52:Def K mg "law" zL)
  {s_ lR Cb:aP} (QT:_x.QN "NoTree" K mg s_ Cb) (Qt:_x.QN "NotSettled" K mg lR Cb)
  : ∃fd:gj,(∀(s:aR)(u:aI),pM s fd ⟨[u],[]⟩ [("_law_script",u)])/\∀base:bp,K.In base->base.Ns bY mg->S7 P w K mg base Mq 9 fa fd ["_law_script"] (EV K D_law 1):=by
 let Q:_x.Q9 K mg s_ lR Cb:=⟨QT,Qt⟩;show Zau d52 hfa (λ_ _ _ _ _ _ _=>rfl) λbase f fd _ _ F=>?_;let B:BX P w K mg base:=⟨B⟩;let e0:=Zo B d0;let Mc:=Z_ B d1;let e2:=wa B d2;let Gy:=ys B d3;let e4:=xq B d4 Gy;let e5:=dP B d5 e4;let e6:=bE B d6;let e7:=tA B d7 e6;let e8:=RN B d8 e7;let e9:=Yi B d9 e8;let τ:=sN B d10 e5 e9;let ρ:=Vx B d11;let e12:=XY B d12;let π:=Zcs B d13 ρ e12;let e14:=Zct B d14 τ e2 π;let e15:=q4 B d14 τ e2 π;let e16:=Zx B d15;let ο:=tb B d16;let e18:=uz B d17;let e19:=P4 B d18;let e20:=uN B d19 ο e19 e18;let e21:=RQ B d20;let e22:=ta B d21 e2 e21;let ξ:=Sm B d22 e22;let e24:=TS B d23 ξ e15;let e25:=wY B d24;let ν:=ZH B d25 e25;let μ:=vr B d26;let e28:=uT B d27;let e29:=QI B d28 e28;let ι:=Zcu B d29 e29;let θ:=XC B d30 ι μ;let xQ:=RU B d31 θ;let η:=SV B d31 Q θ;let e34:=P5 B d32 e4;let e35:=bl B d33 e34 e8;let e36:=Zg2 B d34;let e37:=Zls B d35 e36;let e38:=Xe B d36;let ζ:=Zg3 B d37;let e40:=Zcx B d38;let e41:=ct B d39 e35 e37 μ e38 ζ ι e40;let ε:=c8 B d40 e41;let δ:=rt B d41 xQ ε ζ;let e44:=so B d41 Q xQ η;let e45:=yD B d42;let γ:=uZ B d43 e45;let e47:=uk B d44 γ;let Z':=wc B d45 e2 ρ;let e49:=xc B d46 Z' ξ;let e50:=ZM B d46 Q Z';let Y':=nx d47 B  Q;let e52:=fp B d48 Y' e49 e47 ν γ Q e50;let e53:=Zcy B d49;let e54:=Zg4 B d50 xQ ε e53;let e55:=Zcz B d50 Q xQ η;let e56:=Yh B d51 Y' e54 δ Q e55 e44;apply Zlt B F e0 ο Mc e20 e14 e16 e52 e24 ν δ e56
end _p
structure PySem.W.Fast:Prop where(tw3078217958609018106 tw17487446283893923604 tw6115130490923806146 tw6078743505783708542 tw4505028565538092441 tw14263539051967601886 tw11219291139012623075 tw11140642412523990500 tw8094912744240463686 tw13269021816537671376 tw7924705884902277283 tw17826619663250536950 tw16268071243343859259 tw10658523903338189452 tw18071797113215685835 tw2626396802969526294 tw5438533717569801466 tw1604062075585198375 tw16700973079251219130 tw13711637326806146729 tw9658505009617882300 tw6199585638694991141 tw5739683510148120372 tw3390910390385499418 tw4011053903966612532 tw10354071436109814230 tw9014538790271623418 tw2776100759776294080 tw17190639703538787757 tw12419547954625156401 tw4070051955133101280 tw17664979952600870001 tw6055733179433000156 tw13976949649031007380 tw17057099854365853378 tw608592921657234170 tw16070577205639500523 tw1335626367750323967 tw2002377477981233759 tw5873259625359723445 tw17173273491533445726 tw1625931511418637835 tw7613608822336391744 tw5554531816306742305 tw9641057425236513683 tw7867129577651027732 tw906368432548315096 tw4453589349589242132 tw10777814260885548017 tw9384910577580965114 tw13704294453735596073 tw11092716878675146090 tw17378403623310843143 tw13737618634472804952 tw10564130373428123226 tw13220884603397730374 tw13107160885219401705 tw14129837554504312492 tw11916256849659858086 tw10622387510082532995 tw4199590683856121692 tw10575934827382617023 tw6447562617249575523 tw2850033221191334831 tw2077989266630542384 tw14942766770471064097 tw5499067092563071437 tw8295182344318586507 tw2313436532672492406 tw4172070546518482710 tw162715436078232531 tw8305097862504396309 tw13423393053381600016 tw2864522637916725456 tw11027605986914234031 tw15411113527023554069 tw9926901702679602928 tw16659603362502979307 tw7593047453204048524 tw16056571412949171913 tw4046992923016985052 tw12585280736259672291 tw15396085062812027539 tw5702808641962875490 tw5852590444737180850 tw3075268006233075398 tw9070802727701671254 tw16009963312569664418 tw6607039146670868905 tw14069175006010911801 tw13118407739917328935 tw87590024361343967 tw4011498487834110520 tw98729913714499185 tw9086685539829233685 tw10002049367170559326 tw12421265751773467360 tw9863243295991495301 tw14673873923423552202 tw14536178867952457840 tw5833999801433138752 tw1089358403755357634 tw1019548487873624777 tw7412042437024306052 tw9137117223558650575 tw7578511890332949397 tw1015903068525486338 tw9989639805038156117 tw16493782098759375571 tw9002312787341016078 tw8967195621276391020 tw5157064699508947145 tw8888731580173001864 tw8150500543283742464 tw17005405535796235855 tw6095927859402877710 tw15092562680561475672 tw16544868397884309644 tw16652459496952311431 tw16028420832925728934 tw1160828459473262127 tw9232603727885002980 tw3364488830187568104 tw9367026590721376783 tw9225637860784718580 tw5842001226205153746 tw10122366717549412425 tw8422730673435846728 tw3144009149637573113 tw13935814916978847376 tw7269035567504844809 tw16547478087111749000 tw595514882340446394 tw7461533446396619432 tw9181473584535718566 tw13278715206001262715 tw3630880359834897668 tw1993122123518593008 tw1949147929987170896 tw9411695541350823204 tw5721146483253221956 tw2688327686919567191 tw14490313882100364853 tw8146558416473591444 tw2808483505160459852:True)
open PySem PySem.W PyProof.Rows
set_option maxRecDepth 100000 in
theorem PySem.Challenge.cw_purseweb_k56_no_tree_and_not_still_holds : PySem.Challenge.rw_purseweb_k56_no_tree_and_not_still.Holds := by
 w_on;o_law;k_head;(case hw=>w_witness2)
 k_fill
 show _v.law_walkT (l:=lJ) (D:=_p.D_law) (x:="_law_script") 9 rfl rfl ⟨rfl,∅,∅,rfl⟩ (λw=>by kernel_rfl) _p.law_true (λw h Y=>PySem.W.km_in_of Y) ?F
 case F=>
  ext w mg fa h KX G hmg
  refine' _p.all_mk KX G hmg ?B ?d0 ?d1 ?d2 ?d3 ?d4 ?d5 ?d6 ?d7 ?d8 ?d9 ?d10 ?d11 ?d12 ?d13 ?d14 ?d15 ?d16 ?d17 ?d18 ?d19 ?d20 ?d21 ?d22 ?d23 ?d24 ?d25 ?d26 ?d27 ?d28 ?d29 ?d30 ?d31 ?d32 ?d33 ?d34 ?d35 ?d36 ?d37 ?d38 ?d39 ?d40 ?d41 ?d42 ?d43 ?d44 ?d45 ?d46 ?d47 ?d48 ?d49 ?d50 ?d51 ?d52 (_x.qn_mk KX G ?a0 ?a1 ?a2 ?a3 ?a4 ?a5 ?a6 ?a7 ?a8 ?a9 ?a10 ?a11) (_x.qn_mk KX G ?b0 ?b1 ?b2 ?b3 ?b4 ?b5 ?b6 ?b7 ?b8 ?b9 ?b10 ?b11)
  case B=>constructor<;>(show PySem.W.mg_none_of KX G ?_;k_is)
  case d0 | d1 | d2 | d3 | d4 | d5 | d6 | d7 | d8 | d9 | d10 | d11 | d12 | d13 | d15 | d16 | d17 | d18 | d19 | d20 | d21 | d22 | d24 | d25 | d26 | d27 | d28 | d29 | d30 | d31 | d32 | d33 | d34 | d35 | d36 | d37 | d38 | d39 | d40 | d41 | d42 | d43 | d44 | d45 | d46 | d47 | d48 | d49 | d50 | d51 | d52=>(refine' _l.def_mk KX G ?a ?l ?c ?k;(case a=>k_is);(case l=>k_is);(case c=>k_is);(case k=>k_is))
  case d14 | d23=>(refine' _v.defD_mk KX G ?a ?l ?c ?k ?lt ?d;(case a=>k_is);(case l=>k_is);(case c=>k_is);(case k=>k_is);(case lt=>k_is);(case d=>rfl))
  case a0 | a1 | a3 | a4 | a5 | a6 | b0 | b1 | b3 | b4 | b5 | b6=>k_is
  case a2 | b2=>k_exc
  case a7 | a8 | a9 | a10 | a11 | b7 | b8 | b9 | b10 | b11=>kernel_rfl
