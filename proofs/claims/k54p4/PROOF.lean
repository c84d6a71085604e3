import PyProof.Rows.All
import Wide.All
import OpenK.AllK
import PySem.Challenge.RW_purseweb_k54_whole_trees_and_still_purse
set_option compiler.extract_closed false
set_option genSizeOf false
set_option maxHeartbeats 0
theorem Oaq(h:True:=by rfl):True:=h
def On:Lean.Syntax:=Oaq._auto_1
theorem Obq(h:True:=by decide):True:=h
def Op:Lean.Syntax:=Obq._auto_1
theorem Ocq(h:True:=by first | exact vo _ | exact Zi):True:=h
def Os:Lean.Syntax:=Ocq._auto_1
theorem Odq(h:True:=by intro _;rfl):True:=h
def Pi:Lean.Syntax:=Odq._auto_1
theorem Oeq(h:True:=by decide +kernel):True:=h
def Ps:Lean.Syntax:=Oeq._auto_1
theorem Ofq(h:True:=by first | exact .inl rfl | exact .inr rfl | assumption):True:=h
def Pv:Lean.Syntax:=Ofq._auto_1
theorem Ogq(h:True:=by with_unfolding_all rfl):True:=h
def Re:Lean.Syntax:=Ogq._auto_1
theorem Ohq(h:True:=by lia):True:=h
def Rs:Lean.Syntax:=Ohq._auto_1
theorem Oiq(h:True:=by first | exact mM rfl | exact om (mM rfl) | exact om (om rfl)):True:=h
def Sc:Lean.Syntax:=Oiq._auto_1
section
open Lean Parser.Tactic Parser.Term Parser
abbrev L2N:=Syntax.node .none
abbrev L2L x:=L2N ``rcasesPatLo #[L2N ``rcasesPatMed #[L2N `null #[x]],L2N `null #[]]
def L2v:Nat->Syntax->Syntax
|0,s=>s
|n+1,s=>if s.isOfKind ``anonymousCtor then L2N ``rcasesPat.tuple #[s[0],L2N `null (s[1].getArgs.mapIdx fun i x=>if i%2=1 then x else L2L (L2v n x)),s[2]]else if s.isOfKind ``hole then L2N ``rcasesPat.ignore #[s[0]]else L2N ``rcasesPat.one #[s]
def L2w:Nat->Term->Syntax->MacroM Syntax
|f+1,h,p=>do
 let s:=p[1].getSepArgs
 let c ← `(tactic|rcases $h:term with $(⟨L2L p⟩))
 if p.isOfKind ``rcasesPat.tuple&&s.size>1 then
  let a:=s[0]![0][0][0]
  let b:=if s.size=2 then s[1]![0][0][0]else p.setArg 1 (L2N `null (p[1].getArgs.extract 2 99))
  let m x(y:Name):Ident:=if x.isOfKind ``rcasesPat.one&&x[0].getId != `rfl then⟨x[0]⟩else mkIdent (y.appendIndexAfter f)
  let l:=m a `l
  let r:=m b `r
  let i:Ident:=⟨h⟩
  if i.getId==l.getId||i.getId==r.getId then return c
  `(tactic|first|((first|(have $l:ident:=And.left $h;have $r:ident:=And.right $h)|refine Exists.elim $h fun $l $r=>?_);(try clear $i);$(⟨← L2w f l a⟩);$(⟨← L2w f r b⟩))|$c:tactic)
 else return c
|_,_,x=>pure x
def L2m(x:Syntax):MacroM Syntax:=do
 let d:=x[1]
 let U:MacroM Syntax:=Macro.throwUnsupported
 let k:=x.setKind
 match x.getKind with
 |``Command.declaration=>
  if !d.isOfKind ``Command.definition||x[0][4].getNumArgs=1 then U else return if d[1][0].getId.getString!.front<'O' then x.setArg 0 (x[0].setArg 4 (L2N `null #[L2N ``Command.noncomputable #[mkAtom ""]])) else x.setArg 1 (L2N ``Command.theorem #[mkAtom "",d[1],L2N ``Command.declSig #[d[2][0],d[2][1][0]],d[3]])
 |``apply=>if d[1].isOfKind ``Term.paren then U else return k ``exact
 |``Tactic.show=>return k ``refine
 |``dsimp=>if x[3].getNumArgs=1||x[4].getNumArgs=0 then U else return (x.setArg 3 (L2N `null #[mkAtom "only"])).setKind ``simp
 |``delta=>return k ``unfold
 |``tacticLet__=>
  let d:=x[2][0]
  if d.isOfKind ``letPatDecl then L2w 20 ⟨d[4]⟩ (L2v 9 d[0])else return k ``tacticHave__
 |_=>
  let p:=d.getArgs
  if (x.find? (·.isToken "|")).isSome||!p.any (·[0].isOfKind ``rcasesPat.tuple)then return k ``rintro
  let t ← p.mapM fun x=>do
   if x[0].isOfKind ``rcasesPat.tuple then `(tactic|(intro h;$(⟨← L2w 20 (← `(h)) x[0]⟩)))else `(tactic|rintro $(⟨x⟩):rintroPat)
  `(tactic|($[$t];*))
end
local macro_rules(kind:=Lean.Parser.Command.declaration)|x=>L2m x
local macro_rules(kind:=Lean.Parser.Tactic.apply)|x=>L2m x
local macro_rules(kind:=Lean.Parser.Tactic.show)|x=>L2m x
local macro_rules(kind:=Lean.Parser.Tactic.dsimp)|x=>L2m x
local macro_rules(kind:=Lean.Parser.Tactic.delta)|x=>L2m x
local macro_rules(kind:=Lean.Parser.Tactic.tacticLet__)|x=>L2m x
local macro_rules(kind:=Lean.Elab.Tactic.Ext.ext)|x=>L2m x
local macro_rules
|`(⇑$e)=>`(($e).heap.objs.size)
|`(⋯)=>`(by simp)
|`(∅)=>`(by decide)
|`(~~~$e)=>`(by simpa using $e)
|`($e|>$i:ident)=>`(autoParam $e $i)
local macro_rules|`(())=>`(by lia)
set_option bootstrap.genMatcherCode false
open Option renaming some->aA,none->aB,bind_some->aY,isSome_iff_exists->dk,map_some->fB,bind_eq_some_iff->nU,map_eq_some_iff->oE,bind_eq_bind->p6,some_ne_none->p8,isSome_map->qp,getD_none->rS,none->t7,some->ax
open Bool renaming false->aC,true->aD,and_eq_true->aX,false_ne_true->bg,false_eq_true->dZ,or_eq_true->ig,not_eq_true'->jL,eq_iff_iff->jr,or_true->kS,not_true->qE,and_false->sX,true_and->tK
open PySem renaming wpAny_bind->aE,Value->aG,wpAny_pure->aJ,starEach->aL,Addr->aM,Shared->aN,wpAny->ao,Program->bC,Str->bH,mainGlobals->bP,wpAny_mono->bQ,Expr->bS,World->bU,Around->bX,Heap->b7,wpAny_holding->b9,wpAny_call_entry->cF,Stmt->cJ,wpAny_loadPart_at->cN,backTo->cQ,wpAny_Call_Name_kw->cS,foldedSetIterable->cY,wpAny_field->c9,wpAny_callSpecial?_slot->cg,wpAny_newObj_type->cw,sizeLine_eq->dF,wpAny_truthy_bool->dR,wpAny_seqItems->dh,codeAny_builtin->di,behindInMarks->dj,wpAny_isSubtype_exc->dm,bootBuiltins->dq,wpAny_setState_of->dw,compareOp->dz,SetTable->eN,mem_of_lookup->eQ,excClassObj->eZ,rawInt->fE,IsTupleKey->fG,Obj->fH,codeAny_call_builtin->fN,codeAny_mono->fU,wpAny_setField->fX,cLine->fu,wpAny_typeNameOfWhole_keyiter->gK,wpAny_ite_split->gS,wpAny_setField_rec->g7,wpAny_passesOwn->gh,FuncData->gj,codeAny->gk,Pos->gy,wpAny_attempt->gz,wpAny_typeNameOf_keyiter->hV,wpAny_execs_cons->iG,swapsWith->iH,binaryOp->iI,NameKind->iJ,sysModules->iQ,wpAny_call->iT,wpAny_execs_nil->i7,bindArgs->i8,getAttrByItsOwn->ik,plainId_quiet->jC,call_meets->jP,IsPair->jQ,ExcBaseFacts->jY,Scope->jd,wpAny_standAt->je,attributeBase->jf,wpAny_comprehension_free->jm,pyNext->jw,sliceBounds->kD,wpAny_letGo->kE,seqItems?->kF,wpAny_pyIter_slot->kN,argBest->kQ,wpAny_storeSet_of->kU,ofAClassStatement->kX,wpAny_tryCatch->kY,wpAny_isInstance->ke,noteFrame->kg,Builtin->km,wpAny_onRaise->ko,wpAny_newList->ku,ExceptHandler->kz,strLen_append->lA,GenState->lG,wpAny_updateSeq_pair->lJ,wpAny_loadPart'->lU,codeAny_of_tree->lV,wpAny_setEntries_of->l8,intKind->l9,wpAny_typeOf->lh,codeAmong->mF,assignEach->mI,wpAny_pyIter_tuple->mJ,tupleKind_room_in1->mL,wpAny_rule->mO,wpAny_fieldsOf->mP,wpAny_pyIter_list->mX,keywordEach->mY,wpAny_of_eq->m4,wpAny_dictEntries->m5,searchCouldBeSeen->mf,pyIter->mq,tupleKind->nJ,noFill_tuple_add->nK,wpAny_askSetting->nV,checkBuiltinCall->nX,wpAny_forIn_list->nY,Env->n8,builtinsNs->ng,getItem->oA,closureFor->oF,letOwnedTupleGo->oO,wpAny_specialOf->oQ,IsZip->oR,wpAny_dictEpoch->oU,wpAny_updateSeq->oY,wpAny_isTrue_Compare1->oZ,wpAny_isOneOf_keyiter->o5,ofString_length->o6,weight_type_call_type->o9,wpAny_eqIsQuiet_tuple->og,compEnvC->ot,wpAny_newFunctionEnv->ou,firstArgMember->oz,isSubtype_stop->pA,wpAny_runValue->pC,wpAny_loadPart->pK,unbindBehindTheSuite->pL,hashByValue->pO,PassesOwn->pT,Keyword->pV,notedBy->pW,putSet_of->pX,KeyKind->pf,seq_tuple_add->pq,wpAny_handled->qA,isTrue->qF,IsPart->qG,isInstance->qO,int_text_length_le->qQ,intKind_is->qT,call_len_set->qV,standAt->q9,BindsTo->qh,backToKw->qj,concat_meets->qk,seqIndex_neg->qm,valueAt->qo,OwnTail->rA,wpAny_mkText->rD,setAddHashed->rG,callerA->rJ,lastMarks->rN,Result->rP,Arguments->rR,pickOrder->rX,CmpOp->r8,seqIndex_of->r9,wpAny_throw->rg,builtinKind->rp,Model->sM,wpAny_Name->sO,bindL->sR,bindC->sS,typeIs_int->sU,atKey->sY,relayAll->sd,getAttr?->sf,defaultsOf->su,Tok->tD,Str->tP,Within->tQ,findBy->tS,layNew->tT,Sem->tY
open PySem.Heap renaming get?_push_of_some->aF,lt_size->aT,get?_push_size->aV,get?_update_other->bV,get?_update_self->bZ,size_push->cT,SameBut->cu,get?_none_of_le->fJ,get?_update_ne->l7,ExtBut->mZ,size_update->nR,get?_push_ne->qz,get?_push_at->rB
open PySem.W renaming Frag->aH,kitOne->bT,findIn->ba,nsIn->cB,fnOf->cX,mg_of->dS,looks_findIn->dX,codeIn->da,kia_one->df,keepIn->eB,ktsIn->fP,InstAt->fT,kts_cls->gR,binds_K->ij,kla_fn->jR,tabObj->jT,callWith_K->jy,lookIn->kH,mroIn->kl,tabIn->lE,clsIn->nC,cellsFrom_some->nj,envX->oK,mem_of_lookupK->oM,instObj->oN,CodeHd->oh,specialIn->qc,kitx_list->qd,kitx_dict->qf,class_get->rE,plainGet->rO,kas_place->rW,handedIn->rY,takerIn->sH,notCls->si,noTabs->sv,ownOf->tJ,KitX->tV
open List renaming length->la,getElem?_eq_getElem->aI,length_map->aK,mem_singleton->aO,getD_eq_getElem?_getD->aP,range->aQ,mem_cons_of_mem->aR,getElem?_eq_some_iff->aS,size_toArray->aU,mem_cons->aW,mem_map->a9,map_cons->aa,getElem?_map->af,mem_append->ag,mem_cons_self->ah,mem_append_left->aj,replicate->ak,length_append->aq,nodup_cons->au,mem_range->av,mem_of_getElem?->aw,map_congr_left->az,mem_append_right->bA,length_cons->bB,all_eq_true->bK,getElem?_append_left->bM,map_append->bO,map_map->bR,length_eq_zero_iff->bY,length_range->b8,getElem?_append_right->bc,sum_cons->bj,length_singleton->bu,getElem?_set->bw,length_take->bz,nodup_nil->cC,lookup_cons->cG,getElem_mem->cI,take_of_length_le->cK,not_mem_nil->cM,length_replicate->cP,getElem?_replicate->c0,append_nil->ck,length_set->cq,getElem?_eq_none->dI,getElem_of_mem->dJ,mem_filter->dM,take_length->dQ,pairwise_map->dU,getElem?_set_ne->dW,nodup_append->dt,mem_of_mem_take->eD,pairwise_append->eI,take_append_of_le_length->eu,length->fK,length_drop->fL,getElem?_set_self->fR,take_succ_eq_append_getElem->fY,filterMap_cons->fZ,replicate_succ->fj,getElem?_range->fm,zip_cons_cons->gA,ext_getElem->gC,nodup_range->gD,mem_flatMap->gE,mem_of_mem_drop->gL,foldl_cons->gQ,drop_eq_nil_of_le->gV,contains_cons->g8,take_sublist->gm,append_assoc->gn,ext_getElem?->gq,mem_erase_of_ne->gu,length_erase_of_mem->iA,length_flatMap->iD,any_eq_true->iM,getElem_map->iO,range_succ_eq_map->iU,find?_eq_none->iZ,find?_cons->ie,countP_eq_length_filter->ip,take_append_drop->jF,concat_eq_append->jG,flatten_cons->jJ,flatMap_cons->jN,take_succ->jU,getElem_inj->jV,toArray->jX,pairwise_iff_getElem->j6,mem_of_find?_eq_some->j7,drop_eq_getElem_cons->j8,mem_map_of_mem->jc,of_mem_zip->jo,sum_append->jq,find?_some->jt,take_left'->ju,mem_filterMap->jx,filterMap_map->jz,map_id->kG,map_nil->kJ,take_add_one->kO,length_pos_of_mem->kT,eq_nil_or_concat->kc,all_cons->kq,mem_iff_getElem->lM,length_nil->lT,range_succ->lZ,all_map->mC,getElem_range->mR,getElem?_zip_eq_some->mV,foldl_append->m6,range'->mh,mem_range'_1->mj,getElem?_take_of_lt->mw,set_eq_of_length_le->my,filterMap_cons_some->nB,idxOf_lt_length_iff->nE,map_take->nF,eraseIdx_cons_succ->nM,getElem?_cons_succ->nO,pairwise_mergeSort->nP,cons_append->nZ,countP_cons->n6,pairwise_lt_range->oH,nil_append->oP,perm_cons_erase->pJ,getElem_toArray->pM,mapM_cons->pQ,mergeSort_perm->p0,filter_eq_self->p9,any_cons->pw,map_drop->qD,getElem?_drop->qH,map_inj_right->qJ,map_filterMap->qM,getElem_idxOf->qS,mem_replicate->qX,filter_append->qY,ne_nil_of_mem->qZ,idxOf_append->rF,map_set->rK,perm_middle->rV,map_flatMap->r0,filter->rq,countP_map->sE,foldl->sV,take_zero->sZ,drop_zero->sx,take_nil->tG,drop_nil->tH
open Nat renaming le_refl->aZ,lt_of_lt_of_le->ar,ne_of_lt->ay,le_trans->cA,lt_irrefl->cO,zero_le->dH,le_of_lt->eK,lt_succ_of_lt->eY,ne_of_gt->gG,le_add_right->gZ,lt_of_le_of_lt->g6,lt_succ_self->iK,zero_add->jW,min_eq_left->js,min_eq_right->kf,le_succ->lI,mul_le_mul_right->lQ,add_zero->lu,mul_le_mul->mS,add_le_add_left->pY,add_left_cancel->pZ,mod_lt->qN,le_succ_of_le->qt,mod_eq_of_lt->rZ,zero_lt_one->sG
open Option.some renaming inj->bG,injEq->m7
open Array renaming length_toList->bJ,getElem?_eq_some_iff->cL,getElem?_toList->dG,getElem?_eq_getElem->dY,toList_append->fg,getD_eq_getD_getElem?->gW,getElem_toList->gx,getElem?_eq_none->iR,mem_toList_iff->jO,toList_push->kM,toArray_toList->lO,toList_extract->lP,replicate->lX,find?_toList->mK,getD->mQ,toList_filterMap->oJ,size_map->pI,foldl_toList->qR,forIn_toList->qW,toList_inj->rQ,toList->tR
open Ne renaming symm->bN
open PySem.Value renaming ref->bp,none->fQ,int->gM,type->jv,bool->n9,str->rM,isStrOf->tE
open PySem.F renaming plainAttrs_list->bq,slot_list_append->dD,type_list_append->dE,args_tuple_add_2->jh,entry_tuple_add->kC,slot_tuple_add->kI,slot_list_extend->nG,type_list_extend->nH,slot_set_iter->o8
open PyProof.Rows renaming callWith_type1->br,callWith_builtin1->eM,seqObj->fF,step_dedup->gO,slot_tuple_getitem->iC,envOfC->jE,IntsAre->jI,AllBare->mW,listUpdate_at->nA,subscriptTail_builtinR->oB,entry_list_sort->oW,slot_list_sort->pE,args_list_sort->pH,Constant_none->ph,size_push'->qK,listItems_at->qu,plain_sorted->qv,entry_sorted->qw,args_sorted1->qx,kind_sorted->rj,seqEpoch_at->rk,IsTup->sL,Call_->sP,boot_range->sQ,Subscript_->sT,step_dedup->sk
open PySem.SetTable renaming below->bx,insertAt->cD,bits->dC,runEnd->dN,turns->eJ,has->fC,leap->gX,advance->iN,slot->jB,layClean->jM,Probe->jS,fill->jn,sizeAbove->kB,tooFull->kh,laid->ky,fits->lC,freeSlot->m8,grown->pN,probeStart->p7,orStandIn->qL,fresh->s9,probe->sj,put->tW
open True renaming intro->cE
open PySem.Obj renaming data_mapFields->cH,mapSeq->eU,isFreed_of_fields->fA,mapFields->gH,cls_mapFields->gp,putSet->kA
open False renaming elim->cR
open PySem.Heap.SameBut renaming update->cU
open PyProof.Rows.F renaming plain_set_update_loop->cV,entry_set_update_loop->eV
open PySem.SetTable.probe renaming go->cZ
open PySem.NameKind renaming free->cj,cell->jA
open PySem.SetTable.layClean renaming free->cz
open Classical renaming byContradiction->eO
open Int renaming le_refl->fM,toNat_natCast->fV,mul_comm->gJ,mul_assoc->gY,neg_mul->iP,emod_lt_of_pos->iY,zero_mul->i6,toNat->jD,mul_zero->jZ,toNat_of_nonneg->ja,mul_left_comm->kZ,mul_le_mul_of_nonneg_right->kj,emod_nonneg->l6,add_zero->mE,add_mul->me,mul_fdiv_cancel_left->nI,one_mul->pR,natAbs_mul->pS,zero_add->qr,lt_trichotomy->rH,mul_add->sA,mul_nonneg->sr
open PySem.Around renaming under_plainId->fO,under->nh,frames_deeper->oj,under_plain->qU
open Sum renaming inl->gU,inr->sI
open PySem.Builtin.Slice renaming slicePlaces->g9,sliceAdjust->mT
open PySem.PyData renaming int->iB,hasDictAll->m9,shownAll->oX,showableAll->qP,depth->rC,depthAll->sC,tuple->tU
open PySem.Calls renaming spliced_cons->iS,spliced_nil->jH,call_function_entry->j4,callWith_builtin->kK,evalArgs_plain->lH,Name_function_global->mH
open PySem.Code renaming quiet_builtin->iV,isFrame->qg
open PySem.Str renaming ofString->iX,empty->pU
open ForInStep renaming yield->i9
open PySem.PassesOwn renaming never->iu
open PySem.SetTable.below renaming go->jK
open PySem.Builtin.Int renaming intBits->j9
open PySem.Builtin.List renaming listTooLong->ji
open List.Perm renaming refl->kR,eq_of_pairwise->mz,swap->se
open PySem.Builtin.ObjectAttr renaming ownThenClass->k8
open PySem.Challenge renaming pw_purseweb_k54_whole_trees_and_still_purse->k9,rw_purseweb_k54_whole_trees_and_still_purse->kd
open PySem.SeqAt.EqAt renaming bool_bool->lN,same->oV,of_refs->qI
open PySem.Builtin.Frozenset renaming updateFrom->lY
open Nat.succ renaming inj->mD
open Or renaming inl->mM,inr->om
open PySem.Builtin.SmallTypes renaming nextOf->mU
open Function renaming comp_def->ma
open PySem.W.WData renaming weightAll->nQ,int->rT
open PySem.SeqAt renaming EqAt->oG
open PySem.Builtin.Dict renaming showsAll->o4
open PySem.W.KF renaming type_class->o7
open List.cons renaming inj->qC
open Sum.inl renaming inj->rh
open PySem.Builtin.Builtins renaming bindParams->sJ
open PySem.SetTable.Met.empty renaming injEq->tI
open PySem.Shared renaming TypeIs->tN,heap->t8
open PyProof.Rows.IsTup renaming new->tO
open Iff renaming rfl->tX
open PySem.IsRange renaming new->tZ
open Prod renaming ext->t6
open PySem.W.KasT renaming ret->tj
open Prod.mk renaming inj->tq
abbrev Iz:=List (List Int)
abbrev Iw:=List Nat
abbrev E1:=List Int
abbrev MI:=List (aM×fH)
abbrev IE:=aG->aN->Prop
abbrev Bp:=bH->Option aG
abbrev E4:=List aG
abbrev Kn:=List bH
abbrev Gc:=List aM
abbrev Fh:=Nat->Nat
abbrev I':=Option aM
abbrev Hf:=Nat->Nat->Nat->Bool
abbrev Fp:=Nat->Int
abbrev Fj:=List bS
abbrev FE:=Array (Int×aG)
abbrev IY:=Option Int
abbrev Dt:=List (bH×aM)
abbrev Dg:=String
abbrev Dk:=List n8
abbrev N_:=Array Nat
abbrev M_:=Array aG
abbrev L_:=List cJ
abbrev L4:=Array (Option aG)
abbrev L3:=Nat->List aM
abbrev L1:=Nat->b7->Prop
abbrev L0:=Int->Int->Int
abbrev Lm:=List (List Nat)
abbrev Le:=List (Nat×Nat×Nat)
abbrev K_:=Nat->aG->Prop
abbrev J_:=Int->Int->Prop
abbrev I_:=List (bH×aG)
abbrev I8:=List Bool
abbrev H_:=aM->Prop
abbrev H8:=Nat->Nat->Int
abbrev Hx:=Array (Option Nat)
abbrev G_:=List (bH×iJ)
abbrev F_:=Option aG
abbrev Fn:=aG->aG->tY aG
abbrev Fd:=Option Bool
abbrev E_:=Nat×Nat×Nat
theorem Be.{u}{c:Prop}{h:Decidable c}(a:c){b:Sort u}{t e:b}:ite c t e=t:=if_pos a
theorem Fb.{u}{c:Prop}{h:Decidable c}(a:Not c){b:Sort u}{t e:b}:ite c t e=e:=if_neg a
noncomputable section
set_option Elab.async false
set_option linter.all false
set_option maxRecDepth 100000
open PySem PySem.Spec PyProof.Rows
namespace _l
abbrev MJ:=Sum Int bH
def Nz:MJ->aG->Bool
 | .inl k,v=>aG.isInt k v
 | .inr x,v=>tE x v
def Ik(w:bU):MJ->Int
 | .inl k=>hashInt k
 | .inr x=>hashStr w x
def Z7:∀{k:MJ}{v:aG},Nz k v=aD->(∃i t,k=gU i/\v=gM i t)\/(∃x t,k=sI x/\v=rM x t)
 | .inl i,v,h=>by let⟨t,e⟩:=aG.isInt_shape h;apply .inl ⟨i,t,rfl,e⟩
 | .inr x,v,h=>by let⟨t,e⟩:=aG.isStrOf_shape h;apply .inr ⟨x,t,rfl,e⟩
def uC(i:Int)(t:tD):Nz (.inl i) (.int i t)=aD:=by simp[Nz,aG.isInt]
def s'(x:bH)(t:tD):Nz (.inr x) (.str x t)=aD:=by simp[Nz,tE]
def Zhc(a b:Int):decide ((gU a:MJ)=gU b)=(a==b):=by grind
def Zhd(a b:bH):decide ((sI a:MJ)=sI b)=decide (a=b):=⋯
def Zhe(a:Int)(b:bH):decide ((gU a:MJ)=sI b)=aC:=decide_eq_false (λq=>nomatch q)
def Zhf(a:bH)(b:Int):decide ((sI a:MJ)=gU b)=aC:=decide_eq_false (λq=>nomatch q)
def F7(prog:bC)(w:bU):pf prog w MJ where
 is:=Nz
 hash:=Ik w
 inj:=λv a b Ff IF=>by
  rcases Z7 Ff with⟨i,t,rfl,rfl⟩ | ⟨x,t,rfl,rfl⟩
  ·rcases Z7 IF with⟨j,u,rfl,e⟩ | ⟨y,u,rfl,e⟩
   ·injection e with Ko _;rw[Ko]
   ·apply nomatch e
  ·rcases Z7 IF with⟨j,u,rfl,e⟩ | ⟨y,u,rfl,e⟩
   ·apply nomatch e
   ·injection e with Ko _;rw[Ko]
 byValue:=λk v h=>by rcases Z7 h with⟨i,t,rfl,rfl⟩ | ⟨x,t,rfl,rfl⟩<;>rfl
 pyHash:=λIU h=>by
  rcases Z7 IU with⟨i,t,rfl,rfl⟩ | ⟨x,t,rfl,rfl⟩
  ·apply wpAny_pyHash_int h
  ·apply wpAny_pyHash_str h
 eqBool:=λFt IU h=>by
  rcases Z7 Ft with⟨i,t,rfl,rfl⟩ | ⟨x,t,rfl,rfl⟩
  ·rcases Z7 IU with⟨j,u,rfl,rfl⟩ | ⟨y,u,rfl,rfl⟩
   ·rw[Zhc] at h;apply wpAny_eqBool_int h
   ·rw[Zhe] at h;apply oG.int_str i t y u _ _ _ _ h
  ·rcases Z7 IU with⟨j,u,rfl,rfl⟩ | ⟨y,u,rfl,rfl⟩
   ·rw[Zhf] at h;apply oG.str_int x t j u _ _ _ _ h
   ·rw[Zhd] at h;apply wpAny_eqBool_str h
 «strs»:=λk x t v h=>by
  rcases Z7 h with⟨i,u,rfl,e⟩ | ⟨y,u,rfl,e⟩
  ·apply nomatch e
  ·injection e with Ko _;subst Ko;cases v<;>rfl
def ZH(prog:bC)(w:bU)(i:Int)(t:tD):(F7 prog w).is (.inl i) (.int i t)=aD:=uC i t
def Qr(prog:bC)(w:bU)(x:bH)(t:tD):(F7 prog w).is (.inr x) (.str x t)=aD:=s' x t
inductive V where
 | IB | Iv (b:Bool) | int (i:Int) | str (x:bH) | F' (b:Array UInt8) | aae (b:UInt64) | ref (a:aM) | ty (n:Dg)
 deriving DecidableEq
noncomputable def RelV:V->aG->Prop
 | .IB,u=>u=fQ
 | .Iv b,u=>u=n9 b
 | .int i,u=>∃t,u=gM i t
 | .str x,u=>∃t,u=rM x t
 | .F' b,u=>∃t,u=aG.bytes b t
 | .aae b,u=>∃t,u=aG.float b t
 | .ref a,u=>u=bp a
 | .ty n,u=>u=jv n
abbrev Bj:List V->List aG->Prop:=Paired RelV
def Bj.length{xs:List V}{a:E4}(r:Bj xs a):la xs=la a:=Paired.length r
def Bj.get:∀{xs:List V}{us:E4}{i:Nat}{x:V},Bj xs us->xs[i]?=aA x->∃u,us[i]?=aA u/\RelV x u
 | _,_,_,_,.nil,e=>by simp at e
 | _,_,0,_,.cons r _,e=>by simp at e;subst e;apply⟨_,rfl,r⟩
 | _,_,i+1,x,.cons _ t,e=>by let⟨u,a,b⟩:=Bj.get (i:=i) (x:=x) t (~~~e);apply⟨u,by simpa using a,b⟩
def Bj.set{x:V}{u:aG}(r:RelV x u):∀{xs:List V}{us:E4}(i:Nat),Bj xs us->Bj (xs.set i x) (us.set i u)
 | _,_,_,.nil=>.nil
 | _,_,0,.cons _ t=>.cons r t
 | _,_,i+1,.cons q t=>.cons q (Bj.set r i t)
def Bj.append:∀{xs ys:List V}{us ws:E4},Bj xs us->Bj ys ws->Bj (xs++ys) (us++ws)
 | _,_,_,_,.nil,s=>s
 | _,_,_,_,.cons r t,s=>.cons r (Bj.append t s)
def Bj.take:∀{xs:List V}{us:E4}(n:Nat),Bj xs us->Bj (xs.take n) (us.take n)
 | _,_,0,_=>.nil
 | _,_,_+1,.nil=>.nil
 | _,_,n+1,.cons r t=>.cons r (Bj.take n t)
def Bj.drop:∀{xs:List V}{us:E4}(n:Nat),Bj xs us->Bj (xs.drop n) (us.drop n)
 | _,_,0,r=>r
 | _,_,_+1,.nil=>.nil
 | _,_,n+1,.cons _ t=>Bj.drop n t
def HX:Option V->Option aG->Prop
 | some v,aA u=>RelV v u
 | none,aB=>True
 | _,_=>False
def KV{κ:Type}:List (κ×V)->List (κ×aG)->Prop:=Paired λ(p:κ×V) (q:κ×aG)=>p.1=q.1/\RelV p.2 q.2
def FH:MJ->V
 | .inl i=>.int i
 | .inr x=>.str x
inductive HO where
 /-- a list -/
 | lst (xs:List V)
 /-- a tuple (never changes) -/
 | tup (xs:List V)
 /-- a dict ab8 keys are ints and texts;one ab8 keys are tuples of ints and texts (Dl empty one is both) -/
 | IK (Bg:List (MJ×V)) | E6 (Bg:List (List MJ×V))
 /-- a set of ints: IS members,IS size -/
 | set (S:Int->Bool) (n:Nat)
 /-- an instance of Dl class at C,IS dict at II,IS attributes -/
 | ins (C II:aM) (fs:List (bH×V))
 /-- Dl dict of Dl instance at x -/
 | own (x:aM)
 /-- Dl dict of an exception -/
 | abe (fs:List (bH×V))
 /-- a bound method,f of x -/
 | met (f x:aM)
 /-- a range object lo,lo+1,.. below E5 -/
 | abf (lo E5:Int)
 /-- a ab9 aca is known to Dl object (Dl aco;a dict while a loop walks it): read,never written while it is acp -/
 | Km (o:fH) (u:HO)
 /-- a code acq table -/
 | Ku (ps:M_)
 /-- any other ab9,by abz is aD of IS one object (a def of acb own: SetO a S n:=HO.ext λh=>..) -/
 | ext (φ:b7->Prop)
abbrev Hp:=aM->Option HO
noncomputable def upd(H:Hp)(a:aM)(o:HO):Hp:=λb=>if b=a then aA o else H b
def a_{H:Hp}{a:aM}{o:HO}:upd H a o a=aA o:=by delta upd;rw[Be rfl]
def a0{H:Hp}{a b:aM}{o:HO}(h:b≠a):upd H a o b=H b:=by delta upd;rw[Fb h]
def Zkq{H:Hp}{a b:aM}{o u:HO}(h:H a=aA o)(h':H b=aA u)(d:o≠u):a≠b:=by grind
def Zh{H:Hp}{a b:aM}{o:HO}(h:H a=aA o)(h':H b=aB):a≠b:=by grind
def Eg(x:bH):Bool:=x=="tree_of" || x=="still_by" || x=="made_of"
def Jh(x:bH):bH:=x++".<locals>."++"<lambda>"
def Hq(o:fH)(q:bH):Prop:=∃vs t,o.data = .fields vs/\vs[1]?=aA (.str q t)
def NS(q:bH)(H:Hp)(ps:E4):Prop:=TriplesOk ps/\∀pos v,mF pos ps=aA v->∃c o,v = .ref c/\H c=aA (.Km o (.own 0))/\Hq o q
def xN{h:b7}{T:aG}{xs:M_}{n:Nat}{o:fH}(e:(h.push {cls:=T,data:=.seq xs n}).get? h.objs.size=aA o):o.dict=aB:=by rw[aV _ rfl] at e;cases e;rfl
section
variable (P:bC) (w:bU)
def NI(H:Hp)(h:b7)(a:aM):HO->Prop
 | .lst xs=>xs.length<=sizeLine/\∃(IS:E4) (n:Nat),Bj xs IS/\h.get? a=aA {cls:=.type "list",data:=.seq IS.toArray n}
 | .tup xs=>(xs.length<=sizeLine/\∀o,h.get? a=aA o->o.dict=aB)/\∃IS:List aG,Bj xs IS/\sL h a IS.toArray
 | .IK Bg=>Bg.length<=sizeLine/\(a==iQ)=aC/\∃vs,KV Bg vs/\h.DictOf (F7 P w) a vs
 | .E6 Bg=>Bg.length<=sizeLine/\(a==iQ)=aC/\∃xs:List (List MJ×aM×aG),
   Paired (λ(p:List MJ×V) (q:List MJ×aM×aG)=>p.1=q.1/\H q.2.1=aA (.tup (p.1.map FH))/\RelV p.2 q.2.2) Bg xs/\
   ∃o Fc ep,h.get? a=aA o/\o.ExactDict/\o.data = .dict Fc ep/\Fc.toList=xs.map (entryOfKey (nJ (F7 P w)))/\(xs.map (·.1)).Nodup
 | .set S n=>h.SetOf (l9 P w) a S n
 | .ins C II fs=>H II=aA (.own a)/\fs.length<=1000/\II≠a/\h.get? a=aA (oN C II)/\
   ∃FF,h.Ns1 II FF/\(∀f,HX (fs.lookup f) (FF f))/\tQ FF (fs.map (·.1))
 | .own _=>∃o,h.get? a=aA o
 | .abe fs=>∃FF,h.Ns1 a FF/\∀f,HX (fs.lookup f) (FF f)
 | .abf lo E5=>∃t u v,h.get? a=aA {cls:=.type "range",data:=.fields #[.int lo t,.int E5 u,.int 1 v]}
 | .Km o u=>h.get? a=aA o/\NI H h a u
 | .Ku ps=>∃(q:bH) (t:tD) (aa2:M_),ps[0]?=aA (.str q t)/\h.get? a=aA {cls:=.none,data:=.fields aa2}/\NS q H aa2.toList
 | .met f x=>h.get? a=aA (PySem.W.methodObj (.ref f) (.ref x))
 | .ext φ=>φ h/\(∃o,h.get? a=aA o)/\∀MH ID:b7,φ MH->(∀o,MH.get? a=aA o->ID.get? a=aA o)->φ ID
def FI(H:Hp)(h:b7):Prop:=∀a o,H a=aA o->NI P w H h a o
end
section
variable {P:bC}{w:bU}{H H':Hp}{h h':b7}{a:aM}{o:HO}
def NI.lt(x:NI P w H h a o):a<h.objs.size:=by
 cases o with
 | lst xs=>let⟨_,_,_,_,e⟩:=x;apply aT e
 | tup xs=>let⟨_,_,_,p⟩:=x;apply p.lt
 | IK Bg=>let⟨_,_,_,_,o,_,_,e,_⟩:=x;apply aT e
 | E6 Bg=>let⟨_,_,_,_,o,_,_,e,_⟩:=x;apply aT e
 | set S n=>let⟨o,_,_,_,e,_⟩:=x;apply aT e
 | ins C II fs=>let⟨_,_,_,e,_⟩:=x;apply aT e
 | own y=>let⟨_,e⟩:=x;apply aT e
 | abe fs=>let⟨_,⟨_,_,_,e,_⟩,_⟩:=x;apply aT e
 | abf lo E5=>let⟨_,_,_,e⟩:=x;apply aT e
 | Km Du u=>let⟨e,_⟩:=x;apply aT e
 | Ku ps=>let⟨_,_,_,_,e,_⟩:=x;apply aT e
 | met f y=>apply aT (show h.get? a=aA _ from x)
 | ext φ=>let⟨_,⟨_,e⟩,_⟩:=x;apply aT e
def Paired.abg{d c:Type}{F G:d->c->Prop}:∀{l₁:List d}{l₂:List c},Paired F l₁ l₂->(∀a b,F a b->G a b)->Paired G l₁ l₂
 | _,_,.nil,_=>.nil
 | _,_,.cons r t,f=>.cons (f _ _ r) (Paired.abg t f)
theorem NI.MP(x:NI P w H h a o)(k:∀b u,(b=a\/H b=aA (.own a))->h.get? b=aA u->h'.get? b=aA u)
  (M:∀b,H b=aA (.own a)->H' b=aA (.own a)) (G:∀b xs,H b=aA (.tup xs)->H' b=aA (.tup xs)) (E:∀b u,H b=aA (.Km u (.own 0))->H' b=aA (.Km u (.own 0))):NI P w H' h' a o:=by
 induction o with
 | lst xs=>let⟨z,s,n,r,e⟩:=x;apply⟨z,s,n,r,k _ _ (.inl rfl) e⟩
 | tup xs=>let⟨z,s,r,g,e,c⟩:=x;apply⟨⟨z.1,λo q=>by rw[k _ _ (.inl rfl) e] at q;cases q;apply z.2 _ e⟩,s,r,g,k _ _ (.inl rfl) e,c⟩
 | IK Bg=>let⟨z,y,vs,r,g,i,ep,e,c⟩:=x;apply⟨z,y,vs,r,g,i,ep,k _ _ (.inl rfl) e,c⟩
 | E6 Bg=>
  let⟨z,y,xs,r,g,i,ep,e,c⟩:=x;apply⟨z,y,xs,Paired.abg r λp q z=>⟨z.1,G _ _ z.2.1,z.2.2⟩,g,i,ep,k _ _ (.inl rfl) e,c⟩
 | set S n=>let⟨g,i,ep,t,e,c⟩:=x;apply⟨g,i,ep,t,k _ _ (.inl rfl) e,c⟩
 | ins C II fs=>
  let⟨d,z,ne,e,m,⟨l,i,ep,j,c⟩,r⟩:=x;apply⟨M _ d,z,ne,k _ _ (.inl rfl) e,m,⟨l,i,ep,k _ _ (.inr d) j,c⟩,r⟩
 | own y=>let⟨g,e⟩:=x;apply⟨g,k _ _ (.inl rfl) e⟩
 | abe fs=>let⟨m,⟨l,i,ep,e,c⟩,r⟩:=x;apply⟨m,⟨l,i,ep,k _ _ (.inl rfl) e,c⟩,r⟩
 | abf lo E5=>let⟨t,u,v,e⟩:=x;apply⟨t,u,v,k _ _ (.inl rfl) e⟩
 | Km g u E2=>let⟨e,q⟩:=x;apply⟨k _ _ (.inl rfl) e,E2 q⟩
 | Ku ps=>
  let⟨q,t,A,B,e,L,D⟩:=x;show⟨q,t,A,B,k a _ (.inl rfl) e,L,λpos v F=>?_⟩;let⟨c,o,I,j,J⟩:=D pos v F;apply⟨c,o,I,E c o j,J⟩
 | met f y=>
  let e:=x;apply k a _ (.inl rfl) e
 | ext φ=>let⟨p,⟨o,e⟩,st⟩:=x;apply⟨st _ _ p λo q=>k _ _ (.inl rfl) q,⟨o,k _ _ (.inl rfl) e⟩,st⟩
def FI.lt(x:FI P w H h)(e:H a=aA o):a<h.objs.size:=(x a o e).lt
def FI.fresh(x:FI P w H h)(e:h.objs.size<=a):H a=aB:=by
 cases q:H a with
 | none=>rfl
 | some u=>apply absurd (ar (x.lt q) e) (cO _)
def FI.kept(x:FI P w H h)(k:∀b u,h.get? b=aA u->h'.get? b=aA u):FI P w H h':=λa o e=>
 (x a o e).MP (λb u _ q=>k b u q) (λ_ q=>q) (λ_ _ q=>q) λ_ _ q=>q
def FI.laid(x:FI P w H h)(k:∀b u,h.get? b=aA u->h'.get? b=aA u)(hp:h.objs.size<=a)(new:NI P w (upd H a o) h' a o):FI P w (upd H a o) h':=λb u e=>by
 let d:=x.fresh hp;by_cases f:b=a
 ·subst f;rw[a_] at e;cases e;apply new
 ·rw[a0 f] at e;apply(x b u e).MP (λc v _ q=>k c v q) (λc q=>by rw[a0 (Zh q d)];apply q) (λc xs q=>by rw[a0 (Zh q d)];apply q) λc u q=>by rw[a0 (Zh q d)];apply q
end
def B3(H:Hp)(a:aM)(u:HO):Prop:=H a=aA u\/∃o,H a=aA (.Km o u)
def B3.ok{P:bC}{w:bU}{H:Hp}{h:b7}{a:aM}{u:HO}(r:B3 H a u)(x:FI P w H h):NI P w H h a u:=by
 rcases r with r | ⟨o,r⟩
 ·apply x a u r
 ·let⟨_,q⟩:=x a _ r;apply q
def DK:Option HO->Prop
 | some (.lst _)=>True
 | some (.IK _)=>True
 | some (.E6 _)=>True
 | some (.set _ _)=>True
 | some (.ins _ _ _)=>True
 | some (.ext _)=>True
 | _=>False
section
variable {P:bC}{w:bU}{H:Hp}{h h':b7}{x e:aM}{Kq:HO}
def FI.write(ok:FI P w H h)(f:DK (H x))(n:e=x\/H e=aA (.own x))(k:∀b u,b≠e->h.get? b=aA u->h'.get? b=aA u)(l:∃u,h'.get? e=aA u)
  (new:NI P w (upd H x Kq) h' x Kq):FI P w (upd H x Kq) h':=λb u q=>by
 let d:∀c y,H c=aA (.own y)->c≠x:=λc y r z=>by subst z;rw[r] at f;apply f
 let g:∀c xs,H c=aA (.tup xs)->c≠x:=λc xs r z=>by subst z;rw[r] at f;apply f
 by_cases j:b=x
 ·subst j;rw[a_] at q;cases q;apply new
 ·rw[a0 j] at q;by_cases a:b=e
  ·let m:H b=aA (.own x):=by
    rcases n with z | z
    ·apply absurd (a.trans z) j
    ·rw[a];apply z
   rw[q] at m;cases m;let⟨v,o⟩:=l;apply⟨v,by rw[a];apply o⟩
  ·show(ok b u q).MP (λc v i r=>k c v ?_ r) (λc r=>by rw[a0 (d c b r)];apply r) (λc xs r=>by rw[a0 (g c xs r)];apply r) λc v r=>by rw[a0 (λz=>by subst z;rw[r] at f;apply f)];apply r
   rcases i with rfl | i
   ·apply a
   ·ext rfl;rcases n with z | z
    ·apply d c b i z
    ·rw[i] at z;cases z;apply j rfl
end
structure Fo(fs ex:Gc)(H H':Hp)(h h':b7):Prop where
 keep:∀b o,h.get? b=aA o->H b=aB->b∉fs->b∉ex->h'.get? b=aA o
 slot:∀b o,h.get? b=aA o->H b=aB->b∈fs->b∉ex->∃Ks,h'.get? b=aA {o with slots:=Ks}
 free:∀b o,h.get? b=aA o->H b=aB->b∉ex->H' b=aB
 there:∀b o,h.get? b=aA o->b∉ex->∃Kq,h'.get? b=aA Kq
 BA:∀b xs,H b=aA (.tup xs)->H' b=aA (.tup xs)
 Dr:∀b o u,H b=aA (.Km o u)->H' b=aA (.Km o u)
 Bw:∀b ps,H b=aA (.Ku ps)->∃more,H' b=aA (.Ku (ps++more))
section
variable {fs fs' ex ex':Gc}{H H1 H2:Hp}{h MH ID h':b7}{a x e:aM}{o:HO}
def Fo.any(u:Fo fs ex H H1 h MH){b:aM}{a:fH}(q:h.get? b=aA a)(n:H b=aB)(c:b∉ex):∃Ks,MH.get? b=aA {a with slots:=Ks}:=by
 by_cases d:b∈fs
 ·apply u.slot b a q n d c
 ·apply⟨a.slots,u.keep b a q n d c⟩
def Fo.kept(k:∀b u,h.get? b=aA u->h'.get? b=aA u):Fo fs ex H H h h':=
 ⟨λb a q _ _ _=>k b a q,λb a q _ _ _=>⟨a.slots,k b a q⟩,λ_ _ _ n _=>n,λb a q _=>⟨a,k b a q⟩,λ_ _ q=>q,λ_ _ _ q=>q,λ_ ps q=>⟨#[],by rw[q];simp⟩⟩
def Fo.refl:Fo fs ex H H h h:=Fo.kept λ_ _ q=>q
def Fo.laid(k:∀b u,h.get? b=aA u->h'.get? b=aA u)(hp:h.objs.size<=a)(c:H a=aB):Fo fs ex H (upd H a o) h h' where
 keep:=λb u q _ _ _=>k b u q
 slot:=λb u q _ _ _=>⟨u.slots,k b u q⟩
 free:=λb u q n _=>by rw[a0 (ay (ar (aT q) hp))];apply n
 there:=λb u q _=>⟨u,k b u q⟩
 BA:=λb xs q=>by rw[a0 (Zh q c)];apply q
 Dr:=λb u xs q=>by rw[a0 (Zh q c)];apply q
 Bw:=λb ps q=>⟨#[],by rw[a0 (Zh q c),q];simp⟩
def Fo.write(c:DK (H x))(j:e=x\/H e=aA (.own x))(k:∀b u,b≠e->h.get? b=aA u->h'.get? b=aA u)(d:∃u,h'.get? e=aA u):Fo fs ex H (upd H x o) h h':=by
 let g:∀b,H b=aB->b≠x:=λb n z=>by subst z;rw[n] at c;apply c
 let i:∀b,H b=aB->b≠e:=λb n z=>by
  subst z;rcases j with r | r
  ·apply g b n r
  ·rw[n] at r;cases r
 let f:∀b u,H b=aA u->¬DK (aA u)->b≠x:=λb u q nm z=>by subst z;rw[q] at c;apply nm c
 show⟨λb u q n _ _=>k b u (i b n) q,λb u q n _ _=>⟨u.slots,k b u (i b n) q⟩,λb u q n _=>by rw[a0 (g b n)];apply n,λb u q _=>?_,
  λb xs q=>by rw[a0 (f b _ q λz=>z)];apply q,λb u xs q=>by rw[a0 (f b _ q λz=>z)];apply q,λb ps q=>⟨#[],by rw[a0 (f b _ q λz=>z),q];simp⟩⟩
 by_cases a:b=e
 ·subst a;apply d
 ·apply⟨u,k b u a q⟩
end
def DY(K:aH)(mg:Bp)(base:b7)(H:Hp):Prop:=∀(q:bH)(c:aM),Eg q=aD->da K (.ref c) q=aD->
 ∃Pt ps t,oh base c Pt/\H Pt=aA (.Ku ps)/\ps[0]?=aA (.str (Jh q) t)/\base.BuiltinsAt mg Pt
def DY.un{K:aH}{mg:Bp}{a:b7}{fs i:Gc}{H e:Hp}{h h':b7}(t:DY K mg a H)(u:Fo fs i H e h h'):DY K mg a e:=λq c k g=>by
 let⟨Pt,ps,tk,l,j,d,m⟩:=t q c k g;let⟨f,o⟩:=u.Bw Pt ps j
 let b:0<ps.size:=by
  cases z:ps.size with
  | zero=>rw[iR ()] at d;cases d
  | succ n=>lia
 apply⟨Pt,_,tk,l,o,by rw[Array.getElem?_append_left b];apply d,m⟩
def LW(h:b7)(H:Hp):List aM:=(aQ h.objs.size).filter λa=>(H a).isSome
def MY(h:b7)(H:Hp):b7:=PySem.W.hideAll h (LW h H)
def hN(h:b7)(H:Hp):(MY h H).objs.size=h.objs.size:=PySem.W.hideAll_size _ _
def Sp{h:b7}{H:Hp}{b:aM}{o:fH}(e:h.get? b=aA o)(n:H b=aB):(MY h H).get? b=aA o:=
 PySem.W.hideAll_get _ e λa=>by let q:=(dM.mp a).2;rw[n] at q;simp at q
def Zct{h:b7}{H:Hp}{b:aM}{o:fH}(e:(MY h H).get? b=aA o):h.get? b=aA o/\H b=aB:=by
 let a:=PySem.W.of_hideAll (LW h H) e;show⟨a,?_⟩
 cases q:H b with
 | none=>rfl
 | some x=>
  let c:b∈LW h H:=dM.mpr ⟨av.mpr (aT a),by simp[q]⟩;let z:(MY h H).get? b=aB:=PySem.W.hideAll_none (LW h H) c;rw[z] at e;cases e
def Iq(g h:b7)(L:aM):List (aM×fH):=(aQ h.objs.size).filterMap λa=>if a=L\/(g.get? a).isSome=aD then aB else(h.get? a).map λo=>(a,o)
noncomputable def tw(g h:b7)(L d:aM):List (aM×fH):=(Iq g h L).filter λp=>decide (p.1≠d)
structure Mod(K:aH)(mg:Bp)(base:b7):Prop where
 aaf:K.In base
 glob:base.Ns bP mg
 blt:∃aaa,base.Ns ng aaa/\∀x:bH,x≠"__name__"->aaa x=dq x
 nolimit:base.NoLimit
 seer:base.NoSeer
structure Cx where
 prog:bC
 w:bU
 K:aH
 mg:bH->Option aG
 base:b7
 A:bX
 N:List bH
 s₀:aN
 H₀:Hp
 env:n8
 outer:List n8
 stack:List n8
 ex:List aM
 fn:bH->Bool
 calm:Bool
 Dp:List (aM×fH)
 Bk:aG->aN->Prop
def DV(l:Dk):List aM:=l.filterMap (·.frame)
abbrev Cx.fs(X:Cx):List aM:=DV X.outer
def Gp(sc:jd)(x:bH):Prop:=sc.names.lookup x=aA .local\/sc.names.lookup x=aA .cell\/sc.names.lookup x=aA .free
def BP(sc:jd)(x:bH):Prop:=sc.names.lookup x=aA .local\/sc.names.lookup x=aA .cell
def GZ(env:n8)(h:b7)(m:Bp)(x:bH)(u:aG):Prop:=
 (env.kindOf x=aA .local/\m x=aA u)\/((env.kindOf x=aA .cell\/env.kindOf x=aA .free)/\∃c,env.cells.lookup x=aA c/\h.IsCell c (aA u))
structure Cx.Ok(X:Cx):Prop where
 mod:Mod X.K X.mg X.base
 kind:X.env.scope.kind = .function
 glob:X.env.globals=bP
 blt:X.env.builtins=ng
 above:⇑X.s₀<=X.env.locals
 inj:∀x y c,X.env.cells.lookup x=aA c->X.env.cells.lookup y=aA c->x=y
 has:∀x,(X.env.kindOf x=aA .cell\/X.env.kindOf x=aA .free)->∃c,X.env.cells.lookup x=aA c
 aag:∀x c,X.fn x=aD->X.env.cells.lookup x=aA c->⇑X.s₀<=c
 hd:X.calm=aD->X.A.handled=aB
 frames:X.A.frames=aA X.stack
 BD:X.stack=X.outer\/(X.stack=X.env::X.outer/\X.env.frame=aA X.env.locals)
 Bs:∀b∈X.ex,b≠X.env.locals/\∀x c,X.env.cells.lookup x=aA c->c≠b
 bs:∀b o,X.base.get? b=aA o->X.s₀.heap.get? b=aA o/\X.H₀ b=aB
 Hg:X.base.objs.size<=⇑X.s₀
 aaq:∀b o,X.base.get? b=aA o->b∉X.ex
 aar:∀b∈X.ex,b∉X.fs
 FA:X.s₀.heap.FunFrames X.base X.outer
 Hj:∀b∈X.fs,X.H₀ b=aB
 tab:DY X.K X.mg X.base X.H₀
 aa3:∀q:bH,X.env.func≠aB->X.env.qual=q++".<locals>."->Eg q=aD->da X.K X.env.code q=aD
structure Inv(X:Cx)(Iu:MI)(U:List (Option V))(H:Hp)(s:aN):Prop where
 ok:X.Ok
 os:s.os=X.s₀.os
 bare:mW s.gens
 base:Fo X.fs X.ex X.H₀ H X.s₀.heap s.heap
 loc:∃m,s.heap.Ns X.env.locals m/\∀(i:Nat)(x:bH)(v:V),X.N[i]?=aA x->U[i]?=aA (aA v)->Gp X.env.scope x->∃u,RelV v u/\GZ X.env s.heap m x u
 cell:∀x c,X.env.cells.lookup x=aA c->∃v,s.heap.IsCell c v
 free:H X.env.locals=aB
 Dq:∀x c,X.env.cells.lookup x=aA c->H c=aB
 pin:∀p∈X.Dp++Iu,s.heap.get? p.1=aA p.2/\H p.1=aB/\p.1≠X.env.locals/\p.1∉X.fs/\∀v,p.2.data≠.cell v
 Bh:FI X.prog X.w H s.heap
 len:la U=X.N.length
section
variable {X:Cx}{Iu:MI}{U:List (Option V)}{H H':Hp}{s:aN}{h':b7}
def Cx.Ok.acd(ok:X.Ok){b:aM}{o:fH}(e:X.base.get? b=aA o):b∉X.fs:=λa=>by let:=(ok.FA.mem a).1;rw[e] at this;cases this
def Inv.bs(I:Inv X Iu U H s):∀b o,X.base.get? b=aA o->s.heap.get? b=aA o/\H b=aB:=λb o e=>
 ⟨I.base.keep b o (I.ok.bs b o e).1 (I.ok.bs b o e).2 (I.ok.acd e) (I.ok.aaq b o e),I.base.free b o (I.ok.bs b o e).1 (I.ok.bs b o e).2 (I.ok.aaq b o e)⟩
theorem Inv.MM(I:Inv X Iu U H s):∀b o,X.base.get? b=aA o->s.heap.get? b=aA o:=λb o e=>(I.bs b o e).1
def Inv.mod(I:Inv X Iu U H s):Mod X.K X.mg X.base:=I.ok.mod
theorem Inv.Fs(I:Inv X Iu U H s):X.K.In s.heap:=I.ok.mod.aaf.keeps I.MM
def Inv.fr(I:Inv X Iu U H s):∃m,Fr X.base X.env.locals s.heap m:=
 let⟨m,a,_⟩:=I.loc
 ⟨m,a,I.MM,cA I.ok.Hg I.ok.above⟩
def Inv.lt(I:Inv X Iu U H s):X.env.locals<⇑s:=let⟨_,a,_⟩:=I.loc;a.lt
theorem Inv.E9(I:Inv X Iu U H s):⇑X.s₀<=⇑s:=cA I.ok.above (eK I.lt)
def Inv.ace(I:Inv X Iu U H s){a:aM}(h:⇑s<=a):a∉X.fs:=λb=>by let⟨_,o,c,_⟩:=I.ok.FA.mem b;apply absurd (ar (aT c) (cA I.E9 h)) (cO _)
theorem Inv.Dv(I:Inv X Iu U H s):∀x c,X.env.cells.lookup x=aA c->c≠X.env.locals:=λx c e z=>by let⟨v,o,f,d⟩:=I.cell x c e;let⟨m,⟨g,h,ep,a,b,_⟩,_⟩:=I.loc;rw[z,a] at f;cases f;rw[b] at d;cases d
theorem Inv.FA(I:Inv X Iu U H s):s.heap.FunFrames X.base X.outer:=by
 let all:∀(l:Dk),(∀b∈DV l,b∈X.fs)->X.s₀.heap.FunFrames X.base l->s.heap.FunFrames X.base l:=by
  ext l
  induction l with
  | nil=>ext _ _;trivial
  | cons env r E2=>
   ext hs g;let⟨h,⟨L,o,a,i,k,f⟩,j⟩:=g;let c:L∈X.fs:=hs L (by delta DV;rw[fZ,a];apply ah);let⟨m,e⟩:=I.base.slot L o k (I.ok.Hj L c) c λz=>I.ok.aar L z c;apply⟨h,⟨L,_,a,i,e,f⟩,E2 (λb d=>hs b (by delta DV;rw[fZ,a];apply aR _ d)) j⟩
 apply all X.outer (λ_ d=>d) I.ok.FA
def Inv.stack(I:Inv X Iu U H s):s.heap.FunFrames X.base X.stack:=by
 rcases I.ok.BD with e | ⟨e,b⟩
 ·rw[e];apply I.FA
 ·rw[e];let⟨m,a,_⟩:=I.loc;show .cons (by rw[I.ok.kind];decide) b a ?_ I.FA;apply fJ (cA I.ok.Hg I.ok.above)
def Inv.aa4(I:Inv X Iu U H s):∀b∈DV X.stack,b∈X.env.locals::X.fs:=λb a=>by
 rcases I.ok.BD with e | ⟨e,c⟩
 ·rw[e] at a;apply aR _ a
 ·rw[e] at a;delta DV at a;rw[fZ,c] at a;apply a
def Inv.aa5(I:Inv X Iu U H s):∀b∈DV X.stack,H b=aB:=λb a=>by
 rcases aW.mp (I.aa4 b a) with e | a
 ·rw[e];apply I.free
 ·let⟨_,o,c,_⟩:=I.ok.FA.mem a;apply I.base.free b o c (I.ok.Hj b a) λz=>I.ok.aar b z a
def Inv.step{R:Array lG}{t':Nat}{T:Drawn}{ch:Gc}(I:Inv X Iu U H s)
  (g:∀b∈ch,(b∈X.ex\/⇑X.s₀<=b)/\b≠X.env.locals/\(∀x c,X.env.cells.lookup x=aA c->c≠b)/\∀p∈X.Dp++Iu,p.1≠b)
  (keep:∀b o,b≠X.env.locals->b∉X.fs->b∉ch->s.heap.get? b=aA o->H b=aB->h'.get? b=aA o)
  (w:∀b o,b≠X.env.locals->b∈X.fs->b∉ch->s.heap.get? b=aA o->H b=aB->∃M,h'.get? b=aA {o with slots:=M}) (free:∀b o,b∉ch->s.heap.get? b=aA o->H b=aB->H' b=aB)
  (y:∀b o,b∉ch->s.heap.get? b=aA o->∃G,h'.get? b=aA G)
  (C:∀b xs,H b=aA (.tup xs)->H' b=aA (.tup xs)) (D:∀b o u,H b=aA (.Km o u)->H' b=aA (.Km o u)) (J:∀b ps,H b=aA (.Ku ps)->∃more,H' b=aA (.Ku (ps++more)))
  (ns:∀m,s.heap.Ns X.env.locals m->h'.Ns X.env.locals m) (O:FI X.prog X.w H' h') (IL:mW R) :
  Inv X Iu U H' {s with heap:=h',gens:=R,drawn:=T,toks:=t'}:=by
 let E:∀b o,X.s₀.heap.get? b=aA o->b≠X.env.locals:=λb o e=>ay (ar (aT e) I.ok.above)
 let j:∀b o,X.s₀.heap.get? b=aA o->b∉X.ex->b∉ch:=λb o e a A=>by
  rcases(g b A).1 with z | z
  ·apply a z
  ·apply absurd (ar (aT e) z) (cO _)
 let h:∀x c,X.env.cells.lookup x=aA c->∀v,s.heap.IsCell c v->h'.IsCell c v:=by
  ext x c e v ⟨o,B,N⟩;let f:=λz=>(g c z).2.2.1 x c e rfl;by_cases Q:c∈X.fs
  ·let⟨M,q⟩:=w c o (I.Dv x c e) Q f B (I.Dq x c e);apply⟨_,q,N⟩
  ·apply⟨o,keep c o (I.Dv x c e) Q f B (I.Dq x c e),N⟩
 show⟨I.ok,I.os,IL,⟨λb o e n A a=>?_,λb o e n A a=>?_,λb o e n a=>?_,λb o e a=>?_,λb xs e=>C b xs (I.base.BA b xs e),λb o xs e=>D b o xs (I.base.Dr b o xs e),λb ps e=>?_⟩,?_,λx c e=>?_,?_,λx c e=>?_,λp hp=>?_,O,I.len⟩
 ·apply keep b o (E b o e) A (j b o e a) (I.base.keep b o e n A a) (I.base.free b o e n a)
 ·let⟨M,t⟩:=I.base.slot b o e n A a;let⟨L,F⟩:=w b _ (E b o e) A (j b o e a) t (I.base.free b o e n a);apply⟨L,F⟩
 ·let⟨G,t⟩:=I.base.there b o e a;apply free b G (j b o e a) t (I.base.free b o e n a)
 ·let⟨G,t⟩:=I.base.there b o e a;apply y b G (j b o e a) t
 ·let⟨S,t⟩:=I.base.Bw b ps e;let⟨abh,F⟩:=J b _ t;apply⟨S++abh,by rw[F,Array.append_assoc]⟩
 ·let⟨m,Z,W⟩:=I.loc;show⟨m,ns m Z,λi x v t F Y=>?_⟩;let⟨u,r,l⟩:=W i x v t F Y;show⟨u,r,?_⟩;rcases l with l | ⟨k,c,e,z⟩
  ·apply .inl l
  ·apply .inr ⟨k,c,e,h x c e _ z⟩
 ·let⟨v,z⟩:=I.cell x c e;apply⟨v,h x c e v z⟩
 ·let⟨m,⟨o,_,_,B,_⟩,_⟩:=I.loc;apply free _ o (λz=>(g _ z).2.1 rfl) B I.free
 ·let⟨v,o,B,N⟩:=I.cell x c e;apply free c o (λz=>(g c z).2.2.1 x c e rfl) B (I.Dq x c e)
 ·let⟨e,n,ne,P,d⟩:=I.pin p hp;let f:=λz=>(g p.1 z).2.2.2 p hp rfl;apply⟨keep p.1 p.2 ne P f e n,free p.1 p.2 f e n,ne,P,d⟩
def Inv.un{t':Nat}(I:Inv X Iu U H s)(u:Fo X.fs [] H H' s.heap h')(d:FI X.prog X.w H' h'):Inv X Iu U H' {s with heap:=h',toks:=t'}:=by
 let⟨m,⟨o,l,ep,g,r⟩,_⟩:=id I.loc;let⟨k,i⟩:=u.any g I.free ⋯
 apply I.step (ch:=[]) (λ_ z=>nomatch z) (λb o _ f _ e n=>u.keep b o e n f ⋯) (λb o _ f _ e n=>u.slot b o e n f ⋯) (λb o _ e n=>u.free b o e n ⋯) (λb o _ e=>u.there b o e ⋯) u.BA u.Dr u.Bw (λq h=>by
  let⟨p,es',c,a,j⟩:=h;rw[g] at a;cases a;apply⟨_,es',c,i,j⟩) d I.bare
def Inv.call{j:Array lG}{t':Nat}{q:Drawn}{ch:Gc}(I:Inv X Iu U H s)(u:Fo (DV X.stack) ch H H' s.heap h')(h:FI X.prog X.w H' h')(v:mW j)
  (f:∀b∈ch,(b∈X.ex\/⇑X.s₀<=b)/\b≠X.env.locals/\(∀x c,X.env.cells.lookup x=aA c->c≠b)/\∀p∈X.Dp++Iu,p.1≠b) :
  Inv X Iu U H' {s with heap:=h',gens:=j,drawn:=q,toks:=t'}:=by
 let⟨m,⟨o,A,ep,k,r⟩,_⟩:=id I.loc;let⟨y,i⟩:=u.any k I.free λz=>(f _ z).2.1 rfl
 apply I.step f (λb o i w a e n=>u.keep b o e n (λz=>(aW.mp (I.aa4 b z)).elim i w) a) (λb o _ _ a e n=>u.any e n a) (λb o a e n=>u.free b o e n a) (λb o a e=>u.there b o e a) u.BA u.Dr u.Bw (λC l=>by
  let⟨B,es',g,d,t⟩:=l;rw[k] at d;cases d;apply⟨_,es',g,i,t⟩) h v
def Inv.turned{t':Nat}{it:aM}(I:Inv X Iu U H s)(k:∀b o,b≠it->s.heap.get? b=aA o->h'.get? b=aA o)(t:H it=aB)(f:it≠X.env.locals)
  (l:it∈X.ex\/⇑X.s₀<=it) (j:∀x c,X.env.cells.lookup x=aA c->c≠it) (h:∀p∈X.Dp++Iu,p.1≠it):Inv X Iu U H {s with heap:=h',toks:=t'}:=by
 let d:∀b u,H b=aA u->b≠it:=λb u e z=>by rw[z,t] at e;cases e
 show I.step (ch:=[it]) (λb w=>?_) (λb o _ _ a e _=>k b o (λz=>a (by simp[z])) e) (λb o _ _ a e _=>⟨o.slots,k b o (λz=>a (by simp[z])) e⟩) (λ_ _ _ _ n=>n)
  (λb o a e=>⟨o,k b o (λz=>a (by simp[z])) e⟩) (λ_ _ e=>e) (λ_ _ _ e=>e) (λb ps e=>⟨#[],by rw[e];simp⟩) (λm g=>?_) (λb u e=>?_) I.bare
 ·let e:b=it:=by simpa using w
  subst e;apply⟨l,f,j,h⟩
 ·let⟨o,i,ep,y,r⟩:=g;apply⟨o,i,ep,k _ o (bN f) y,r⟩
 ·show(I.Bh b u e).MP (λc v a q=>k c v ?_ q) (λ_ q=>q) (λ_ _ q=>q) λ_ _ q=>q;rcases a with z | z
  ·rw[z];apply d b u e
  ·apply d c _ z
def Inv.tok(I:Inv X Iu U H s)(t:Nat):Inv X Iu U H {s with toks:=t}:=I.un Fo.refl I.Bh
def Inv.kept{t':Nat}(I:Inv X Iu U H s)(k:∀b u,s.heap.get? b=aA u->h'.get? b=aA u):Inv X Iu U H {s with heap:=h',toks:=t'}:=I.un (Fo.kept k) (I.Bh.kept k)
def Inv.laid{a:aM}{o:HO}{t':Nat}(I:Inv X Iu U H s)(k:∀b u,s.heap.get? b=aA u->h'.get? b=aA u)(hp:⇑s<=a)(new:NI X.prog X.w (upd H a o) h' a o) :
  Inv X Iu U (upd H a o) {s with heap:=h',toks:=t'}:=I.un (Fo.laid k hp (I.Bh.fresh hp)) (I.Bh.laid k hp new)
def Inv.write{x e:aM}{o:HO}{t':Nat}(I:Inv X Iu U H s)(d:DK (H x))(c:e=x\/H e=aA (.own x))(k:∀b u,b≠e->s.heap.get? b=aA u->h'.get? b=aA u)(a:∃u,h'.get? e=aA u)
  (new:NI X.prog X.w (upd H x o) h' x o):Inv X Iu U (upd H x o) {s with heap:=h',toks:=t'}:=I.un (Fo.write d c k a) (I.Bh.write d c k a new)
def Inv.weak{a:List (Option V)}(I:Inv X Iu U H s)(e:la a=la U)(w:∀(i:Nat) v,a[i]?=aA (aA v)->U[i]?=aA (aA v)):Inv X Iu a H s:=
 ⟨I.ok,I.os,I.bare,I.base,let⟨m,c,b⟩:=I.loc;⟨m,c,λi x v f d g=>b i x v f (w i v d) g⟩,I.cell,I.free,I.Dq,I.pin,I.Bh,e.trans I.len⟩
def Inv.aat{a:MI}(I:Inv X Iu U H s)(h:∀p∈a,s.heap.get? p.1=aA p.2/\H p.1=aB/\p.1≠X.env.locals/\p.1∉X.fs/\∀v,p.2.data≠.cell v):Inv X a U H s:=
 ⟨I.ok,I.os,I.bare,I.base,I.loc,I.cell,I.free,I.Dq,λp hp=>(ag.mp hp).elim (λz=>I.pin p (aj _ z)) (h p),I.Bh,I.len⟩
def Q7{N:Kn}(c:N.Nodup){i j:Nat}{x:bH}(a:N[i]?=aA x)(b:N[j]?=aA x):i=j:=by let⟨g,d⟩:=aS.mp a;let⟨f,e⟩:=aS.mp b;apply(jV c).mp (d.trans e.symm)
def kx{M:sM}{A:bX}{E:IE}{i:Nat}{x:bH}{v:V}{u:aG}{Q:Unit->aN->Prop}(I:Inv X Iu U H s)(Fw:X.N.Nodup)(S:X.N[i]?=aA x)(t:BP X.env.scope x)(r:RelV v u)
  (h:∀Kl,Inv X Iu (U.set i (aA v)) H Kl->(∃a,cu a s.heap Kl.heap/\(a=X.env.locals\/X.env.cells.lookup x=aA a))->Q .unit Kl) (hf:X.fn x=aD\/X.env.scope.names.lookup x=aA .local|>Pv):ao M A (storeName X.env x u) Q E s:=by
 let⟨m,Fm,Fg⟩:=id I.loc;let P:(X.env.scope.kind==.class || (X.env.scope.kind==.module&&X.env.locals != X.env.globals))=aC:=by rw[I.ok.kind];rfl
 let O:i<la U:=by rw[I.len];apply(aS.mp S).1
 let Dv:=I.Dv
 let f:∀{a:aM}{h':b7},(∃o,s.heap.get? a=aA o/\H a=aB)->cu a s.heap h'->FI X.prog X.w H h':=λ{a h'} Ff hs b Du e=>by
  let⟨_,_,w⟩:=Ff;show(I.Bh b Du e).MP (λc T l q=>(hs.2 c ?_).trans q) (λ_ q=>q) (λ_ _ q=>q) λ_ _ q=>q;ext rfl;rcases l with rfl | l
  ·rw[w] at e;cases e
  ·rw[w] at l;cases l
 rcases t with C | C
 ·show wpAny_storeName_local C Fm (λh' Y hs=>?_) P;let⟨ab0,_,_,hoL,_⟩:=id Fm;show h _ ⟨I.ok,I.os,I.bare,⟨λb o e n G t=>?_,λb o e n G t=>?_,I.base.free,λb o e t=>?_,I.base.BA,I.base.Dr,I.base.Bw⟩,⟨_,Y,λj y BE g B IM=>?_⟩,λy c e=>?_,I.free,I.Dq,λp hp=>?_,f ⟨ab0,hoL,I.free⟩ hs,by simpa using I.len⟩ ⟨_,hs,.inl rfl⟩
  ·apply(hs.2 b (ay (ar (aT e) I.ok.above))).trans (I.base.keep b o e n G t)
  ·let⟨Ks,g⟩:=I.base.slot b o e n G t;apply⟨Ks,(hs.2 b (ay (ar (aT e) I.ok.above))).trans g⟩
  ·let⟨Kq,g⟩:=I.base.there b o e t;apply⟨Kq,(hs.2 b (ay (ar (aT e) I.ok.above))).trans g⟩
  ·by_cases D:j=i
   ·subst D;rw[S] at g;cases g;rw[fR O] at B;cases B;apply⟨u,r,.inl ⟨C,⋯⟩⟩
   ·rw[dW (bN D)] at B;let⟨MV,IW,q⟩:=Fg j y BE g B IM;show⟨MV,IW,?_⟩;rcases q with⟨k,e⟩ | ⟨k,c,e,z⟩
    ·show .inl ⟨k,?_⟩;have:y≠x:=λe=>D (Q7 Fw g (e▸S));simp[this,e]
    ·apply .inr ⟨k,c,e,z.sameBut hs (Dv y c e)⟩
  ·let⟨T,z⟩:=I.cell y c e;apply⟨T,z.sameBut hs (Dv y c e)⟩
  ·let⟨e,n,ne,Z,d⟩:=I.pin p hp;apply⟨(hs.2 p.1 ne).trans e,n,ne,Z,d⟩
 ·let F:X.fn x=aD:=by
   rcases hf with z | z
   ·apply z
   ·rw[z] at C;cases C
  let⟨c,l⟩:=I.ok.has x (.inl C);let⟨T,z⟩:=I.cell x c l;show wpAny_storeName_cell I.ok.kind C l z (λh' L hs=>?_);let⟨IV,R,J⟩:=id z;show h {s with heap:=h'} ⟨I.ok,I.os,I.bare,⟨λb o e n G t=>?_,λb o e n G t=>?_,I.base.free,λb o e t=>?_,I.base.BA,I.base.Dr,I.base.Bw⟩,⟨m,Fm.sameBut hs (bN (Dv x c l)),λj y BE g B IM=>?_⟩,λy W e=>?_,I.free,I.Dq,λp hp=>?_,f ⟨IV,R,I.Dq x c l⟩ hs,by simpa using I.len⟩ ⟨c,hs,.inr l⟩
  ·apply(hs.2 b (ay (ar (aT e) (I.ok.aag x c F l)))).trans (I.base.keep b o e n G t)
  ·let⟨Ks,g⟩:=I.base.slot b o e n G t;apply⟨Ks,(hs.2 b (ay (ar (aT e) (I.ok.aag x c F l)))).trans g⟩
  ·let⟨Kq,g⟩:=I.base.there b o e t;apply⟨Kq,(hs.2 b (ay (ar (aT e) (I.ok.aag x c F l)))).trans g⟩
  ·by_cases D:j=i
   ·subst D;rw[S] at g;cases g;rw[fR O] at B;cases B;apply⟨u,r,.inr ⟨.inl C,c,l,L⟩⟩
   ·rw[dW (bN D)] at B;let⟨MV,IW,q⟩:=Fg j y BE g B IM;show⟨MV,IW,?_⟩;rcases q with q | ⟨k,W,e,aah⟩
    ·apply .inl q
    ·show .inr ⟨k,W,e,aah.sameBut hs ?_⟩;ext rfl;apply D (Q7 Fw g (I.ok.inj _ _ _ e l▸S))
  ·by_cases N:W=c
   ·subst N;apply⟨_,L⟩
   ·let⟨MW,z2⟩:=I.cell y W e;apply⟨MW,z2.sameBut hs N⟩
  ·let⟨e,n,ne,Z,d⟩:=I.pin p hp;show⟨(hs.2 p.1 ?_).trans e,n,ne,Z,d⟩;ext q;rw[q,R] at e;let MR:IV=p.2:=bG e;apply d T (by rw[<-MR];apply J)
def Us{M:sM}{A:bX}{E:IE}{i:Nat}{x:bH}{v:V}{u:aG}{Q:Unit->aN->Prop}(I:Inv X Iu U H s)(b:X.N.Nodup)(f:X.N[i]?=aA x)(c:BP X.env.scope x)(r:RelV v u)
  (h:∀a,Inv X Iu (U.set i (aA v)) H a->Q .unit a) (d:X.fn x=aD\/X.env.scope.names.lookup x=aA .local|>Pv):ao M A (storeName X.env x u) Q E s:=
 kx I b f c r (λa e _=>h a e) d
def Inv.abi{a:aN}{ch:Gc}(I:Inv X Iu U H s)(h:a.os=s.os)(u:Fo (DV X.stack) ch H H' s.heap a.heap)(f:FI X.prog X.w H' a.heap)(g:mW a.gens)
  (d:∀b∈ch,(b∈X.ex\/⇑X.s₀<=b)/\b≠X.env.locals/\(∀x c,X.env.cells.lookup x=aA c->c≠b)/\∀p∈X.Dp++Iu,p.1≠b):Inv X Iu U H' a:=by
 let⟨h',j,k,t',i⟩:=a;let e:=h;subst e;apply I.call u f g d
end
abbrev Kp:=aG->Option aM->Hp->Prop
abbrev St:=List (Option V)
abbrev IG:=V->Hp->Prop
abbrev TE:=St->Hp->IG->Prop
abbrev TT:=St->Hp->(Bool->Hp->Prop)->Prop
abbrev De:=St->Hp->(List V->Hp->Prop)->Prop
structure B5 where
 IA:St->Hp->Prop
 E7:IG
 MM:St->Hp->Prop:=λ_ _=>False
 Bi:St->Hp->Prop:=λ_ _=>False
abbrev Di:=B5->St->Hp->Prop
def EP(X:Cx)(Iu:MI)(U:St)(Q:IG)(u:aG)(Kl:aN):Prop:=∃v H',Inv X Iu U H' Kl/\RelV v u/\Q v H'
def Ma(X:Cx)(Iu:MI)(U:St)(Q:Bool->Hp->Prop)(b:Bool)(Kl:aN):Prop:=∃H',Inv X Iu U H' Kl/\Q b H'
def AP(X:Cx)(Iu:MI)(U:St)(Q:List V->Hp->Prop)(us:E4)(Kl:aN):Prop:=∃vs H',Inv X Iu U H' Kl/\Bj vs us/\Q vs H'
def Ei(X:Cx)(Iu:MI)(D:B5)(f:Flow)(Kl:aN):Prop:=
 match f with
 | .next=>∃Fe H',Inv X Iu Fe H' Kl/\D.IA Fe H'
 | .brk=>∃Fe H',Inv X Iu Fe H' Kl/\D.MM Fe H'
 | .cont=>∃Fe H',Inv X Iu Fe H' Kl/\D.Bi Fe H'
 | .ret u=>∃v Fe H',Inv X Iu Fe H' Kl/\RelV v u/\D.E7 v H'
def DC(X:Cx)(e:bS)(t:TE):Prop:=
 ∀(Iu:MI)(s:aN)(U:St)(H:Hp)(Q:IG),Inv X Iu U H s->t U H Q->ao (model X.prog X.w) X.A (eval e X.env) (EP X Iu U Q) X.Bk s
def NJ(X:Cx)(e:bS)(t:TT):Prop:=
 ∀(Iu:MI)(s:aN)(U:St)(H:Hp)(Q:Bool->Hp->Prop),Inv X Iu U H s->t U H Q->ao (model X.prog X.w) X.A (qF e X.env (eval e X.env)) (Ma X Iu U Q) X.Bk s
noncomputable def PW(X:Cx)(e:bS)(t:TT):Prop:=
 ∀(whole:tY aG)(Iu:MI)(s:aN)(U:St)(H:Hp)(Q:Bool->Hp->Prop),Inv X Iu U H s->t U H Q->ao (model X.prog X.w) X.A (qF e X.env whole) (Ma X Iu U Q) X.Bk s
def PW.pt{X:Cx}{e:bS}{t:TT}(h:PW X e t):NJ X e t:=h _
def M8(X:Cx)(Fc:Fj)(t:De):Prop:=
 ∀(pos:gy)(Iu:MI)(s:aN)(U:St)(H:Hp)(Q:List V->Hp->Prop),Inv X Iu U H s->t U H Q->ao (model X.prog X.w) X.A (spliced (cQ pos (aL Fc X.env))) (AP X Iu U Q) X.Bk s
def Df(X:Cx)(st:cJ)(t:Di):Prop:=
 ∀(Iu:MI)(s:aN)(U:St)(H:Hp)(D:B5),Inv X Iu U H s->t D U H->ao (model X.prog X.w) X.A (exec st X.env) (Ei X Iu D) X.Bk s
def KJ(X:Cx)(st:L_)(t:Di):Prop:=
 ∀(Iu:MI)(s:aN)(U:St)(H:Hp)(D:B5),Inv X Iu U H s->t D U H->ao (model X.prog X.w) X.A (execs st X.env) (Ei X Iu D) X.Bk s
def ZV{c:Type}{t:tY c}{Q b:c->aN->Prop}{M:sM}{A:bX}{E:IE}{s:aN}(h:ao M A t Q E s)(d:∀a s,Q a s->b a s):ao M A t b E s:=bQ h d λ_ _ x=>x
section
variable {X:Cx}
def KU(i:Nat):TE:=λU H Q=>∃v,U[i]?=aA (aA v)/\Q v H
def LK(v:V):TE:=λ_ H Q=>Q v H
def Vl{i:Nat}{x:bH}{pos:gy}(n:X.N[i]?=aA x)(o:Gp X.env.scope x)(f:(x==("__debug__" : bH))=aC|>Op)(g:(x==("__classdict__" : bH))=aC|>Op):DC X (.Name x pos) (KU i):=by
 ext q s U H Q I h;let⟨v,e,h⟩:=h;let⟨m,t,p⟩:=I.loc;let⟨u,r,l⟩:=p i x v n e o;let d:EP X q U Q u s:=⟨v,H,I,r,h⟩;rcases l with⟨b,k⟩ | ⟨b,c,j,a⟩
 ·apply sO (wpAny_loadName_local I.ok.kind b t k d) f
 ·rcases b with b | b
  ·apply sO (wpAny_loadName_cell I.ok.kind b j a d) f
  ·apply sO (wpAny_loadName_free I.ok.kind b j a d g) f
def Xk{i j pos}:DC X (.Constant (.int i) j pos) (LK (.int i)):=λ_ _ _ H _ I h=>wpAny_Constant_int ⟨.int i,H,I.tok _,⟨_,rfl⟩,h⟩
def Zks{b j pos}:DC X (.Constant (.bool b) j pos) (LK (.Iv b)):=λ_ _ _ H _ I h=>Constant_bool ⟨.Iv b,H,I,rfl,h⟩
def Ti{j pos}:DC X (.Constant .none j pos) (LK .IB):=λ_ _ _ H _ I h=>ph ⟨.IB,H,I,rfl,h⟩
def Zhg{x j pos}:DC X (.Constant (.str x) j pos) (LK (.str x)):=λ_ _ _ H _ I h=>Calls.Constant_str ⟨.str x,H,I.tok _,⟨_,rfl⟩,h⟩
def Gl(X:Cx)(x:bH):Prop:=X.env.kindOf x=aA .globalImplicit
def Wz{E:IE}{d:MI}{s:aN}{U:St}{H:Hp}{x:bH}{u:aG}{pos:gy}{Q:IE}(I:Inv X d U H s)(c:Gl X x)(a:X.mg x=aA u)(h:Q u s)
  (b:(x==("__debug__" : bH))=aC|>Op):ao (model X.prog X.w) X.A (eval (.Name x pos) X.env) Q E s:=
 mH I.ok.kind c (Calls.loadGlobal_global (by rw[I.ok.glob];apply I.mod.glob.keeps I.MM) a h) b
def Yt{E:IE}{d:MI}{s:aN}{U:St}{H:Hp}{x:bH}{u:aG}{pos:gy}{Q:IE}(I:Inv X d U H s)(i:Gl X x)(a:X.mg x=aB)(b:dq x=aA u)(h:Q u s)
  (g:x≠"__name__"|>Op) (c:(x==("__debug__" : bH))=aC|>Op):ao (model X.prog X.w) X.A (eval (.Name x pos) X.env) Q E s:=by
 let⟨j,f,e⟩:=I.mod.blt;apply mH I.ok.kind i (Calls.loadGlobal_builtin (by rw[I.ok.glob];apply I.mod.glob.keeps I.MM) a (by rw[I.ok.blt];apply f.keeps I.MM) ((e x g).trans b) h) c
def Zcv{x:bH}{v:V}{u:aG}{pos:gy}(d:Gl X x)(a:X.mg x=aB)(e:dq x=aA u)(r:RelV v u)(c:x≠"__name__"|>Op)(b:(x==("__debug__" : bH))=aC|>Op):DC X (.Name x pos) (LK v):=
 λ_ _ _ H _ I h=>Yt I d a e ⟨v,H,I,r,h⟩ c b
variable {a b:bS}{MG IP:TE}{pos:gy}
def AL(X:Cx)(op:r8)(a b:bS)(t:TE):Prop:=
 ∀(Iu:MI)(s:aN)(U:St)(H:Hp)(Q:IG),Inv X Iu U H s->t U H Q->
  ao (model X.prog X.w) X.A (eval a X.env) (λv s₁=>ao (model X.prog X.w) X.A (eval b X.env) (λu s₂=>ao (model X.prog X.w) X.A (dz op v u) (EP X Iu U Q) X.Bk s₂) X.Bk s₁) X.Bk s
def Z3(b:bS){a:r8}(h:a≠.In)(c:a≠.NotIn):dj a b=aC:=by
 let e:(a==r8.In)=aC:=by cases a<;>first | rfl | apply absurd rfl h
 let d:(a==r8.NotIn)=aC:=by cases a<;>first | rfl | apply absurd rfl c
 cases b<;>simp[dj,e,d]
def J1(MG:TE):TE:=λU H Q=>MG U H λx H1=>Q (.Iv (decide (x = .IB))) H1
def GP(MG:TE):TE:=λU H Q=>MG U H λx H1=>Q (.Iv (!decide (x = .IB))) H1
def RelV.ab1{x:V}{v:aG}(r:RelV x v):(v==fQ)=decide (x = .IB):=by
 cases x with
 | IB=>cases r;rfl
 | Iv _=>cases r;rfl
 | int _=>let⟨t,rfl⟩:=r;rfl
 | str _=>let⟨t,rfl⟩:=r;rfl
 | F' _=>let⟨t,rfl⟩:=r;rfl
 | aae _=>let⟨t,rfl⟩:=r;rfl
 | ref _=>cases r;rfl
 | ty _=>cases r;rfl
def Zhh{j pos'}(d:DC X a MG):AL X .Is a (.Constant .none j pos') (J1 MG):=by ext g s U H Q I h;show ZV (d g s U H _ I h) ?_;ext v s1 ⟨x,f,b,c,e⟩;apply ph (is_none_gen ⟨.Iv _,f,b,by rw[c.ab1];rfl,e⟩)
def uZ{j pos'}(d:DC X a MG):AL X .IsNot a (.Constant .none j pos') (GP MG):=by ext g s U H Q I h;show ZV (d g s U H _ I h) ?_;ext v s1 ⟨x,f,b,c,e⟩;apply ph (isnot_none_gen ⟨.Iv _,f,b,by rw[c.ab1];rfl,e⟩)
def Cq(t:TE):TT:=λU H Q=>t U H λx H1=>∃c,x = .Iv c/\Q c H1
def Zhi{c:r8}{t:TE}(h:AL X c a b t)(d:dj c b=aC:=by first | apply Z3 _ ∅ ∅ | rfl):DC X (.Compare a [c] [b] pos) t:=λe s U H Q I f=>wpAny_Compare1 (h e s U H Q I f) d
def YS{f:r8}{t:TE}(h:AL X f a b t)(e:dj f b=aC:=by first | apply Z3 _ ∅ ∅ | rfl):NJ X (.Compare a [f] [b] pos) (Cq t):=by ext j s U H Q I m;show oZ (ZV (h j s U H _ I m) λv s1 e=>ZV e λu s2 l=>ZV l λc o ⟨x,n,i,k,g⟩=>?_) e;let⟨d,rfl,q⟩:=g;cases k;apply dR ⟨n,i,q⟩
def Zhj{e:bS}{t:TE}(h:DC X e t)(i:(∀whole,qF e X.env whole=(do let v <-whole;q9 e.pos;holding [v] (truthy v)))|>Pi):NJ X e (Cq t):=by ext c s U H Q I g;show isTrue_plain (ZV (h c s U H _ I g) λv s1 ⟨x,j,b,f,a⟩=>?_) (i _);let⟨d,rfl,q⟩:=a;cases f;apply dR ⟨j,b,q⟩
variable {MT aa6:TT}{tw:Fj}
def EN(t u:TT):TT:=λU H Q=>t U H λc H1=>if c=aD then u U H1 Q else Q aC H1
noncomputable def ν(t u:TT):TT:=λU H Q=>t U H λc H1=>if c=aD then Q aD H1 else u U H1 Q
def GY(t:TT):TT:=λU H Q=>t U H λc H1=>Q (!c) H1
def Zcw(b:NJ X a MT):PW X (.BoolOp .And [a] pos) MT:=by
 ext f d s U H Q I h;show isTrue_and (ZV (b d s U H Q I h) λc s1 e=>?_)
 cases c with
 | true=>apply isTrue_and_nil e
 | false=>apply e
def Zhk(b:NJ X a MT):PW X (.BoolOp .Or [a] pos) MT:=by
 ext f d s U H Q I h;show isTrue_or (ZV (b d s U H Q I h) λc s1 e=>?_)
 cases c with
 | false=>apply isTrue_or_nil e
 | true=>apply e
def Zhl(i:NJ X a MT)(j:PW X (.BoolOp .And (b::tw) pos) aa6):PW X (.BoolOp .And (a::b::tw) pos) (EN MT aa6):=by
 ext k g s U H Q I h;show isTrue_and (ZV (i g s U H _ I h) λc s1 ⟨f,d,e⟩=>?_)
 cases c with
 | true=>apply j k g s1 U f Q d e
 | false=>apply⟨f,d,e⟩
def Zkv(i:NJ X a MT)(j:PW X (.BoolOp .Or (b::tw) pos) aa6):PW X (.BoolOp .Or (a::b::tw) pos) (ν MT aa6):=by
 ext k g s U H Q I h;show isTrue_or (ZV (i g s U H _ I h) λc s1 ⟨f,d,e⟩=>?_)
 cases c with
 | true=>apply⟨f,d,e⟩
 | false=>apply j k g s1 U f Q d e
def Zhm(b:NJ X a MT):NJ X (.UnaryOp .Not a pos) (GY MT):=by ext e s U H Q I h;apply isTrue_not (b e s U H (λc d=>Q (!c) d) I h)
def MD(MG IP:TE):TE:=λU H Q=>MG U H λx H1=>∃c,x = .Iv c/\if c=aD then IP U H1 Q else Q (.Iv aC) H1
def EV(MG:TE):TE:=λU H Q=>MG U H λx H1=>∃c,x = .Iv c/\Q (.Iv (!c)) H1
def Zhn{op}{t:TE}(h:DC X a t):DC X (.BoolOp op [a] pos) t:=λb s U H Q I c=>BoolOp_one (h b s U H Q I c)
def Zho(j:DC X a MG)(k:DC X (.BoolOp .And (b::tw) pos) IP):DC X (.BoolOp .And (a::b::tw) pos) (MD MG IP):=by
 ext g s U H Q I h;show BoolOp_and (ZV (j g s U H _ I h) λv s1 ⟨x,f,e,i,d⟩=>?_);let⟨c,rfl,d⟩:=d;cases i;show dR ?_
 cases c with
 | true=>apply k g s1 U f Q e d
 | false=>apply⟨.Iv aC,f,e,rfl,d⟩
def Zhp(f:DC X a MG):DC X (.UnaryOp .Not a pos) (EV MG):=by ext i s U H Q I h;show UnaryOp_ (ZV (f i s U H _ I h) λv s1 ⟨x,g,d,e,b⟩=>?_);let⟨c,rfl,b⟩:=b;cases e;apply not_of (dR ⟨.Iv (!c),g,d,rfl,b⟩)
def GV(t:TT)(MG IP:TE):TE:=λU H Q=>t U H λc H1=>if c=aD then MG U H1 Q else IP U H1 Q
def x1{c:bS}(k:NJ X c MT)(j:DC X a MG)(l:DC X b IP):DC X (.IfExp c a b pos) (GV MT MG IP):=by
 ext e s U H Q I h;show wpAny_IfExp (ZV (k e s U H _ I h) λd s1 ⟨i,f,g⟩=>?_)
 cases d with
 | true=>apply j e s1 U i Q f g
 | false=>apply l e s1 U i Q f g
end
def BZ(K:aH)(H:Hp)(a:aM)(xs:List V):Prop:=
 B3 H a (.lst xs)\/
  ∃(o:fH) (IS:M_) (n:Nat),K.lookup a=aA o/\o.cls = .type "list"/\o.dict=aB/\o.data = .seq IS n/\IS.size<=sizeLine/\Bj xs IS.toList
def DJ(K:aH)(H:Hp)(a:aM)(xs:List V):Prop:=
 B3 H a (.tup xs)\/
  ∃(o:fH) (IS:M_) (n:Nat),K.lookup a=aA o/\o.cls = .type "tuple"/\o.data = .seq IS n/\IS.size<=sizeLine/\Bj xs IS.toList
def C9:aG->Option V
 | .none=>aA .IB
 | .bool b=>aA (.Iv b)
 | .int i _=>aA (.int i)
 | .str x _=>aA (.str x)
 | .bytes b _=>aA (.F' b)
 | .float b _=>aA (.aae b)
 | .ref a=>aA (.ref a)
 | .type n=>aA (.ty n)
 | _=>aB
def RelV.abs{x:V}{u:aG}(r:RelV x u):C9 u=aA x:=by
 cases x with
 | IB=>cases r;rfl
 | Iv _=>cases r;rfl
 | int _=>let⟨t,rfl⟩:=r;rfl
 | str _=>let⟨t,rfl⟩:=r;rfl
 | F' _=>let⟨t,rfl⟩:=r;rfl
 | aae _=>let⟨t,rfl⟩:=r;rfl
 | ref _=>cases r;rfl
 | ty _=>cases r;rfl
def RelV.inj{x y:V}{u:aG}(r:RelV x u)(q:RelV y u):x=y:=bG (r.abs.symm.trans q.abs)
def Bj.inj:∀{xs ys:List V}{us:E4},Bj xs us->Bj ys us->xs=ys
 | _,_,_,.nil,.nil=>rfl
 | _,_,_,.cons r t,.cons IW t'=>by rw[r.inj IW,Bj.inj t t']
section
variable {X:Cx}{Iu:MI}{U:St}{H:Hp}{s:aN}{a:aM}{xs ys:List V}
def BZ.of{K:aH}(h:H a=aA (.lst xs)):BZ K H a xs:=.inl (.inl h)
def DJ.of{K:aH}(h:H a=aA (.tup xs)):DJ K H a xs:=.inl (.inl h)
def Inv.list(I:Inv X Iu U H s)(h:BZ X.K H a xs):∃b:List aG,Bj xs b/\PlainL s.heap a b.toArray/\la xs<=sizeLine:=by
 rcases h with h | ⟨o,b,n,d,f,c,hs,g,r⟩
 ·let⟨z,b,n,r,e⟩:=h.ok I.Bh;apply⟨b,r,⟨_,n,e,rfl,rfl,rfl⟩,z⟩
 ·show⟨b.toList,r,⟨o,n,I.Fs a o d,f,c,by simpa using hs⟩,?_⟩;let e:=r.length;dsimp[bJ] at e
  lia
def Inv.tuple(I:Inv X Iu U H s)(h:DJ X.K H a xs):∃b:List aG,Bj xs b/\sL s.heap a b.toArray/\la xs<=sizeLine:=by
 rcases h with h | ⟨o,b,n,c,d,hs,f,r⟩
 ·let⟨z,b,r,p⟩:=h.ok I.Bh;apply⟨b,r,p,z.1⟩
 ·show⟨b.toList,r,⟨o,I.Fs a o c,d,n,by simpa using hs⟩,?_⟩;let e:=r.length;dsimp[bJ] at e
  lia
def Inv.ab2(I:Inv X Iu U H s)(h:BZ X.K H a xs)(h':BZ X.K H a ys):xs=ys:=by
 let⟨g,r,⟨o,n,e,_,_,d⟩,_⟩:=I.list h;let⟨its',f,⟨i,j,b,_,_,c⟩,_⟩:=I.list h';rw[e] at b;cases b;rw[d] at c;injection c with d1 _
 have:g=its':=by simpa using congrArg tR d1
 subst this;apply r.inj f
def Inv.ab3(I:Inv X Iu U H s)(h:DJ X.K H a xs)(h':DJ X.K H a ys):xs=ys:=by
 let⟨g,r,⟨o,e,_,n,d⟩,_⟩:=I.tuple h;let⟨its',f,⟨i,b,_,j,c⟩,_⟩:=I.tuple h';rw[e] at b;cases b;rw[d] at c;injection c with d1 _
 have:g=its':=by simpa using congrArg tR d1
 subst this;apply r.inj f
end
abbrev Cx.Kr(X:Cx)(E:IE):Cx:={X with Bk:=E}
abbrev Cx.Hb(X:Cx):Cx:=X.Kr λ_ _=>False
theorem Cx.Ok.Kr{X:Cx}(ok:X.Ok)(E:IE):(X.Kr E).Ok:=
 ⟨ok.mod,ok.kind,ok.glob,ok.blt,ok.above,ok.inj,ok.has,ok.aag,ok.hd,ok.frames,ok.BD,ok.Bs,ok.bs,ok.Hg,ok.aaq,ok.aar,ok.FA,ok.Hj,ok.tab,ok.aa3⟩
theorem Cx.Ok.MS{X:Cx}{E:IE}(ok:(X.Kr E).Ok):X.Ok:=
 ⟨ok.mod,ok.kind,ok.glob,ok.blt,ok.above,ok.inj,ok.has,ok.aag,ok.hd,ok.frames,ok.BD,ok.Bs,ok.bs,ok.Hg,ok.aaq,ok.aar,ok.FA,ok.Hj,ok.tab,ok.aa3⟩
section
variable {X:Cx}{Iu:MI}{U:St}{H:Hp}{s:aN}{E:IE}
theorem Inv.Kr(I:Inv X Iu U H s)(E:IE):Inv (X.Kr E) Iu U H s:=⟨I.ok.Kr E,I.os,I.bare,I.base,I.loc,I.cell,I.free,I.Dq,I.pin,I.Bh,I.len⟩
theorem Inv.MS(I:Inv (X.Kr E) Iu U H s):Inv X Iu U H s:=⟨I.ok.MS,I.os,I.bare,I.base,I.loc,I.cell,I.free,I.Dq,I.pin,I.Bh,I.len⟩
theorem Ei.MS{D:B5}{f:Flow}{c:aN}(h:Ei (X.Kr E) Iu D f c):Ei X Iu D f c:=by
 cases f with
 | next=>let⟨a,b,I,q⟩:=h;apply⟨a,b,I.MS,q⟩
 | brk=>let⟨a,b,I,q⟩:=h;apply⟨a,b,I.MS,q⟩
 | cont=>let⟨a,b,I,q⟩:=h;apply⟨a,b,I.MS,q⟩
 | ret u=>let⟨v,a,b,I,r,q⟩:=h;apply⟨v,a,b,I.MS,r,q⟩
theorem KJ.Hb{st:L_}{t:Di}(h:KJ X.Hb st t):KJ X st t:=λa s U H D I b=>
 bQ (h a s U H D (I.Kr _) b) (λ_ _ q=>q.MS) λ_ _ z=>cR z
end
section
variable {X:Cx}{st:cJ}{tw:L_}{t u:Di}{e:bS}{Br:TE}{pos:gy}
def C1:Di:=λD U H=>D.IA U H
def EM(t u:Di):Di:=λD U H=>t {D with IA:=u D} U H
def Zcx:KJ X [] C1:=λ_ _ U H _ I h=>i7 ⟨U,H,I,h⟩
def Q8(g:Df X st t)(d:KJ X tw u):KJ X (st::tw) (EM t u):=by
 ext a s U H D I h;show iG (ZV (g a s U H {D with IA:=u D} I h) λf s1 q=>?_)
 cases f with
 | next=>
  let⟨b,c,e,q⟩:=q;apply d a s1 b c D e q
 | ret v=>apply q
 | brk=>apply q
 | cont=>apply q
def rz(a:Df X st t):KJ X [st] t:=by
 ext b s U H D I h;show iG (ZV (a b s U H D I h) λf s1 q=>?_)
 cases f with
 | next=>apply i7 q
 | ret v=>apply q
 | brk=>apply q
 | cont=>apply q
def Inv.quiet{a:MI}{U:St}{H:Hp}{s:aN}(I:Inv X a U H s):interactive X.env=aC:=by simp[interactive,I.ok.kind]
def NA(Br:TE):Di:=λD U H=>Br U H λ_ H1=>D.IA U H1
def YF(b:DC X e Br)(hs:iH e aB pos.line X.env=pure aC|>On):Df X (.Expr e pos) (NA Br):=by ext f s U H D I h;apply wpAny_Expr_any (ZV (b f s U H _ I h) λv s1 ⟨x,d,a,g,c⟩=>⟨U,d,a,c⟩) I.quiet hs
def Ij(Br:TE):Di:=λD U H=>Br U H D.E7
def PE(b:DC X e Br):Df X (.Return (aA e) pos) (Ij Br):=by ext g s U H D I h;apply wpAny_Return_some (ZV (b g s U H _ I h) λv s1 ⟨x,f,a,c,d⟩=>⟨x,U,f,a,c,d⟩)
def C8(c:TT)(t u:Di):Di:=λD U H=>c U H λb H1=>if b=aD then t D U H1 else u D U H1
def Zgb{c:bS}{a b:L_}{g:TT}(k:NJ X c g)(l:KJ X a t)(m:KJ X b u):Df X (.If c a b pos) (C8 g t u):=by
 ext e s U H D I h;show wpAny_If (ZV (k e s U H _ I h) λd s1 ⟨j,i,f⟩=>?_)
 cases d with
 | true=>apply l e s1 U j D i f
 | false=>apply m e s1 U j D i f
end
abbrev FC:=V->St->Hp->(St->Hp->Prop)->Prop
abbrev aab:=List V->St->Hp->(St->Hp->Prop)->Prop
def Aj(X:Cx)(target:bS)(t:FC):Prop:=
 ∀(Iu:MI)(s:aN)(U:St)(H:Hp)(v:V)(u:aG)(Q:St->Hp->Prop),Inv X Iu U H s->RelV v u->t v U H Q->
  ao (model X.prog X.w) X.A (assign target X.env u) (λ_ Kl=>∃Fe H',Inv X Iu Fe H' Kl/\Q Fe H') X.Bk s
def Gx(X:Cx)(ts:Fj)(t:aab):Prop:=
 ∀(Iu:MI)(s:aN)(U:St)(H:Hp)(vs:List V)(us:E4)(Q:St->Hp->Prop),Inv X Iu U H s->Bj vs us->t vs U H Q->
  ao (model X.prog X.w) X.A (assignInOrder ((mI ts X.env).map (·.2)) us) (λ_ Kl=>∃Fe H',Inv X Iu Fe H' Kl/\Q Fe H') X.Bk s
abbrev Fk:=V->V->V->Hp->(Hp->Prop)->Prop
def EL(X:Cx)(t:Fk):Prop:=
 ∀(Iu:MI)(s:aN)(U:St)(H:Hp)(o i v:V)(aai BG u:aG)(Q:Hp->Prop),Inv X Iu U H s->RelV o aai->RelV i BG->RelV v u->t o i v H Q->
  ao (model X.prog X.w) X.A (setItem aai BG u) (λ_ Kl=>∃H',Inv X Iu U H' Kl/\Q H') X.Bk s
section
variable {X:Cx}{pos:gy}
def H9(i:Nat):FC:=λv U H Q=>Q (U.set i (aA v)) H
def QD{i:Nat}{x:bH}(a:X.N.Nodup)(e:X.N[i]?=aA x)(b:BP X.env.scope x)(c:X.fn x=aD\/X.env.scope.names.lookup x=aA .local|>Pv):Aj X (.Name x pos) (H9 i):=by ext g s U H v u Q I r h;apply wpAny_assign_Name (Us I a e b r (λf d=>⟨_,H,d,h⟩) c)
def CW:aab:=λvs U H Q=>vs=[]/\Q U H
def C0(t:FC)(u:aab):aab:=λvs U H Q=>∃v r,vs=v::r/\t v U H λFe H'=>u r Fe H' Q
def XC:Gx X [] CW:=by ext b s U H vs a Q I r h;let⟨e,h⟩:=h;subst e;cases r;apply assignInOrder_nil ⟨U,H,I,h⟩
def ZE{e:bS}{a:Fj}{t:FC}{u:aab}(i:Aj X e t)(f:Gx X a u)
  (hs:(mI (e::a) X.env).map (·.2)=assign e X.env::(mI a X.env).map (·.2)|>On):Gx X (e::a) (C0 t u):=by
 ext b s U H vs l Q I r h;let⟨v,k,g,h⟩:=h;subst g
 cases r with
 | cons r Dj=>
  rw[hs];show assignInOrder_cons (ZV (i b s U H _ _ _ I r h) λ_ s1 ⟨U1,j,d,c⟩=>?_);apply f b s1 U1 j _ _ Q d Dj c
def J2(K:aH)(n:Nat)(t:aab):FC:=λv U H Q=>∃a xs,v = .ref a/\DJ K H a xs/\xs.length=n/\t xs U H Q
def WU{c:Fj}{k:Nat}{t:aab}{n:Nat}(i:X.calm=aD)(h:Gx X c t)
  (y:(mI c X.env).length=n|>On) (d:(mI c X.env).findIdx? (·.1)=aB|>On):Aj X (.Tuple c k pos) (J2 X.K n t):=by
 ext p s U H v u Q I r f;let⟨a,xs,x,q,m,f⟩:=f;subst x;cases r;let⟨A,g,w,z⟩:=I.tuple q;show assign_Tuple_tuple (I.ok.hd i) w (by simp[y,<-m,g.length]) d λh' j=>?_;let l:=I.kept (t':=s.toks) λb o e=>j b o (ay (aT e)) e;apply h p _ U H xs _ Q l (~~~g) f
def D_(to acf:TE)(t:Fk):FC:=λv U H Q=>to U H λo H1=>acf U H1 λi H2=>t o i v H2 λH3=>Q U H3
def ZK{o i:bS}{e d:TE}{t:Fk}(A:DC X o e)(B:DC X i d)(hs:EL X t)
  (D:∀v,assign (.Subscript o i pos) X.env v=(do
   let a <-holding [v] (eval o X.env);let b <-holding [v,a] (eval i X.env)
   q9 pos
   holding [v,a,b] (setItem a b v)
   release [v,a,b] []):=by ext _;rfl):Aj X (.Subscript o i pos) (D_ e d t):=by
 ext c s U H v u Q I r h;show aE (b9 (ZV (A c s U H _ I h) λa s1 ⟨x,z,j,n,f⟩=>?_));show aE (b9 (ZV (B c s1 U z _ j f) λb s2 ⟨y,l,q,g,w⟩=>?_));show aE (je (aE (b9 (ZV (hs c s2 U l x y v a b u _ q n g r w) λ_ C ⟨m,p,k⟩=>?_))));apply wpAny_release ⟨U,m,p,k⟩
def Ht(Br:TE)(g:FC):Di:=λD U H=>Br U H λx H1=>g x U H1 D.IA
def ZF{a e:bS}{b:TE}{g:FC}(l:DC X e b)(m:Aj X a g)(hs:swapsWithSole [a] e pos.line X.env=pure aC|>On)(k:swappedStores [a] e X.env=pure aB|>On)
  (j:(mI [a] X.env).map (·.2)=[assign a X.env]|>On):Df X (.Assign [a] e pos) (Ht b g):=by
 ext c s U H D I h;show wpAny_Assign_stores (ZV (l c s U H _ I h) λv s1 ⟨x,n,f,i,d⟩=>?_) hs k;rw[j];apply ZV (m c s1 U n x v _ f i d) λ_ s2 q=>q
def Zhs{i:Nat}{x:bH}{e:bS}{a:TE}{pos':gy}(b:X.N.Nodup)(o:X.N[i]?=aA x)(c:BP X.env.scope x)(m:DC X e a)(hs:iH e (aA (.Name x pos')) pos.line X.env=pure aC|>On)(f:X.fn x=aD\/X.env.scope.names.lookup x=aA .local|>Pv) :
  Df X (.Assign [.Name x pos'] e pos) (Ht a (H9 i)):=by
 ext j s U H D I h;show wpAny_Assign_Name (ZV (m j s U H _ I h) λv s1 ⟨y,n,g,k,d⟩=>?_) hs;apply Us g b o c k (λs2 l=>⟨_,n,l,d⟩) f
end
section
variable {X:Cx}{pos:gy}
def EZ(c:TT)(IP:Di):Di:=λD U H=>∃W:Nat->St->Hp->Prop,(∃m,W m U H)/\∀m U H,W m U H->
 c U H λb H1=>if b=aD then ∃N:St->Hp->Prop,(∀Fe H',N Fe H'->∃Bu,Bu<m/\W Bu Fe H')/\IP {D with IA:=N,Bi:=N,MM:=D.IA} U H1 else D.IA U H1
def tr{c:bS}{a:L_}{t:TT}{r:Di}(hp:pT (model X.prog X.w) X.A X.env X.Bk)(z:NJ X c t)(F:KJ X a r):Df X (.While c a [] pos) (EZ t r):=by
 ext m s U H D I h;let⟨W,⟨E,C⟩,d⟩:=h;show wpAny_While (codeAny_whileLoop (λn y=>∃Fe H',Inv X m Fe H' y/\W n Fe H') ?_ E ⟨U,H,I,C⟩);ext n s1 ⟨U1,x,B,A⟩;show gh hp (ZV (z m s1 U1 x _ B (d n U1 x A)) λb s2 ⟨u,w,i⟩=>?_)
 cases b with
 | true=>
  let⟨N,q,i⟩:=i;show gh hp (ZV (F m s2 U1 u _ w i) λf G g=>?_)
  cases f with
  | next=>
   let⟨U3,e,o,k⟩:=g;let⟨p,j,l⟩:=q U3 e k;apply⟨p,j,U3,e,o,l⟩
  | cont=>
   let⟨U3,e,o,k⟩:=g;let⟨p,j,l⟩:=q U3 e k;apply⟨p,j,U3,e,o,l⟩
  | brk=>apply g
  | ret v=>apply g
 | false=>
  apply i7 ⟨U1,u,w,i⟩
end
structure It where
 go:Nat->Hp->Prop
 BF:Nat->Hp->V->Hp->Prop
 stop:Nat->Hp->Prop
def Ap(X:Cx)(Iu:MI)(H:Hp)(b:aM):Prop:=
 H b=aB/\b≠X.env.locals/\b∉X.fs/\(b∈X.ex\/⇑X.s₀<=b)/\(∀x c,X.env.cells.lookup x=aA c->c≠b)/\∀p∈X.Dp++Iu,p.1≠b
def Inv.aac{X:Cx}{f:MI}{U:St}{H d:Hp}{s:aN}{b:aM}(I:Inv X f U H s)(a:⇑s<=b)(g:d b=aB):Ap X f d b:=by
 show⟨g,gG (ar I.lt a),I.ace a,.inr (cA I.E9 a),λx c e z=>?_,λp hp z=>?_⟩
 ·let⟨v,q⟩:=I.cell x c e;apply absurd (ar q.lt (by rw[z];apply a)) (cO _)
 ·apply absurd (ar (aT (I.pin p hp).1) (by rw[z];apply a)) (cO _)
structure M1(P:bC)(w:bU)(K:aH)(IC:bS)(J:It)(Ir:Gc)(it:aM)(Bv:L1):Prop where
 mem:it∈Ir
 obj:∀i h,Bv i h->∀b∈Ir,∃o,h.get? b=aA o/\∀v,o.data≠.cell v
 keep:∀i h h',Bv i h->(∀b∈Ir,∀o,h.get? b=aA o->h'.get? b=aA o)->Bv i h'
 item:∀(X:Cx),X.prog=P->X.w=w->X.K=K->X.calm=aD->∀(i:Nat)(Iu:MI)(s:aN)(U:St)(H:Hp)(E:IE),Inv X Iu U H s->(∀b∈Ir,Ap X Iu H b)->Bv i s.heap->J.go i H->
  ao (model P w) X.A (jw (.ref it)) (λr s1=>∃u,r=aA u/\
   ao (model P w) X.A (oO IC (.ref it) u) (λ_ s2=>∃x H',Inv X Iu U H' s2/\RelV x u/\J.BF i H x H'/\Bv (i+1) s2.heap/\∀b∈Ir,H' b=aB) E s1) E s
 done:∀(X:Cx),X.prog=P->X.w=w->X.K=K->X.calm=aD->∀(i:Nat)(Iu:MI)(s:aN)(U:St)(H:Hp)(E:IE),Inv X Iu U H s->(∀b∈Ir,Ap X Iu H b)->Bv i s.heap->J.stop i H->
  ao (model P w) X.A (jw (.ref it)) (λr s1=>r=aB/\Inv X Iu U H s1) E s
 self:∀(A:bX)(i:Nat)(s:aN)(Q:IE)(E:IE),Bv i s.heap->Q (.ref it) s->ao (model P w) A (mq (.ref it)) Q E s
abbrev TI:=St->Hp->(It->Hp->Prop)->Prop
def EH(X:Cx)(Iu:MI)(U:St)(IC:bS)(R:It->Hp->Prop)(abj:aG)(s2:aN):Prop:=
 ∃(it:aM) (Ir:Gc) (Bv:L1) (J:It) (H':Hp),abj = .ref it/\Inv X Iu U H' s2/\M1 X.prog X.w X.K IC J Ir it Bv/\Bv 0 s2.heap/\(∀b∈Ir,Ap X Iu H' b)/\R J H'
def Aa(X:Cx)(IC iter:bS)(Dm:TI):Prop:=
 ∀(Iu:MI)(s:aN)(U:St)(H:Hp)(R:It->Hp->Prop),Inv X Iu U H s->Dm U H R->
  ao (model X.prog X.w) X.A (eval iter X.env) (λv s1=>ao (model X.prog X.w) X.A (mq v) (EH X Iu U IC R) X.Bk s1) X.Bk s
def PI{M:sM}{A:bX}{E:IE}{s:aN}{b:bS}{it:aM}{u:aG}{o:fH}{n:Dg}{vs:M_}{Q:Unit->aN->Prop}(f:s.heap.get? it=aA o)(e:o.cls = .type n)(c:o.data = .fields vs)
    (d:["enumerate","zip","dict_itemiterator","dict_reverseitemiterator","odict_iterator","itertools.zip_longest","itertools.pairwise"].contains n=aC) (a:Q .unit s):ao M A (oO b (.ref it) u) Q E s:=by
  cases b<;>first
    | apply aJ a
    | (cases u<;>first
        | apply aJ a
        | (show aE (wpAny_load f ?_)
           rw[e,c];change ao M A (if(["enumerate","zip","dict_itemiterator","dict_reverseitemiterator","odict_iterator","itertools.zip_longest","itertools.pairwise"].contains n&&vs[0]?==aA (fE _))=aD then _ else _) Q E s;rw[Fb (by ext h;rw[d] at h;cases h)];apply aJ a))
def Me(K:aH)(a:aM):It:=
 ⟨λi H=>∃xs x,BZ K H a xs/\xs[i]?=aA x,λi H x H'=>H'=H/\∀xs,BZ K H a xs->xs[i]?=aA x,λi H=>∃xs,BZ K H a xs/\xs.length<=i⟩
def Itt(K:aH)(a:aM):It:=
 ⟨λi H=>∃xs x,DJ K H a xs/\xs[i]?=aA x,λi H x H'=>H'=H/\∀xs,DJ K H a xs->xs[i]?=aA x,λi H=>∃xs,DJ K H a xs/\xs.length<=i⟩
def Cn(lo:Int)(n:Nat):It:=⟨λi _=>i<n,λi H x H'=>H'=H/\x = .int (lo+i),λi _=>n<=i⟩
def m2{P:bC}{w:bU}{K:aH}{S:bS}(a it:aM):M1 P w K S (Me K a) [it] it (λi h=>h.IsListIter it a i) where
 mem:=⋯
 obj:=λi h st b f=>by
  let e:b=it:=by simpa using f
  subst e;let⟨o,e,c,d⟩:=st;apply⟨o,e,λv z=>by rw[d] at z;cases z⟩
 keep:=λi h h' st k=>st.at λo e=>k it ⋯ o e
 item:=by ext X C A t F i O s U H E I j st B;subst C A t;let⟨xs,x,l,m⟩:=B;let⟨R,n,p,J⟩:=I.list l;let⟨u,T,W⟩:=n.get m;let⟨y,f1,M,r,D,q⟩:=j it ⋯;show wpAny_pyNext_list_item st p.isList (~~~T) λh' g G=>?_;let L:=I.turned (t':=s.toks) (λb o f e=>(G.2 b f).trans e) y f1 r D q;let⟨o,e,c,d⟩:=id g;apply⟨u,rfl,PI e c d rfl ⟨x,H,L,W,⟨rfl,λys Q=>by rw[I.ab2 Q l];apply m⟩,g,λb f=>(j b f).1⟩⟩
 done:=by ext X C A t F i O s U H E I j st B;subst C A t;let⟨xs,l,m⟩:=B;let⟨R,n,p,J⟩:=I.list l;let⟨y,f1,M,r,D,q⟩:=j it ⋯;let Y:=n.length;apply wpAny_pyNext_list_end (I.ok.hd F) st p.isList (by simp;lia) λh' N=>⟨rfl,I.turned (λb o f e=>N b o f e) y f1 r D q⟩
 self:=λ_ _ _ _ _ st h=>wpAny_pyIter_listiter st h
def Y_{P:bC}{w:bU}{K:aH}{S:bS}(a it:aM):M1 P w K S (Itt K a) [it] it (λi h=>h.IsTupleIter it a i) where
 mem:=⋯
 obj:=λi h st b f=>by
  let e:b=it:=by simpa using f
  subst e;let⟨o,e,c,d⟩:=st;apply⟨o,e,λv z=>by rw[d] at z;cases z⟩
 keep:=λi h h' st k=>st.at λo e=>k it ⋯ o e
 item:=by ext X C A t F i O s U H E I j st B;subst C A t;let⟨xs,x,l,m⟩:=B;let⟨R,n,p,J⟩:=I.tuple l;let⟨u,T,W⟩:=n.get m;let⟨y,f1,M,r,D,q⟩:=j it ⋯;show wpAny_pyNext_tuple_item st (p) (~~~T) λh' g G=>?_;let L:=I.turned (t':=s.toks) (λb o f e=>(G.2 b f).trans e) y f1 r D q;let⟨o,e,c,d⟩:=id g;apply⟨u,rfl,PI e c d rfl ⟨x,H,L,W,⟨rfl,λys Q=>by rw[I.ab3 Q l];apply m⟩,g,λb f=>(j b f).1⟩⟩
 done:=by ext X C A t F i O s U H E I j st B;subst C A t;let⟨xs,l,m⟩:=B;let⟨R,n,p,J⟩:=I.tuple l;let⟨y,f1,M,r,D,q⟩:=j it ⋯;let Y:=n.length;apply wpAny_pyNext_tuple_end (I.ok.hd F) st (p) (by simp;lia) λh' N=>⟨rfl,I.turned (λb o f e=>N b o f e) y f1 r D q⟩
 self:=λ_ _ _ _ _ st h=>wpAny_pyIter_tupleiter st h
def Zb{P:bC}{w:bU}{K:aH}{F:bS}(it:aM)(lo:Int)(n:Nat):M1 P w K F (Cn lo n) [it] it (λi h=>IsRangeIter h it (lo+(i:Nat)*1) ((n:Int)-(i:Nat)) 1) where
 mem:=⋯
 obj:=λi h st b a=>by
  let e:b=it:=by simpa using a
  subst e
  apply⟨_,st,λv z=>by
   let G:=z;cases G⟩
 keep:=λi h h' st k=>k it ⋯ _ st
 item:=by ext X x u r f i q s U H E I d st m;subst x u r;let⟨l,f1,B,j,p,g⟩:=d it ⋯;let W:=Walks.range (prog:=X.prog) (w:=X.w) (I.ok.hd f) it lo 1 n;show W.item i s _ _ m st λv h' tk y c C=>?_;let⟨t,rfl⟩:=y;let A:Inv X q U H {s with heap:=h',toks:=tk}:=I.turned (λb o a e=>C b o (~~~a) e) l f1 j p g;show⟨_,rfl,PI c rfl rfl rfl ⟨.int (lo+i),H,A,⟨t,?_⟩,⟨rfl,rfl⟩,c,λb a=>(d b a).1⟩⟩;rw[Int.mul_one]
 done:=by ext X x u r f i q s U H E I d st m;let⟨l,f1,B,j,p,g⟩:=d it ⋯;apply wpAny_pyNext_range_end (I.ok.hd f) st (by have:n<=i:=m;lia) λh' D=>⟨rfl,I.turned (λb o a e=>D b o a e) l f1 j p g⟩
 self:=λ_ _ _ _ _ st h=>wpAny_pyIter_rangeiter st h
section
variable {X:Cx}{IC:bS}
def EW(K:aH)(Dx:TE):TI:=λU H R=>Dx U H λx H1=>∃a,x = .ref a/\(∃xs,BZ K H1 a xs)/\R (Me K a) H1
def Bb(K:aH)(Dx:TE):TI:=λU H R=>Dx U H λx H1=>∃a,x = .ref a/\(∃xs,DJ K H1 a xs)/\R (Itt K a) H1
def Zcy{l:bS}{d:TE}(g:DC X l d):Aa X IC l (EW X.K d):=by
 ext i s U H R I h;show ZV (g i s U H _ I h) ?_;ext v s1 ⟨x,n,c,j,f⟩;let⟨a,e,⟨xs,k⟩,q⟩:=f;subst e;cases j;let⟨u,r,p,t⟩:=c.list k;show mX p.isList ?_;show⟨⇑s1,[⇑s1],_,_,n,rfl,c.kept λb o e=>aF _ e,m2 a _,⟨_,aV _ rfl,rfl,rfl⟩,λb m=>?_,q⟩;let e:b=⇑s1:=by simpa using m
 subst e;apply c.aac (aZ _) (c.Bh.fresh (aZ _))
def Zhu{l:bS}{d:TE}(g:DC X l d):Aa X IC l (Bb X.K d):=by
 ext i s U H R I h;show ZV (g i s U H _ I h) ?_;ext v s1 ⟨x,n,c,j,f⟩;let⟨a,e,⟨xs,k⟩,q⟩:=f;subst e;cases j;let⟨u,r,p,t⟩:=c.tuple k;show mJ (p) ?_;show⟨⇑s1,[⇑s1],_,_,n,rfl,c.kept λb o e=>aF _ e,Y_ a _,⟨_,aV _ rfl,rfl,rfl⟩,λb m=>?_,q⟩;let e:b=⇑s1:=by simpa using m
 subst e;apply c.aac (aZ _) (c.Bh.fresh (aZ _))
def VS{d:MI}{U:St}{H:Hp}{s:aN}{R:It->Hp->Prop}{E:IE}{lo a:Int}{t u v:tD}{tk:Nat}(I:Inv X d U H s)(j : -(2^62)<=lo)(h:lo<2^62)(f : -(2^62)<=a)(l:a<2^62)
  (q:R (Cn lo (a-lo).toNat) H):ao (model X.prog X.w) X.A (mq (.ref ⇑s)) (EH X d U IC R) E {s with heap:=s.heap.push {cls:=.type "range",data:=.fields #[.int lo t,.int a u,.int 1 v]},toks:=tk}:=by
 show wpAny_pyIter_range (tZ ..) (small_one j h f l) ?_;let c:Inv X d U H {s with heap:=s.heap.push {cls:=.type "range",data:=.fields #[.int lo t,.int a u,.int 1 v]},toks:=tk}:=I.kept λb o e=>aF _ e
 show⟨(s.heap.push {cls:=.type "range",data:=.fields #[.int lo t,.int a u,.int 1 v]}).objs.size,[(s.heap.push {cls:=.type "range",data:=.fields #[.int lo t,.int a u,.int 1 v]}).objs.size],_,_,H,rfl,
  c.kept λb o e=>aF _ e,Zb _ lo (a-lo).toNat,?_,λb k=>?_,q⟩
 ·let i:lo+((0:Nat):Int)*1=lo:=⋯
  let g:(((a-lo).toNat:Nat):Int)-((0:Nat):Int)=km.Range.rangeSize lo a 1:=by rw[rangeSize_one];split<;>lia
  rw[i,g];apply aV _ rfl
 ·let e:b=(s.heap.push {cls:=.type "range",data:=.fields #[.int lo t,.int a u,.int 1 v]}).objs.size:=by simpa using k
  subst e;apply c.aac (aZ _) (c.Bh.fresh (aZ _))
def MF(MG:De):TI:=λU H R=>MG U H λvs H1=>∃j:Int,vs=[.int j]/\-(2^62)<=j/\j<2^62/\R (Cn 0 j.toNat) H1
def ME(MG:De):TI:=λU H R=>MG U H λvs H1=>∃i j:Int,vs=[.int i,.int j]/\(-(2^62)<=i/\i<2^62/\-(2^62)<=j/\j<2^62)/\R (Cn i (j-i).toNat) H1
def hg{a:bS}{c:De}{p pos:gy}(l:Gl X "range")(d:X.mg "range" = aB)(k:M8 X [a] c)(hs:aL [a] X.env=[(aC,eval a X.env)]|>On):Aa X IC (.Call (.Name "range" p) [a] [] pos) (MF c):=by
 ext g s U H R I h;show sP (Yt I l d sQ (br (ZV (k pos g s U H _ I h) λn s1 ⟨vs,o,f,i,b⟩=>?_) hs rfl));let⟨j,e,b,m,q⟩:=b;subst e
 cases i with
 | cons r Dj=>
  cases Dj;let⟨t,rfl⟩:=r;apply call_range_1 (VS f () () b m (~~~q))
def l_{a b:bS}{f:De}{p pos:gy}(v:Gl X "range")(g:X.mg "range" = aB)(u:M8 X [a,b] f)(hs:aL [a,b] X.env=[(aC,eval a X.env),(aC,eval b X.env)]|>On)(c:aL [b] X.env=[(aC,eval b X.env)]|>On) :
  Aa X IC (.Call (.Name "range" p) [a,b] [] pos) (ME f):=by
 ext n s U H R I h;show sP (Yt I v g sQ (br (ZV (u pos n s U H _ I h) λx s1 ⟨vs,y,l,o,d⟩=>?_) (by rw[hs,c]) (by rw[c];rfl)));let⟨i,j,e,⟨d,w,k,m⟩,q⟩:=d;subst e
 cases o with
 | cons r Dj=>
  cases Dj with
  | cons IW Dj=>
   cases Dj;let⟨t,rfl⟩:=r;let⟨t',rfl⟩:=IW;apply call_range_2 (VS l d w k m q)
def CA(Dm:TI)(g:FC)(IP:Di):Di:=λD U H=>Dm U H λJ H1=>∃W:Nat->Nat->St->Hp->Prop,(∃m,W 0 m U H1)/\∀i m U H,W i m U H->
 (J.stop i H/\D.IA U H)\/(J.go i H/\∃N:St->Hp->Prop,(∀Fe H',N Fe H'->∃Bu,Bu<m/\W (i+1) Bu Fe H')/\∀x H',J.BF i H x H'->g x U H' λNB H2=>IP {D with IA:=N,Bi:=N,MM:=D.IA} NB H2)
def Jw(Ir:Gc)(h:b7):List (aM×fH):=Ir.filterMap λb=>(h.get? b).map λo=>(b,o)
def Vs{a:Gc}{h:b7}{b:aM}{o:fH}(c:b∈a)(e:h.get? b=aA o):(b,o)∈Jw a h:=jx.mpr ⟨b,c,by rw[e];rfl⟩
def px{a:Gc}{h:b7}{p:aM×fH}(hp:p∈Jw a h):p.1∈a/\h.get? p.1=aA p.2:=by
 let⟨b,d,e⟩:=jx.mp hp
 cases q:h.get? b with
 | none=>rw[q] at e;cases e
 | some o=>
  rw[q] at e;let c:=bG e;subst c;apply⟨d,q⟩
def Inv.pinned{a:MI}{U:St}{H:Hp}{s:aN}{c:Gc}(I:Inv X a U H s)(h:∀b∈c,Ap X a H b)(k:∀b∈c,∃o,s.heap.get? b=aA o/\∀v,o.data≠.cell v):Inv X (a++Jw c s.heap) U H s:=
 I.aat λp hp=>(ag.mp hp).elim (λz=>I.pin p (bA _ z)) λz=>by let⟨g,e⟩:=px z;let⟨j,f1,i,_⟩:=h p.1 g;let⟨o,f,d⟩:=k p.1 g;rw[e] at f;cases f;apply⟨e,j,f1,i,d⟩
def Inv.aau{a pl:MI}{U:St}{H:Hp}{s:aN}(I:Inv X (a++pl) U H s):Inv X a U H s:=I.aat λp hp=>I.pin p (bA _ (aj _ hp))
def SP{a:bS}{p:L_}{Dm:TI}{g:FC}{Y:Di}{pos:gy}(hp:pT (model X.prog X.w) X.A X.env X.Bk)(S:X.calm=aD)(E5:Aa X IC a Dm)(IL:Aj X IC g)(k:KJ X p Y)
  (hs:(∀x,cY a X.env x=pure x)|>Pi):Df X (.For IC a p [] pos) (CA Dm g Y):=by
 ext t s U H D I h;show wpAny_For (ZV (E5 t s U H _ I h) λv s1 MH=>ZV MH λabj s2 ID=>?_) hs;let⟨it,B,Bv,J,H2,e,I2,T,L,f2,W,⟨m0,aav⟩,z⟩:=ID;subst e
 -- abz stays aD of Dl acr objects through Dl loop
 let l:∀{H':Hp},(∀b∈B,H' b=aB)->∀b∈B,Ap X t H' b:=λFm b k=>⟨Fm b k,(f2 b k).2⟩;show codeAny_forLoop_any (λn Z=>∃i Fe H',Inv X t Fe H' Z/\Bv i Z.heap/\(∀b∈B,H' b=aB)/\W i n Fe H') ?_ m0 ⟨0,U,H2,I2,L,λb k=>(f2 b k).1,aav⟩;ext n s3 ⟨i,U3,F,I3,E,A,abk⟩;rcases z i n U3 F abk with⟨C,aaj⟩ | ⟨go,N,Fw,step⟩
 ·show gh hp (ZV (T.done X rfl rfl rfl S i t s3 U3 F X.Bk I3 (l A) E C) λr s4 ⟨M,I4⟩=>?_);subst M;apply i7 ⟨U3,F,I4,aaj⟩
 ·show gh hp (ZV (T.item X rfl rfl rfl S i t s3 U3 F X.Bk I3 (l A) E go) λr s4 ⟨u,M,Bt⟩=>?_);subst M;show gh hp (ZV Bt λ_ Q ⟨x,R,I5,abl,abm,w,G⟩=>?_);let O:=I5.pinned (l G) (T.obj _ _ w);show gh hp (ZV (IL _ Q U3 R x u _ O abl (step x R abm)) λ_ aa7 ⟨HB,H6,I6,abn⟩=>?_);show gh hp (ZV (k _ aa7 HB H6 _ I6 abn) λf P q=>?_);let again:∀{U7:St}{j:Hp},Inv X (t++Jw B Q.heap) U7 j P->N U7 j->∃m,m<n/\∃i Fe H',Inv X t Fe H' P/\Bv i P.heap/\(∀b∈B,H' b=aB)/\W i m Fe H':=λ{U7 j} c y=>by let⟨Bu,hm,abo⟩:=Fw U7 j y;show⟨Bu,hm,i+1,U7,j,c.aau,T.keep _ _ _ w λb k o e=>(c.pin (b,o) (bA _ (bA _ (Vs k e)))).1,λb k=>?_,abo⟩;let⟨o,e,d⟩:=T.obj _ _ w b k;apply(c.pin (b,o) (bA _ (bA _ (Vs k e)))).2.1
  cases f with
  | next=>let⟨U7,j,c,y⟩:=q;apply again c y
  | cont=>let⟨U7,j,c,y⟩:=q;apply again c y
  | brk=>let⟨U7,j,c,q⟩:=q;apply⟨U7,j,c.aau,q⟩
  | ret v=>let⟨Kv,U7,j,c,acg,q⟩:=q;apply⟨Kv,U7,j,c.aau,acg,q⟩
end
abbrev Dh:=V->V->Hp->IG->Prop
def FL(X:Cx)(f:Fn)(r:Dh):Prop:=
 ∀(Iu:MI)(s:aN)(U:St)(H:Hp)(x y:V)(v u:aG)(Q:IG),Inv X Iu U H s->RelV x v->RelV y u->r x y H Q->
  ao (model X.prog X.w) X.A (f v u) (EP X Iu U Q) X.Bk s
def L'(X:Cx)(f:aG->tY aG)(r:V->Hp->IG->Prop):Prop:=
 ∀(Iu:MI)(s:aN)(U:St)(H:Hp)(x:V)(v:aG)(Q:IG),Inv X Iu U H s->RelV x v->r x H Q->
  ao (model X.prog X.w) X.A (f v) (EP X Iu U Q) X.Bk s
def Ag(X:Cx)(f:aG)(r:List V->Hp->IG->Prop):Prop:=
 ∀(Iu:MI)(s:aN)(U:St)(H:Hp)(xs:List V)(us:E4)(Q:IG),Inv X Iu U H s->Bj xs us->r xs H Q->
  ao (model X.prog X.w) X.A (call f us) (EP X Iu U Q) X.Bk s
def G1(X:Cx)(r:V->Hp->(Bool->Hp->Prop)->Prop):Prop:=
 ∀(Iu:MI)(s:aN)(U:St)(H:Hp)(x:V)(v:aG)(Q:Bool->Hp->Prop),Inv X Iu U H s->RelV x v->r x H Q->
  ao (model X.prog X.w) X.A (truthy v) (Ma X Iu U Q) X.Bk s
def LI(r:Dh)(MG IP:TE):TE:=λU H Q=>MG U H λx H1=>IP U H1 λy H2=>r x y H2 Q
def Mj(r:V->Hp->IG->Prop)(MG:TE):TE:=λU H Q=>MG U H λx H1=>r x H1 Q
def Eo(C:J_)(g:Int->Int->V):Dh:=λx y H Q=>∃i j,x = .int i/\y = .int j/\C i j/\Q (g i j) H
def AE(g:Int->Int->V):Dh:=λx y H Q=>∃i j,x = .int i/\y = .int j/\Q (g i j) H
def EI(g:Int->V):V->Hp->IG->Prop:=λx H Q=>∃i,x = .int i/\Q (g i) H
section
variable {X:Cx}{a b c:bS}{MG IP aak:TE}{pos:gy}
def xV(p:DC X a MG)(q:DC X b IP){g:MI}{s:aN}{U:St}{H:Hp}{R:V->V->Hp->Prop}(I:Inv X g U H s)
  (h:MG U H λx i=>IP U i λy c=>R x y c) {Q:IE}{f:Fn}
  (l:∀v u s2 x y c,Inv X g U c s2->RelV x v->RelV y u->R x y c->ao (model X.prog X.w) X.A (f v u) Q X.Bk s2) :
  ao (model X.prog X.w) X.A (eval a X.env) (λv d=>ao (model X.prog X.w) X.A (eval b X.env) (λu e=>ao (model X.prog X.w) X.A (f v u) Q X.Bk e) X.Bk d) X.Bk s:=by
 show ZV (p g s U H _ I h) ?_;ext v s1 ⟨x,i,m,n,j⟩;show ZV (q g s1 U i _ m j) ?_;ext u s2 ⟨y,c,o,k,r⟩;apply l v u s2 x y c o n k r
def Tr{c:Operator}{r:Dh}(l:FL X (iI c) r)(j:DC X a MG)(k:DC X b IP):DC X (.BinOp a c b pos) (LI r MG IP):=by ext f s U H Q I h;apply wpAny_BinOp (xV j k I h λv u s2 x y g i e d q=>l f s2 U g x y v u Q i e d q)
def Zk6{b:UnaryOp}{r:V->Hp->IG->Prop}(j:L' X (unaryOp b) r)(f:DC X a MG):DC X (.UnaryOp b a pos) (Mj r MG):=by ext c s U H Q I h;apply UnaryOp_ (ZV (f c s U H _ I h) λv s1 ⟨x,i,d,e,g⟩=>j c s1 U i x v Q d e g)
def w6{f:Fn}{C:J_}{g:L0}
  (rule:∀(i j:Int)(t u:tD)(s:aN)(Q:IE)(E:IE),C i j->Q (.int (g i j) s.toks) {s with toks:=s.toks+1}->ao (model X.prog X.w) X.A (f (.int i t) (.int j u)) Q E s) :
  FL X f (Eo C λi j=>.int (g i j)):=by
 ext d s U H x y v u Q I c b h;let⟨i,j,rfl,rfl,a,q⟩:=h;let⟨t,rfl⟩:=c;let⟨t',rfl⟩:=b;apply rule i j t t' s _ _ a ⟨.int (g i j),H,I.tok _,⟨_,rfl⟩,q⟩
def Zk8{f:Fn}{g:L0}
  (rule:∀(i j:Int)(t u:tD)(s:aN)(Q:IE)(E:IE),Q (.int (g i j) s.toks) {s with toks:=s.toks+1}->ao (model X.prog X.w) X.A (f (.int i t) (.int j u)) Q E s) :
  FL X f (AE λi j=>.int (g i j)):=by
 ext c s U H x y v u Q I b a h;let⟨i,j,rfl,rfl,q⟩:=h;let⟨t,rfl⟩:=b;let⟨t',rfl⟩:=a;apply rule i j t t' s _ _ ⟨.int (g i j),H,I.tok _,⟨_,rfl⟩,q⟩
def TY{f:Fn}{g:Int->Int->Bool}
  (rule:∀(i j:Int)(t u:tD)(s:aN)(Q:IE)(E:IE),Q (.bool (g i j)) s->ao (model X.prog X.w) X.A (f (.int i t) (.int j u)) Q E s) :
  FL X f (AE λi j=>.Iv (g i j)):=by
 ext c s U H x y v u Q I b a h;let⟨i,j,rfl,rfl,q⟩:=h;let⟨t,rfl⟩:=b;let⟨t',rfl⟩:=a;apply rule i j t t' s _ _ ⟨.Iv (g i j),H,I,rfl,q⟩
def M4(i j:Int):Prop:=0<j/\j<1073741824
def CZ(i j:Int):Prop:=j≠0/\j.natAbs<1073741824
def EO(i j:Int):Prop:=0<=j/\j<=1000000/\i.natAbs<2^64
def LD(i j:Int):Prop:=(-(2^64)<i/\i<2^64)\/(-(2^64)<j/\j<2^64)
def LD.ok{i j:Int}(h:LD i j):IntMulOk i j:=by
 rcases h with⟨b,a⟩ | ⟨b,a⟩
 ·apply .of_left (intBits_le_64 b a)
 ·apply .of_right (intBits_le_64 b a)
def Zhy:FL X (iI .Add) (AE λi j=>.int (i+j)):=Zk8 λ_ _ _ _ _ _ _ q=>add_int q
def Zhz:FL X (iI .Sub) (AE λi j=>.int (i-j)):=Zk8 λ_ _ _ _ _ _ _ q=>sub_int q
def Zh0:FL X (iI .Mult) (Eo LD λi j=>.int (i*j)):=w6 λ_ _ _ _ _ _ _ a q=>mul_int q a.ok
def Zc1:FL X (iI .FloorDiv) (Eo M4 λi j=>.int (i/j)):=w6 λi j _ _ _ _ _ a q=>by let c:=a.1;let b:=a.2;apply floordiv_int () (by rw[Int.fdiv_eq_ediv_of_nonneg i ()];apply q) (.inl (PyProof.noPylong_small ()))
def Zh1:FL X (iI .Mod) (Eo (λ_ j=>0<j) λi j=>.int (i%j)):=w6 λi j _ _ _ _ _ a q=>by apply mod_int' () (by rw[Int.fmod_eq_emod_of_nonneg i ()];apply q)
def unI{f:aG->tY aG}{g:Int->Int}
  (rule:∀(i:Int)(t:tD)(s:aN)(Q:IE)(E:IE),Q (.int (g i) s.toks) {s with toks:=s.toks+1}->ao (model X.prog X.w) X.A (f (.int i t)) Q E s) :
  L' X f (EI λi=>.int (g i)):=by
 ext b s U H x v Q I a h;let⟨i,rfl,q⟩:=h;let⟨t,rfl⟩:=a;apply rule i t s _ _ ⟨.int (g i),H,I.tok _,⟨_,rfl⟩,q⟩
def Zh2:L' X (unaryOp .USub) (EI λi=>.int (-i)):=unI λ_ _ _ _ _ q=>neg_int q
end
section
variable {X:Cx}{a b c:bS}{MG IP aak:TE}{pos:gy}
def P':FL X (dz .Lt) (AE λi j=>.Iv (decide (i<j))):=TY λ_ _ _ _ _ _ _ q=>lt_int q
def Zgf:FL X (dz .LtE) (AE λi j=>.Iv (decide (i<=j))):=TY λ_ _ _ _ _ _ _ q=>le_int q
def Zgg:FL X (dz .Gt) (AE λi j=>.Iv (decide (j<i))):=TY λ_ _ _ _ _ _ _ q=>gt_int q
def Uu(b:bS){a:r8}(h:a≠.In|>Op)(c:a≠.NotIn|>Op):dj a b=aC:=by
 let e:(a==r8.In)=aC:=by cases a<;>first | rfl | apply absurd rfl h
 let d:(a==r8.NotIn)=aC:=by cases a<;>first | rfl | apply absurd rfl c
 cases b<;>simp[dj,e,d]
def Zc2{c:r8}{r:Dh}(m:FL X (dz c) r)(k:DC X a MG)(l:DC X b IP)(d:dj c b=aC):DC X (.Compare a [c] [b] pos) (LI r MG IP):=by ext g s U H Q I h;apply wpAny_Compare1 (xV k l I h λv u s2 x y i j f e q=>m g s2 U i x y v u Q j f e q) d
def KG(t:TE):TT:=λU H Q=>t U H λx H'=>∃k,x = .Iv k/\Q k H'
def Zc3{f:r8}{r:Dh}(E:FL X (dz f) r)(A:DC X a MG)(B:DC X b IP)(g:dj f b=aC):NJ X (.Compare a [f] [b] pos) (KG (LI r MG IP)):=by
 ext d s U H Q I h
 show oZ (ZV (A d s U H _ I h) λv s1 ⟨x,D,m,q,i⟩=>ZV (B d s1 U D _ m i) λu s2 ⟨y,p,w,j,C⟩=>
  ZV (E d s2 U p x y v u _ w q j C) λc F ⟨z,o,t,l,k,e,n⟩=>?_) g
 subst e;cases l;apply dR ⟨o,t,n⟩
def Hy(r IW:Dh)(MG IP aak:TE):TE:=λU H Q=>MG U H λx H1=>IP U H1 λy H2=>r x y H2 λz H3=>∃k,z = .Iv k/\
 (if k=aD then aak U H3 λaa8 H4=>IW y aa8 H4 Q else Q (.Iv aC) H3)
def dp{j f:r8}{r p:Dh}(W:FL X (dz j) r)(i:FL X (dz f) p)(P:DC X a MG)(R:DC X b IP)(w:DC X c aak)
  (q:rN [j,f] [b,c]=aC|>Re):DC X (.Compare a [j,f] [b,c] pos) (Hy r p MG IP aak):=by
 ext g s U H Q I h
 show Compare_chain (ZV (P g s U H _ I h) λv s1 ⟨x,T,E,J,t⟩=>chain_link (ZV (R g s1 U T _ E t) λu s2 ⟨y,G,M,l,S⟩=>
  ZV (W g s2 U G x y v u _ M J l S) λd L ⟨z,n,o,B,k,e,m⟩=>?_)) q
 subst e;cases B;show dR ?_
 cases k with
 | false=>apply ite_ff ⟨.Iv aC,n,o,rfl,m⟩
 | true=>apply ite_tt (chain_last (ZV (w g L U n _ o m) λD C ⟨N,O,A,Y,F⟩=>i g C U O y N u D Q A l Y F))
def cm{j f:r8}{r p:Dh}(Fu:FL X (dz j) r)(i:FL X (dz f) p)(Ff:DC X a MG)(IF:DC X b IP)(w:DC X c aak)
  (q:rN [j,f] [b,c]=aC|>Re):NJ X (.Compare a [j,f] [b,c] pos) (KG (Hy r p MG IP aak)):=by
 ext g s U H Q I h
 show isTrue_chain (ZV (Ff g s U H _ I h) λv s1 ⟨x,H1,L,S,t⟩=>test_link (ZV (IF g s1 U H1 _ L t) λu s2 ⟨y,R,W,l,Bx⟩=>
  ZV (Fu g s2 U R x y v u _ W S l Bx) λd T ⟨z,n,o,B,k,e,m⟩=>?_)) q
 subst e;cases B;show dR ?_
 cases k with
 | false=>
  let⟨k',J,N⟩:=m;cases J;apply ite_ff ⟨n,o,N⟩
 | true=>
  show ite_tt (test_last (ZV (w g T U n _ o m) λF E ⟨Y,Z,A,abp,P⟩=>ZV (i g E U Z y Y u F _ A l abp P) λaa9 s5 ⟨z2,C,M,D,k2,O,G⟩=>?_));subst O;cases D;apply dR ⟨C,M,G⟩
def GK(K:aH)(x:V)(H:Hp)(k:Bool):Prop:=
 match x with
 | .IB=>k=aC
 | .Iv b=>k=b
 | .int i=>k=(i != 0)
 | .str y=>y.length<=sizeLine/\k=((y.length:Int) != 0)
 | .F' y=>y.size<=sizeLine/\k=((y.size:Int) != 0)
 | .ref p=>(∃xs,BZ K H p xs/\k = !xs.isEmpty)\/(∃xs,DJ K H p xs/\k = !xs.isEmpty)\/∃Bg,H p=aA (.IK Bg)/\k = !Bg.isEmpty
 | _=>False
def Zo{κ:Type}{a:List (κ×V)}{vs:List (κ×aG)}(r:KV a vs):(!vs.isEmpty) = !a.isEmpty:=by cases r<;>rfl
def Q9{xs:List V}{a:E4}(r:Bj xs a):(!a.toArray.isEmpty) = !xs.isEmpty:=by cases r<;>simp
def TP:(sizeLine:Nat)<2^63:=by rw[dF];decide
def Zh3:G1 X (λx H Q=>∃k,GK X.K x H k/\Q k H):=by
 ext o s U H x v Q I d h;let⟨k,e,q⟩:=h;let hs:=dF
 cases x with
 | IB=>
  cases d;let a:=e;subst a;apply truthy_none ⟨H,I,q⟩
 | Iv b=>
  cases d;let a:=e;subst a;apply dR ⟨H,I,q⟩
 | int i=>
  let⟨t,rfl⟩:=d;let a:=e;subst a;apply PySem.P.truthy_int ⟨H,I,q⟩
 | str y=>
  let⟨t,rfl⟩:=d;let⟨l,a⟩:=e;subst a;apply PySem.P.truthy_str () ⟨H,I.tok _,q⟩
 | F' y=>
  let⟨t,rfl⟩:=d;let⟨l,a⟩:=e;subst a;apply PySem.W.truthy_bytes () ⟨H,I.tok _,q⟩
 | ref p=>
  cases d;let a:=e;rcases a with⟨xs,f,a⟩ | ⟨xs,f,a⟩ | ⟨u,f,a⟩
  ·subst a;let⟨n,r,pl,g⟩:=I.list f;let c:=r.length;apply wpAny_truthy_list pl.isList (by dsimp[aU];lia) ⟨H,I.tok _,by rw[Q9 r];apply q⟩
  ·subst a;let⟨n,r,pl,g⟩:=I.tuple f;let c:=r.length;apply truthy_tuple pl (by dsimp[aU];lia) ⟨H,I.tok _,by rw[Q9 r];apply q⟩
  ·subst a;let⟨g,j,vs,r,m⟩:=I.Bh p _ f;let c:=Paired.length r;apply wpAny_truthy_dict j m () ⟨H,I.tok _,by rw[Zo r];apply q⟩
 | _=>apply(e).elim
def ht(f:DC X a MG)(e:∀whole,qF a X.env whole=(do let v <-whole;q9 a.pos;holding [v] (truthy v))) :
  NJ X a (λU H Q=>MG U H λx b=>∃k,GK X.K x b k/\Q k b):=by
 ext c s U H Q I h;apply isTrue_plain (ZV (f c s U H _ I h) λv s1 ⟨x,j,d,g,i⟩=>Zh3 c s1 U j x v Q d g i) (e _)
def W9{x:V}{a:E4}(r:Bj [x] a):∃u,a=[u]/\RelV x u:=by
 cases r with
 | cons aal Hl=>cases Hl;apply⟨_,rfl,aal⟩
def Tp{x y:V}{a:E4}(r:Bj [x,y] a):∃u aa8,a=[u,aa8]/\RelV x u/\RelV y aa8:=by
 cases r with
 | cons aal Hl=>
  cases Hl with
  | cons abq abp=>cases abp;apply⟨_,_,rfl,aal,abq⟩
def s8(b:X.calm=aD):Ag X (.builtin "max") (λxs H Q=>∃i j,xs=[.int i,.int j]/\Q (.int (if j>i then j else i)) H):=by
 ext d s U H xs e Q I r h;let⟨i,j,rfl,q⟩:=h;let⟨u,c,rfl,⟨t,rfl⟩,⟨t',rfl⟩⟩:=Tp r;show max_two_ints (I.ok.hd b) λh' tk k=>⟨_,H,I.kept k,?_,q⟩;by_cases a:j>i
 ·rw[Be a,Be a];apply⟨_,rfl⟩
 ·rw[Fb a,Fb a];apply⟨_,rfl⟩
def Rj(b:X.calm=aD):Ag X (.builtin "min") (λxs H Q=>∃i j,xs=[.int i,.int j]/\Q (.int (if j<i then j else i)) H):=by
 ext d s U H xs e Q I r h;let⟨i,j,rfl,q⟩:=h;let⟨u,c,rfl,⟨t,rfl⟩,⟨t',rfl⟩⟩:=Tp r;show min_two_ints (I.ok.hd b) λh' tk k=>⟨_,H,I.kept k,?_,q⟩;by_cases a:j<i
 ·rw[Be a,Be a];apply⟨_,rfl⟩
 ·rw[Fb a,Fb a];apply⟨_,rfl⟩
def Rk:Ag X (.type "int") (λxs H Q=>(∃i,xs=[.int i]/\Q (.int i) H)\/∃k,xs=[.Iv k]/\Q (.int (if k then 1 else 0)) H):=by
 ext c s U H xs b Q I r h;rcases h with⟨i,rfl,q⟩ | ⟨k,rfl,q⟩
 ·let⟨u,rfl,t,rfl⟩:=W9 r;apply call_int_int ⟨.int i,H,I,⟨_,rfl⟩,q⟩
 ·let⟨u,rfl,a⟩:=W9 r;cases a;apply call_int_bool ⟨.int (if k then 1 else 0),H,I.tok _,⟨_,rfl⟩,q⟩
def CV(K:aH)(x:V)(H:Hp)(n:Nat):Prop:=
 match x with
 | .str y=>y.length<=sizeLine/\n=y.length
 | .F' y=>y.size<=sizeLine/\n=y.size
 | .ref p=>(∃xs,BZ K H p xs/\n=xs.length)\/∃xs,DJ K H p xs/\n=xs.length
 | _=>False
def hy:Ag X (.builtin "len") (λxs H Q=>∃x n,xs=[x]/\CV X.K x H n/\Q (.int n) H):=by
 ext k s U H xs l Q I r h;let⟨x,n,rfl,e,q⟩:=h;let⟨u,rfl,d⟩:=W9 r;let hs:=dF
 cases x with
 | str y=>
  let⟨t,rfl⟩:=d;let⟨i,b⟩:=e;subst b;apply len_str () ⟨.int _,H,I.tok _,⟨_,rfl⟩,q⟩
 | F' y=>
  let⟨t,rfl⟩:=d;let⟨i,b⟩:=e;subst b;apply PySem.W.len_bytes () ⟨.int _,H,I.tok _,⟨_,rfl⟩,q⟩
 | ref p=>
  cases d;let b:=e;rcases b with⟨xs,c,b⟩ | ⟨xs,c,b⟩
  ·subst b;let⟨j,f,pl,g⟩:=I.list c;let a:=f.length;apply Calls.call_len_list pl.isList (by dsimp[aU];lia) ⟨.int xs.length,H,I.tok _,⟨_,by dsimp[aU];rw[a]⟩,q⟩
  ·subst b;let⟨j,f,pl,g⟩:=I.tuple c;let a:=f.length;apply len_tuple pl (by dsimp[aU];lia) ⟨.int xs.length,H,I.tok _,⟨_,by dsimp[aU];rw[a]⟩,q⟩
 | _=>apply(e).elim
end
structure abr(h:b7)(x II C:aM)(FF:Bp):Prop where
 obj:h.get? x=aA (oN C II)
 ns:h.Ns1 II FF
 ne:II≠x
def zo{h:b7}{g:aM}{f:Bp}(n:h.Ns1 g f):∃Dc,h.get? g=aA Dc/\∀b,kH b Dc=aA (f b):=by
 let⟨o,d,ep,p,j,l,_,i⟩:=n;show⟨o,p,λb=>?_⟩;let e:=i b;delta nsFind tS at e;rw[<-mK] at e;delta kH;rw[j]
 dsimp only
 split
 ·rename_i y q;rw[q] at e;apply congrArg aA e
 ·rename_i q;rw[q] at e;let a:d.toList.any (·.refKey)=aC:=by rw[List.any_eq_false];ext y m;let⟨z,t,c⟩:=l y (jO.mp m);simp[DictEntry.refKey,c]
  let k:¬d.toList.any (·.refKey)=aD:=by rw[a];apply bg
  rw[Fb k];apply congrArg aA e
def abr.look{h:b7}{x c C:aM}{b:Bp}(I:abr h x c C b):∃a,fT h x (oN C c) C (aA a)/\∀name,kH name a=aA (b name):=
 let⟨a,e,d⟩:=zo I.ns
 ⟨a,⟨I.obj,rfl,rfl,e⟩,d⟩
def HX.some_of{v:V}{o:F_}(r:HX (aA v) o):∃u,o=aA u/\RelV v u:=by
 cases o with
 | none=>apply(r).elim
 | some u=>apply⟨u,rfl,r⟩
section
variable {P:bC}{w:bU}{H H':Hp}{h h':b7}{a C II:aM}{fs fs':List (bH×V)}
def Zc4(c:FI P w H h)(e:H a=aA (.ins C II fs)):∃b,abr h a II C b/\(∀f,HX (fs.lookup f) (b f))/\tQ b (fs.map (·.1))/\la fs<=1000/\H II=aA (.own a):=by let⟨d,z,ne,g,b,n,r,q⟩:=(c a _ e);apply⟨b,⟨g,n,ne⟩,r,q,z,d⟩
end
structure abt(K:aH)(C:aM):Prop where
 ach:rO K C pU=aD
 hd:PySem.W.hasDictIn K C=aD
 po:PySem.W.plainOver K C=aD
 acs:ba K (.ref C) "__setattr__" = aA (aA (.builtin "object.__setattr__"))
def abt.get{K:aH}{C:aM}(c:abt K C)(f:bH):rO K C f=aD:=c.ach
section
variable {X:Cx}{Iu:MI}{U:St}{H:Hp}{s:aN}{a C II:aM}{fs:List (bH×V)}{f:bH}{v:V}{A:bX}{E:IE}
def Zc5{prog:bC}{w:bU}{env:n8}{e:bS}{f:bH}{pos:gy}{s:aN}{Q:IE}(b:jf e f env (eval e env)=eval e env)
  (h:ao (model prog w) A (eval e env) (λo a=>ao (model prog w) A (getAttr o f aD) Q E a) E s):ao (model prog w) A (eval (.Attribute e f pos) env) Q E s:=
 Attribute_any_ h (by rw[arm_eval_Attribute,b])
end
section
variable {X:Cx}{Iu:MI}{U:St}{H:Hp}{s:aN}{A:bX}{E:IE}{Q:IE}{c:aG}{b:Bool}
inductive IZ(K:aH)(H:Hp):V->aG->Prop where
 | IB:IZ K H .IB (.type "NoneType")
 | Iv (x:Bool):IZ K H (.Iv x) (.type "bool")
 | int (i:Int):IZ K H (.int i) (.type "int")
 | str (x:bH):IZ K H (.str x) (.type "str")
 | aae (x:UInt64):IZ K H (.aae x) (.type "float")
 | lst {a:aM}{xs:List V} (e:H a=aA (.lst xs)):IZ K H (.ref a) (.type "list")
 | Km {a:aM}{o:fH}{xs:List V} (e:H a=aA (.Km o (.lst xs))):IZ K H (.ref a) (.type "list")
 | tup {a:aM}{xs:List V} (e:H a=aA (.tup xs)):IZ K H (.ref a) (.type "tuple")
 | IK {a:aM}{Bg:List (MJ×V)} (e:H a=aA (.IK Bg)):IZ K H (.ref a) (.type "dict")
 | E6 {a:aM}{Bg:List (List MJ×V)} (e:H a=aA (.E6 Bg)):IZ K H (.ref a) (.type "dict")
 | ins {a C II:aM}{fs:List (bH×V)} (e:H a=aA (.ins C II fs)) (cl:abt K C) (Ff:ba K (.ref C) "__class__" = aA (aA (.builtin "object.__class__")))
   (Fm:qc K (.builtin "object.__class__") "__get__" = aA (aA (.builtin "getset_descriptor.__get__"))) (htk:PySem.W.takesIn K (.builtin "object.__class__")=aA aD)
   (hm:kl K C (.type "object")=aA aD):IZ K H (.ref a) (.ref C)
def sz{x:V}{u t:aG}(I:Inv X Iu U H s)(d:RelV x u)(ty:IZ X.K H x t)(e:bT X.K t c=aA b)(h:∀tk,Q (.bool b) {s with toks:=tk}) :
  ao (model X.prog X.w) A (call (.builtin "isinstance") [u,c]) Q E s:=by
 cases ty with
 | IB=>cases (d);apply df PySem.W.kitx_none I.Fs cE e (λz=>nomatch z) h
 | Iv y=>cases (d);apply df PySem.W.kitx_bool I.Fs cE e (λz=>nomatch z) h
 | int i=>let⟨t,q⟩:=(d);cases q;apply df PySem.W.kitx_int I.Fs cE e (λz=>nomatch z) h
 | str y=>let⟨t,q⟩:=(d);cases q;apply df PySem.W.kitx_str I.Fs cE e (λz=>nomatch z) h
 | aae y=>let⟨t,q⟩:=(d);cases q;apply df PySem.W.kitx_float I.Fs cE e (λz=>nomatch z) h
 | @lst a xs ea=>
  cases (d);let⟨_,_,n,_,f⟩:=(I.Bh a _ ea);apply df qd I.Fs ⟨_,f,rfl⟩ e (λz=>nomatch z) h
 | @Km a Du xs ea=>
  cases (d);let⟨_,_,_,n,_,f⟩:=(I.Bh a _ ea);apply df qd I.Fs ⟨_,f,rfl⟩ e (λz=>nomatch z) h
 | @tup a xs ea=>
  cases (d);let⟨_,_,_,p⟩:=(I.Bh a _ ea);let⟨o,f,g,_⟩:=p;apply df PySem.W.kitx_tuple I.Fs ⟨o,f,g⟩ e (λz=>nomatch z) h
 | @IK a Bg ea=>
  cases (d);let⟨_,_,vs,_,p⟩:=(I.Bh a _ ea);let⟨o,j,ep,f,g,_⟩:=p;apply df qf I.Fs ⟨o,f,g.1⟩ e (λz=>nomatch z) h
 | @E6 a Bg ea=>
  cases (d);let⟨_,_,xs,_,o,j,ep,f,g,_⟩:=(I.Bh a _ ea);apply df qf I.Fs ⟨o,f,g.1⟩ e (λz=>nomatch z) h
 | @ins a C II fs ea cl Ff Fm htk hm=>
  cases (d);let⟨l,O,_⟩:=Zc4 I.Bh ea;let⟨k,J,_⟩:=O.look;apply df (PySem.W.kitx_own (cl.get _) cl.hd Ff Fm htk hm) I.Fs J e (λz=>nomatch z) h
end
structure MN(k:Nat)(A:bX):Prop where
 hd:A.handled=aB
 BB:A.depth+3*k+5<recursionLimit
 un:A.units+16*k+200<fu
 NN:A.guards=aA []
def MN.mono{j k:Nat}{A:bX}(r:MN k A)(h:j<=k):MN j A:=⟨r.hd,by let:=r.BB;lia,by let:=r.un;lia,r.NN⟩
def MN.deeper{k:Nat}{A:bX}(r:MN (k+1) A)(env:n8):MN k (A.deeper env):=
 ⟨r.hd,by let:=r.BB;change A.depth+1+3*k+5<_;lia,by let:=r.un;change A.units+3+16*k+200<_;lia,r.NN⟩
def P_{A:bX}{C:aM}{a:E4}{b:I_}:(A.under (.builtin "type.__call__" ⟨.ref C::a,b⟩)).depth=A.depth+1:=by
 first | rfl | simp[nh,Code.weight,Code.isCreation,Code.isGuard,Code.isCaller,Code.frames,qg,guardIds]
def Q_{A:bX}{C:aM}{a:E4}{b:I_}:(A.under (.builtin "type.__call__" ⟨.ref C::a,b⟩)).units=A.units+1:=by
 first | rfl | simp[nh,Code.cUnits,Code.frames,qg]
def MN.make{k:Nat}{A:bX}(r:MN (k+1) A)(C:aM)(a:E4)(b:I_):MN k (A.under (.builtin "type.__call__" ⟨.ref C::a,b⟩)):=
 ⟨r.hd,by let:=r.BB;rw[P_];lia,by let:=r.un;rw[Q_];lia,by first | apply r.NN | (simpa [nh,pushGuards,Code.guards,Code.isGuard,guardIds] using r.NN)⟩
def MN.depth{k:Nat}{A:bX}(r:MN k A):A.depth<recursionLimit:=by let:=r.BB;lia
def MN.units{k:Nat}{A:bX}(r:MN k A):A.units+64<fu:=by let:=r.un;lia
def M6:De:=λ_ H Q=>Q [] H
def As(MG:TE)(IT:De):De:=λU H Q=>MG U H λx H1=>IT U H1 λxs H2=>Q (x::xs) H2
section
variable {X:Cx}{e:bS}{Fc:Fj}{Br:TE}{t:De}{pos:gy}
def Yc:M8 X [] M6:=λ_ _ _ _ H Q I h=>jH ⟨[],H,I,.nil,h⟩
def ZA(j:DC X e Br)(k:M8 X Fc t)(hs:aL (e::Fc) X.env=(aC,eval e X.env)::aL Fc X.env|>On):M8 X (e::Fc) (As Br t):=by ext pos a s U H Q I h;rw[hs];show iS (ZV (j a s U H _ I h) λu s1 ⟨x,m,d,g,b⟩=>?_);apply ZV (k pos a s1 U m _ d b) λn s2 ⟨xs,f,i,c,l⟩=>⟨x::xs,f,i,.cons g c,l⟩
def Mg(t:De):TE:=λU H Q=>t U H λxs H1=>xs.length<=sizeLine/\∀p,H1 p=aB->Q (.ref p) (upd H1 p (.tup xs))
def CU(t:De):TE:=λU H Q=>t U H λxs H1=>xs.length<=sizeLine/\∀p,H1 p=aB->Q (.ref p) (upd H1 p (.lst xs))
def XU{aaw}(h:M8 X Fc t):DC X (.Tuple Fc aaw pos) (Mg t):=by ext d s U H Q I f;show wpAny_Tuple_spliced (ZV (h pos d s U H _ I f) λg s1 ⟨xs,i,a,r,z,q⟩=>⟨by rw[<-r.length];apply z,?_⟩);let c:=a.Bh.fresh (aZ _);show⟨.ref ⇑s1,upd i ⇑s1 (.tup xs),a.laid (λb u e=>aF _ e) (aZ _) ?_,rfl,q _ c⟩;apply⟨⟨z,λo e=>xN e⟩,g,r,⟨_,aV _ rfl,rfl,_,rfl⟩⟩
def bb(h:M8 X Fc t):DC X (.List Fc pos) (CU t):=by ext d s U H Q I f;show wpAny_List_spliced (ZV (h pos d s U H _ I f) λg s1 ⟨xs,i,a,r,z,q⟩=>⟨by rw[<-r.length];apply z,?_⟩);let c:=a.Bh.fresh (aZ _);show⟨.ref ⇑s1,upd i ⇑s1 (.lst xs),a.laid (λb u e=>aF _ e) (aZ _) ?_,rfl,q _ c⟩;apply⟨z,g,0,r,aV _ rfl⟩
end
abbrev By:=List V->Hp->IG->Kp->Prop
abbrev Hm:=List n8->Hp->aN->Kp->aG->aN->Prop
structure Hh(P:bC)(w:bU)(K:aH)(mg:Bp)(base:b7)(A:bX)(outer:Dk)(s:aN)(H:Hp):Prop where
 frames:A.frames=aA outer
 mod:Mod K mg base
 bs:∀b o,base.get? b=aA o->s.heap.get? b=aA o/\H b=aB
 Hg:base.objs.size<=⇑s
 FA:s.heap.FunFrames base outer
 Hj:∀b∈DV outer,H b=aB
 tab:DY K mg base H
 Bh:FI P w H s.heap
 bare:mW s.gens
def CE(outer:Dk)(P:bC)(w:bU)(H:Hp)(s:aN)(Q:IG)(u:aG)(Kl:aN):Prop:=
 ∃v H',Kl.os=s.os/\mW Kl.gens/\Fo (DV outer) [] H H' s.heap Kl.heap/\FI P w H' Kl.heap/\RelV v u/\Q v H'
def CR(CX:Hm)(outer:Dk)(P:bC)(w:bU)(H:Hp)(s:aN)(Q:IG)(E:Kp)(r:rP)(Kl:aN):Prop:=
 match r with
 | .ok (.ret u)=>CE outer P w H s Q u Kl
 | .ok _=>False
 | .error e=>CX outer H s E e Kl
structure FD(P:bC)(w:bU)(K:aH)(mg:Bp)(base:b7)(CX:Hm)(k:Nat)(f:aM)(fd:gj)(ps:Kn)(Fv:By):Prop where
 len:∀vs H Q E,Fv vs H Q E->la vs=la ps
 run:∀(A:bX)(outer:Dk)(s:aN)(H:Hp)(args:Args)(us:E4)(vs:List V)(Q:IG)(E:Kp),MN k A->Hh P w K mg base A outer s H->qh s fd args (ps.zip us)->Bj vs us->Fv vs H Q E->
  gk (model P w) A (.call (.ref f) args) (CR CX outer P w H s Q E) s
def Hh.make{P:bC}{w:bU}{K:aH}{mg:Bp}{b:b7}{A:bX}{a:Dk}{s:aN}{H:Hp}(e:Hh P w K mg b A a s H)(C:aM)(c:E4)(d:I_) :
  Hh P w K mg b (A.under (.builtin "type.__call__" ⟨.ref C::c,d⟩)) a s H:=⟨by first | apply e.frames | (simpa [nh,Code.envs,qg,pushEnvs] using e.frames),e.mod,e.bs,e.Hg,e.FA,e.Hj,e.tab,e.Bh,e.bare⟩
section
variable {X:Cx}{Iu:MI}{U:St}{H:Hp}{s Kl:aN}
def Inv.aas(I:Inv X Iu U H s):Hh X.prog X.w X.K X.mg X.base X.A X.stack s H:=
 ⟨I.ok.frames,I.ok.mod,I.bs,cA I.ok.Hg I.E9,I.stack,I.aa5,I.ok.tab.un I.base,I.Bh,I.bare⟩
def Inv.after{Q:IG}{u:aG}(I:Inv X Iu U H s)(h:CE X.stack X.prog X.w H s Q u Kl):EP X Iu U Q u Kl:=by let⟨v,e,os,a,un,c,r,q⟩:=h;let⟨i,g,d,t,f⟩:=Kl;obtain rfl:=os;apply⟨v,e,I.call un c a (λb z=>absurd z ⋯),r,q⟩
end
def J5(Fv:By)(dvs:List V)(E:Kp)(t:De):TE:=λU H Q=>t U H λvs H1=>Fv (vs++dvs) H1 Q E
def Binds(K:aH)(fd:gj)(ps:Kn)(ds:E4):Prop:=
 ∀(s:aN)(us:E4),K.In s.heap->(us++ds).length=la ps->qh s fd ⟨us,[]⟩ (ps.zip (us++ds))
def Binds.all{K:aH}{b:gj}{ps:Kn}(h:∀a:List aG,a.length=la ps->i8 b ⟨a,[]⟩=pure (ps.zip a)):Binds K b ps []:=λs a _ c=>by rw[ck] at c ⊢;apply .of_eq (h a c)
def M7(CX:Hm)(X:Cx)(E:Kp):Prop:=∀(Iu:MI)(U:St)(H:Hp)(s:aN)(e:aG)(Kl:aN),Inv X Iu U H s->CX X.stack H s E e Kl->X.Bk e Kl
section
variable {X:Cx}{CX:Hm}{k:Nat}{f C:aM}{fd:gj}{ps:Kn}{Fv:By}{dvs:List V}{ds:E4}{E:Kp}{x m:bH}{p pos apos:gy}{e o:bS}{Fc:Fj}{MG:TE}{t:De}
def Zh4{c:MI}{U:St}{H:Hp}{s:aN}{Q:IG}{a:E4}{vs:List V}(F:FD X.prog X.w X.K X.mg X.base CX k f fd ps Fv)(n:MN k X.A)(m:Binds X.K fd ps ds)(j:Bj dvs ds)(i:M7 CX X E)
  (I:Inv X c U H s) (r:Bj vs a) (h:Fv (vs++dvs) H Q E):ao (model X.prog X.w) X.A (call (.ref f) a) (EP X c U Q) X.Bk s:=by
 let d:=r.append j;let l:(a++ds).length=la ps:=by rw[<-d.length];apply F.len _ _ _ _ h
 show iT (fU (F.run X.A X.stack s H ⟨a,[]⟩ (a++ds) (vs++dvs) Q E n I.aas (m s a I.Fs l) d h) λr g b=>?_)
 cases r with
 | error e=>apply i c U H s e g I b
 | ok Dd=>
  cases Dd with
  | ret u=>apply I.after b
  | next=>apply cR b
  | brk=>apply cR b
  | cont=>apply cR b
def wt(F:FD X.prog X.w X.K X.mg X.base CX k f fd ps Fv)(v:MN k X.A)(o:Gl X x)(d:X.mg x=aA (.ref f))(j:eB X.K (.ref f)=aD)(u:Binds X.K fd ps ds)(i:Bj dvs ds)(g:M7 CX X E)
  (n:M8 X (e::Fc) t) (b:(x==("__debug__" : bH))=aC|>Op) (m:aL (e::Fc) X.env=(aC,eval e X.env)::aL Fc X.env|>On) (a:(cQ pos (aL Fc X.env)).any (·.1)=aC|>On) :
  DC X (.Call (.Name x p) (e::Fc) [] pos) (J5 Fv dvs E t):=by
 ext l s U H Q I h;show cS (Wz I o d ?_ b);show jy I.ok.mod.aaf j (ZV (n pos l s U H _ I h) λw s1 ⟨vs,y,c,r,q⟩=>⟨c.Fs,?_⟩) m a;apply Zh4 F v u i g c r q
end
def AU(X:Cx)(kws:List pV)(t:De):Prop:=
 ∀(pos:gy)(Iu:MI)(s:aN)(U:St)(H:Hp)(Q:List V->Hp->Prop),Inv X Iu U H s->t U H Q->ao (model X.prog X.w) X.A (evalAll ((qj pos (mY kws X.env)).map (·.2))) (AP X Iu U Q) X.Bk s
structure Bz(N P:Kn)(sc:jd):Prop where
 kind:sc.kind = .function
 co:sc.isCoroutine=aC
 gen:sc.isGenerator=aC
 E3:N.Nodup
 pre:N.take (la P)=P
 par:∀x∈P,sc.names.lookup x=aA .local\/sc.names.lookup x=aA .cell
 aci:∀y∈sc.names,y.2≠.free
def Yd{kindOf:bH->Option iJ}{x:bH}:∀{binds:I_}{m:Bp},(∀v,(x,v)∉binds)->sR kindOf binds m x=m x
 | [],_,_=>rfl
 | (n,v)::r,m,h=>by
  delta sR;rw[Yd λw a=>h w (aR _ a)];split
  ·have:x≠n:=by ext rfl;apply h v ah
   simp[this]
  ·rfl
def TZ{kindOf:bH->Option iJ}{x:bH}:∀{binds:I_}{m:Bp},(∀v,(x,v)∉binds)->sS kindOf binds m x=m x
 | [],_,_=>rfl
 | (n,v)::r,m,h=>by
  delta sS;rw[TZ λw a=>h w (aR _ a)];split
  ·rfl
  ·have:x≠n:=by ext rfl;apply h v ah
   simp[this]
def Wg{kindOf:bH->Option iJ}{x:bH}{v:aG}:∀{P:Kn}{vs:E4}{i:Nat}{m:Bp},P.Nodup->P[i]?=aA x->vs[i]?=aA v->kindOf x=aA .local->
  sR kindOf (P.zip vs) m x=aA v
 | [],_,_,_,_,h,_,_=>by simp at h
 | _::_,[],_,_,_,_,h,_=>by simp at h
 | p::P,w::vs,0,m,E3,MH,ID,MK=>by simp at MH ID;subst MH;subst ID;change sR kindOf ((p,w)::P.zip vs) m p=_;delta sR;rw[Yd λv a=>(au.mp E3).1 (jo a).1,Be MK];simp
 | p::P,w::vs,i+1,m,E3,MH,ID,MK=>by change sR kindOf ((p,w)::P.zip vs) m x=_;delta sR;apply Wg (i:=i) (au.mp E3).2 (~~~MH) (~~~ID) MK
def Z4{kindOf:bH->Option iJ}{x:bH}{v:aG}:∀{P:Kn}{vs:E4}{i:Nat}{m:Bp},P.Nodup->P[i]?=aA x->vs[i]?=aA v->kindOf x≠aA .local->
  sS kindOf (P.zip vs) m x=aA v
 | [],_,_,_,_,h,_,_=>by simp at h
 | _::_,[],_,_,_,_,h,_=>by simp at h
 | p::P,w::vs,0,m,E3,MH,ID,MK=>by simp at MH ID;subst MH;subst ID;change sS kindOf ((p,w)::P.zip vs) m p=_;delta sS;rw[TZ λv a=>(au.mp E3).1 (jo a).1,Fb MK];simp
 | p::P,w::vs,i+1,m,E3,MH,ID,MK=>by change sS kindOf ((p,w)::P.zip vs) m x=_;delta sS;apply Z4 (i:=i) (au.mp E3).2 (~~~MH) (~~~ID) MK
noncomputable def start(N:Kn)(vs:List V):St:=vs.map aA++ak (la N-la vs) aB
def K3(CX:Hm)(P:bC)(w:bU)(K:aH)(mg:Bp)(base:b7)(N:Kn)(qual:bH)(scope:jd)(f:aM)(cd:aG)(A:bX)(outer:Dk)(s:aN)(H:Hp)(E:Kp):Cx where
 prog:=P
 w:=w
 K:=K
 mg:=mg
 base:=base
 A:=A.deeper (jE qual scope ⇑s f cd)
 N:=N
 s₀:=s
 H₀:=H
 env:=jE qual scope ⇑s f cd
 outer:=outer
 stack:=jE qual scope ⇑s f cd::outer
 ex:=[]
 calm:=aD
 fn:=λ_=>aD
 Dp:=[]
 Bk:=λe Kl=>ao (model P w) (A.deeper (jE qual scope ⇑s f cd)) (leaving (jE qual scope ⇑s f cd) e) (λ_ aam=>CX outer H s E e aam) (λabu aam=>CX outer H s E abu aam) Kl
def k4{a:jd}{n:Nat}{x:bH}(h:a.names.lookup x=aA .cell):∃c,(cellsFrom n a.names []).lookup x=aA c:=by let q:=nj a.names n [] (.inl h);apply dk.mp q
def Ob{a b c:bH}(h:a++c=b++c):a=b:=by
 let⟨a⟩:=a;let⟨b⟩:=b;let e:a++c.cps=b++c.cps:=congrArg bH.cps h;let d:a.toList++c.cps.toList=b.toList++c.cps.toList:=by rw[<-fg,<-fg,e]
 let f:=rQ.mp (List.append_cancel_right d);rw[f]
def j_{L:Hm}{P:bC}{w:bU}{K:aH}{mg:Bp}{n:b7}{N ps:Kn}{g:bH}{d:jd}{f:aM}{B:aG}{A:bX}{j:Dk}{s s1:aN}{H:Hp}{E:Kp}{I:E4}{vs:List V}
  (G:da K B g=aD) (S:Bz N ps d) (Q:A.handled=aB) (m:Hh P w K mg n A j s H) (X:la vs=la ps) (r:Bj vs I)
  (x:InCallC s ⇑s (sR (jE g d ⇑s f B).kindOf (ps.zip I) λ_=>aB) (cellsFrom (⇑s+1) d.names []) (sS (jE g d ⇑s f B).kindOf (ps.zip I) λ_=>aB) s1) :
  Inv (K3 L P w K mg n N g d f B A j s H E) [] (start N vs) H s1:=by
 let T:la ps<=la N:=by let:=congrArg fK S.pre;rw[bz] at this;lia
 let⟨D,tk,rfl,J⟩:=x.done;let o:∀b:aM,b∉(K3 L P w K mg n N g d f B A j s H E).ex:=λb z=>absurd (show b∈([]:Gc) from z) ⋯
 show⟨⟨m.mod,S.kind,rfl,rfl,aZ _,λy z c D l=>?_,λy t=>?_,λy c _ h=>?_,λ_=>Q,oj m.frames,.inr ⟨rfl,rfl⟩,λb z=>absurd z (o b),m.bs,m.Hg,λb _ _=>o b,λb z=>absurd z (o b),m.FA,m.Hj,m.tab,λq _ R _=>by rw[<-Ob R];apply G⟩,
  rfl,m.bare,Fo.kept J,⟨_,x.toInCall.ns,λi y v D l W=>?_⟩,λy c h=>⟨_,x.cell y c h⟩,m.Bh.fresh (aZ _),λy c h=>?_,λp hp=>absurd (show p∈([]:MI) from hp) ⋯,m.Bh.kept J,?_⟩
 ·apply name_of_addr x.apart (eQ D) (eQ l)
 ·let t:=t;rcases t with t | t
  ·apply k4 t
  ·apply absurd rfl (S.aci _ (eQ t))
 ·apply eK (x.above y c (eQ h))
 ·let F:i<la vs:=by
   delta start at l;by_cases F:i<la vs
   ·apply F
   ·rw[bc (~~~F)] at l;rw[c0] at l;split at l<;>cases l
  let U:vs[i]?=aA v:=by
   delta start at l;rw[bM (~~~F),af] at l
   cases e:vs[i]? with
   | none=>rw[e] at l;cases l
   | some a=>rw[e] at l;cases l;rfl
  let⟨u,M,O⟩:=r.get U;let hp:ps[i]?=aA y:=by rw[<-S.pre,mw ()];apply D
  let C:ps.Nodup:=by rw[<-S.pre];apply S.E3.sublist (gm _ _)
  show⟨u,O,?_⟩;rcases S.par y (aw hp) with k | k
  ·apply .inl ⟨k,Wg C hp M k⟩
  ·let⟨c,e⟩:=k4 k;show .inr ⟨.inl k,c,e,?_⟩;let q:=x.cell y c e;rw[Z4 C hp M (by change d.names.lookup y≠_;rw[k];decide)] at q;apply q
 ·apply m.Bh.fresh (eK (x.above y c (eQ h)))
 ·delta start;change _=la N;rw[aq,aK,cP]
  lia
def Yu{L:Hm}{P:bC}{w:bU}{K:aH}{mg:Bp}{h:b7}{k:Nat}{f:aM}{m d:bH}{i:rR}{j:L_}{a:jd}{ab4 FH G pm g Bi IV:aG}{an Dc:I'}
  {R:L4}{N ps:Kn}{X:By} (lk:K.lookup f=aA ⟨IV,Dc,.func (cX m d i j a ab4 FH G pm an g Bi),R⟩) (D:da K g d=aD) (S:Bz N ps a)
  (len:∀vs H Q E,X vs H Q E->la vs=la ps)
  (z:∀(A:bX)(c:Dk)(s:aN)(H:Hp)(vs:List V)(Q:IG)(E:Kp),MN k (A.deeper (jE d a ⇑s f g))->X vs H Q E->
   ∃t,KJ (K3 L P w K mg h N d a f g A c s H E) j t/\t {IA:=λ_ l=>Q .IB l,E7:=Q} (start N vs) H) :
  FD P w K mg h L (k+1) f (cX m d i j a ab4 FH G pm an g Bi) ps X:=by
 show⟨len,λA c s H Y us vs Q E W B IF r C=>?_⟩;let Fg:=len _ _ _ _ C;let Z:=B.mod.aaf.keeps λb o e=>(B.bs b o e).1;let U:=B.mod.nolimit.keeps λb o e=>(B.bs b o e).1
 let p:∀y∈ps.zip us,a.names.lookup y.1=aA .local\/(a.names.lookup y.1=aA .cell/\((cellsFrom (⇑s+1) a.names []).lookup y.1).isSome=aD):=by
  ext⟨n,v⟩ He;rcases S.par n (jo He).1 with q | q
  ·apply .inl q
  ·apply .inr ⟨q,nj _ _ _ (.inl q)⟩
 show codeAny_call_function W.depth (Z _ _ lk) rfl S.co S.gen rfl (PySem.W.codeRec_of Z D) (IF _ _ _ _ ?_);show wpAny_newFunctionEnv_cells S.kind p λenv he s1 x=>?_;subst he;show⟨U.keeps x.toInCall.keep,codeAny_func ?_⟩;let⟨t,BH,MO⟩:=z A c s H vs Q E (W.deeper _) C;let I:Inv (K3 L P w K mg h N d a f g A c s H E) [] (start N vs) H s1:=j_ D S W.hd B Fg r x;show bQ (BH [] s1 (start N vs) H _ I MO) (λDd O hs=>?_) λe O hs=>hs
 let F:∀{M:St}{l:Hp}{v:V}{u:aG},Inv (K3 L P w K mg h N d a f g A c s H E) [] M l O->RelV v u->Q v l->CE c P w H s Q u O:=
  λ{M l v u} J T q=>⟨v,l,J.os,J.bare,J.base,J.Bh,T,q⟩
 cases Dd with
 | ret u=>
  let⟨v,M,l,J,T,q⟩:=hs;apply F J T q
 | next=>
  let⟨M,l,J,q⟩:=hs;apply F (v:=V.IB) J rfl q
 | brk=>
  let⟨_,_,_,q⟩:=hs;apply cR q
 | cont=>
  let⟨_,_,_,q⟩:=hs;apply cR q
section
variable {X:Cx}{x:bH}{p pos:gy}{e:bS}{Fc:Fj}{t:De}{id T:Dg}{r:List V->Hp->IG->Prop}
def JG(r:List V->Hp->IG->Prop)(t:De):TE:=λU H Q=>t U H λvs H1=>r vs H1 Q
def Pa(g:Ag X (.builtin id) r)(q:Gl X x)(d:X.mg x=aB)(i:dq x=aA (.builtin id))(m:M8 X (e::Fc) t)(o:x≠"__name__"|>Op)(b:(x==("__debug__" : bH))=aC|>Op)
  (l:aL (e::Fc) X.env=(aC,eval e X.env)::aL Fc X.env|>On) (a:(cQ pos (aL Fc X.env)).any (·.1)=aC|>On):DC X (.Call (.Name x p) (e::Fc) [] pos) (JG r t):=by
 ext c s U H Q I h;show cS (Yt I q d i ?_ o b);apply eM (ZV (m pos c s U H _ I h) λn s1 ⟨vs,u,j,k,f⟩=>g c s1 U u vs n Q j k f) l a
def Px(g:Ag X (.type T) r)(q:Gl X x)(d:X.mg x=aB)(i:dq x=aA (.type T))(m:M8 X (e::Fc) t)(o:x≠"__name__"|>Op)(b:(x==("__debug__" : bH))=aC|>Op)
  (l:aL (e::Fc) X.env=(aC,eval e X.env)::aL Fc X.env|>On) (a:(cQ pos (aL Fc X.env)).any (·.1)=aC|>On):DC X (.Call (.Name x p) (e::Fc) [] pos) (JG r t):=by
 ext c s U H Q I h;show cS (Yt I q d i ?_ o b);apply br (ZV (m pos c s U H _ I h) λn s1 ⟨vs,u,j,k,f⟩=>g c s1 U u vs n Q j k f) l a
end
end _l
namespace _b
section
variable {prog:bC}{w:bU}{A:bX}{E:IE}{s:aN}
def vh{t b:aM}{vs ws:E4}{Q:IE}(x:sL s.heap t vs.toArray)(z:sL s.heap b ws.toArray)(m:vs≠[])
  (y:ws=[]->Q (.ref t) s) (v:ws≠[]->Q (.ref ⇑s) {s with heap:=s.heap.push {cls:=.type "tuple",data:=.seq (vs++ws).toArray}})
  (i:la vs+la ws<=sizeLine):ao (model prog w) A (iI .Add (.ref t) (.ref b)) Q E s:=by
 let⟨⟨k,dd,d,o⟩,h,r,n,u⟩:=id x;let⟨⟨p,f,data2,c⟩,a,l,q,j⟩:=id z;subst r u l j;let e:vs.toArray++ws.toArray=(vs++ws).toArray:=⋯
 by_cases g:ws=[]
 ·apply qk ⟨_,h,rfl⟩ ⟨_,a,rfl⟩ nK pq kI kC (jh _ _)
   (tuple_addW1 t b vs.toArray ws.toArray n q dd f o c (~~~m) (by simp[g])) ⟨h,a,y g⟩
 ·show qk ⟨_,h,rfl⟩ ⟨_,a,rfl⟩ nK pq kI kC (jh _ _)
   (tuple_addW2 t b vs.toArray ws.toArray n q dd f o c (~~~m) (~~~g) (by rw[aU];apply i)) ⟨h,a,?_⟩
  rw[e];apply v g
def DF(n d:Nat):Option Int->Nat
 | none=>d
 | some v=>if v<0 then(v+(n:Int)).toNat else min v.toNat n
def kr(n d:Nat):DF n d aB=d:=rfl
def iz(n d k:Nat):DF n d (aA (k:Int))=min k n:=rfl
def uV(v:Int)(n d:Nat):(if v<0 then max (v+(n:Int)) 0 else min v (n:Int))=((DF n d (aA v):Nat):Int):=by
 change(if v<0 then max (v+(n:Int)) 0 else min v (n:Int))=(((if v<0 then(v+(n:Int)).toNat else min v.toNat n):Nat):Int);by_cases a:v<0
 ·dsimp[Be a];lia
 ·dsimp[Fb a];lia
def Ri(lo a:IY)(n:Nat):mT lo a 1 (n:Int)=(((DF n 0 lo:Nat):Int),((DF n n a:Nat):Int)):=by
 show t6 ?_ ?_
 ·cases lo with
  | none=>rfl
  | some v=>apply uV v n 0
 ·cases a with
  | none=>rfl
  | some v=>apply uV v n n
def Rp(i j:Nat):g9 (i:Int) (j:Int) 1=j-i:=by
 delta g9;split<;>lia
def Pb{v:aG}{o:IY}{Q:Option Int->aN->Prop}(p:qG v o)(h:Q o s):ao (model prog w) A (km.Slice.slicePartIndex v) Q E s:=by
 cases p with
 | none=>apply slicePart_none h
 | int i t=>apply slicePart_int h
def Rl{e:aM}{d f:aG}{lo c:IY}{n:Nat}{Q:Int×Int×Nat->aN->Prop}(hs:s.heap.IsSliceOf e d f .none)(pl:qG d lo)(i:qG f c)
  (h:Q (((DF n 0 lo:Nat):Int),1,DF n n c-DF n 0 lo) s):ao (model prog w) A (km.Slice.sliceApplied (.ref e) (pure (n:Int))) Q E s:=by
 let⟨os,a,g,b⟩:=id hs;show aE (aE (c9 a b rfl (aE (c9 a b rfl (aE (c9 a b rfl (aJ ?_)))))));show aE (slicePart_none ?_);show aE (Pb pl (aE (Pb i (aE (aJ ?_)))));change ao _ _ (match mT lo c 1 (n:Int) with | (lo,c)=>pure (lo,(1:Int),g9 lo c 1)) _ _ s;rw[Ri lo c n];change ao _ _ (pure (((DF n 0 lo:Nat):Int),(1:Int),g9 ((DF n 0 lo:Nat):Int) ((DF n n c:Nat):Int) 1)) _ _ s;rw[Rp];apply aJ h
def dV(xs:M_)(i k:Nat):((aQ k).filterMap λ(m:Nat)=>xs[((i:Int)+(m:Int)*1).toNat]?).toArray=((xs.toList.drop i).take k).toArray:=by
 let e:(λ(m:Nat)=>xs[((i:Int)+(m:Int)*1).toNat]?)=λm=>xs[i+m]?:=by
  funext m;have:((i:Int)+(m:Int)*1).toNat=i+m:=()
  rw[this]
 rw[e];let:=pick_run xs i k;rw[jz] at this;let a:((λx=>xs[x]?) ∘ λx=>i+x)=λm=>xs[i+m]?:=rfl;rw[a] at this;rw[this]
def kL{t g:aM}{a:M_}{k l:aG}{lo c:IY}{Q:IE}(d:sL s.heap t a)(hs:s.heap.IsSliceOf g k l .none)(pl:qG k lo)(n:qG l c)
  (o:¬(DF a.size 0 lo=0/\DF a.size a.size c=a.size))
  (h:Q (.ref ⇑s) {s with heap:=s.heap.push {cls:=.type "tuple",data:=.seq ((a.toList.drop (DF a.size 0 lo)).take (DF a.size a.size c-DF a.size 0 lo)).toArray}})
  (m:a.size<=sizeLine):ao (model prog w) A (oA (.ref t) (.ref g)) Q E s:=by
 let b:sizeOk (.seq ((a.toList.drop (DF a.size 0 lo)).take (DF a.size a.size c-DF a.size 0 lo)).toArray):=by
  change((a.toList.drop (DF a.size 0 lo)).take (DF a.size a.size c-DF a.size 0 lo)).toArray.size<=sizeLine;rw[aU,bz,fL,bJ]
  lia
 let⟨os,j,i,p⟩:=id hs;let f:s.TypeIs (.ref g) "slice":=⟨os,j,i⟩;delta oA
 try with_reducible show b9 ?_
 first | show aE (aJ ?_) | skip
 show aE (wpAny_sequenceKey d.typeIs rfl ?_)
 show aE (cg d.typeIs iC
  (cF iC d.typeIs entry_tuple_getitem ?_ (args_tuple_getitem _ _)))
 change ao _ _ (km.Tuple.tupleItemsOf (.ref t) >>= _) _ _ s;show aE (tupleItemsOf_ d ?_);show aE (lh f ?_);show aE (Rl hs pl n ?_);let e:¬((((DF a.size 0 lo:Nat):Int)==0&&(1:Int)==1&&(DF a.size a.size c-DF a.size 0 lo)==a.size)=aD):=by ext q;rw[aX,aX] at q;let r:=eq_of_beq q.1.1;let u:=eq_of_beq q.2;apply o ⟨(),()⟩
 change ao _ _ (if(((DF a.size 0 lo:Nat):Int)==0&&(1:Int)==1&&(DF a.size a.size c-DF a.size 0 lo)==a.size)=aD then _ else _) _ _ s;rw[Fb e,dV]
 first
  | apply aE (cw (aJ ⟨_,rfl,aJ h⟩) b)
  | apply aE (cw (aE (aJ (aJ ⟨_,rfl,aJ h⟩))) b)
  | apply aE (aE (cw (aJ (aJ ⟨_,rfl,aJ h⟩)) b))
  | apply aE (aE (cw (aJ ⟨_,rfl,aJ h⟩) b))
end
end _b
namespace _l
abbrev Bn:=St->Hp->(Option Int->Hp->Prop)->Prop
def Ez(X:Cx)(e:Option bS)(t:Bn):Prop:=
 ∀(Iu:MI)(s:aN)(U:St)(H:Hp)(Q:Option Int->Hp->Prop),Inv X Iu U H s->t U H Q->
  ao (model X.prog X.w) X.A (evalPart e X.env) (λu Kl=>∃o H',Inv X Iu U H' Kl/\qG u o/\Q o H') X.Bk s
def Kk:Bn:=λ_ H Q=>Q aB H
def Nv(t:TE):Bn:=λU H Q=>t U H λx H1=>∃i,x = .int i/\Q (aA i) H1
def Vt{ns:E1}:∀{a:E4},Bj (ns.map V.int) a->jI a ns:=by
 induction ns with
 | nil=>ext a r;rw[kJ] at r;cases r;apply .nil
 | cons n ns E2=>
  ext a r
  cases r with
  | cons aal Hl=>
   let⟨t,e⟩:=aal;subst e;apply .cons n t (E2 Hl)
section
variable {X:Cx}{e:bS}{Br:TE}{lo E5:Option bS}{Dx aba:Bn}{pos p2:gy}
def Zc8:Ez X aB Kk:=by ext a s U H Q I h;apply aJ ⟨aB,H,I,.none,h⟩
def Zc9(h:DC X e Br):Ez X (aA e) (Nv Br):=by ext f s U H Q I g;show ZV (h f s U H _ I g) ?_;ext u s1 ⟨x,d,a,b,c⟩;let⟨i,rfl,q⟩:=c;let⟨t,rfl⟩:=b;apply⟨aA i,d,a,.int i t,q⟩
def M'(X:Cx)(r:V->Option Int->Option Int->Hp->IG->Prop):Prop:=
 ∀(Iu:MI)(s:aN)(U:St)(H:Hp)(x:V)(v ab5 ab6:aG)(lo E5:IY)(Ks:aM)(Q:IG),Inv X Iu U H s->RelV x v->s.heap.IsSliceOf Ks ab5 ab6 .none->qG ab5 lo->qG ab6 E5->r x lo E5 H Q->
  ∃T id,typeLookup (.type T) "__getitem__" = pure (aA (.builtin id))/\s.TypeIs v T/\ao (model X.prog X.w) X.A (oA v (.ref Ks)) (EP X Iu U Q) X.Bk s
def Ia(r:V->Option Int->Option Int->Hp->IG->Prop)(Br:TE)(Dx aba:Bn):TE:=λU H Q=>Br U H λx H1=>Dx U H1 λl H2=>aba U H2 λu H3=>r x l u H3 Q
def lq{r:V->Option Int->Option Int->Hp->IG->Prop}(D:M' X r)(B:DC X e Br)(p:Ez X lo Dx)(F:Ez X E5 aba):DC X (.Subscript e (.Slice lo E5 aB p2) pos) (Ia r Br Dx aba):=by ext a s U H Q I h;show sT (ZV (B a s U H _ I h) λv s1 ⟨x,G,n,w,i⟩=>?_);show wpAny_Slice (ZV (p a s1 U G _ n i) λd s2 ⟨l,t,A,pl,E⟩=>ZV (F a s2 U t _ A E) λf c ⟨u,g,y,o,m⟩=>?_);show aJ ?_;let j:Inv X a U g {c with heap:=c.heap.push {cls:=.type "slice",data:=.fields #[d,f,.none]}}:=y.kept λb J q=>aF _ q;let⟨T,id,k,z,C⟩:=D a {c with heap:=c.heap.push {cls:=.type "slice",data:=.fields #[d,f,.none]}} U g x v d f l u ⇑c Q j w (b7.IsSliceOf.new ..) pl o m;apply tail_any z k C rfl
def DL(xs:List V)(lo E5:IY):List V:=(xs.drop (_b.DF (la xs) 0 lo)).take (_b.DF (la xs) (la xs) E5-_b.DF (la xs) 0 lo)
def R4(xs:List V)(lo a:IY):(DL xs lo a).length<=la xs:=by
 delta DL;rw[bz,fL]
 lia
def Io(K:aH):V->Option Int->Option Int->Hp->IG->Prop:=λx lo E5 H Q=>∃a xs,x = .ref a/\DJ K H a xs/\
 ¬(_b.DF xs.length 0 lo=0/\_b.DF xs.length xs.length E5=xs.length)/\∀p,H p=aB->Q (.ref p) (upd H p (.tup (DL xs lo E5)))
def Zh5:M' X (Io X.K):=by
 ext t s U H x v n w lo g p Q I j hs pl k h;let⟨a,xs,rfl,i,m,q⟩:=h;cases j;let⟨l,r,f,d⟩:=I.tuple i;let c:l.toArray.size=xs.length:=by rw[aU];apply r.length.symm
 show⟨"tuple",_,iC.lookup,f.typeIs,?_⟩;show _b.kL f hs pl k (by rw[c];apply m) ?_ (by rw[c];apply d);rw[c];show⟨.ref ⇑s,_,I.laid (λb u q=>aF _ q) (aZ _) ?_,rfl,q _ (I.Bh.fresh (aZ _))⟩;apply⟨⟨cA (R4 xs lo g) d,λo e=>xN e⟩,_,(r.drop (_b.DF xs.length 0 lo)).take (_b.DF xs.length xs.length g-_b.DF xs.length 0 lo),tO _ _⟩
def G7(K:aH):Dh:=λx y H Q=>∃a b xs ys,x = .ref a/\y = .ref b/\DJ K H a xs/\DJ K H b ys/\xs≠[]/\xs.length+ys.length<=sizeLine/\
 (ys=[]->Q (.ref a) H)/\(ys≠[]->∀p,H p=aB->Q (.ref p) (upd H p (.tup (xs++ys))))
def Bj.abb{xs:List V}{a:E4}(r:Bj xs a):a=[]↔xs=[]:=by
 cases r with
 | nil=>simp
 | cons _ _=>simp
def Zda:FL X (iI .Add) (G7 X.K):=by ext t s U H x y v u Q I m k h;let⟨a,b,xs,ys,rfl,rfl,n,p,j,f,i,r⟩:=h;cases m;cases k;let⟨A,d,l,_⟩:=I.tuple n;let⟨g,c,p2,_⟩:=I.tuple p;show _b.vh l p2 (λz=>j (d.abb.mp z)) (λz=>⟨.ref a,H,I,rfl,i (c.abb.mp z)⟩) (λz=>?_) (by rw[<-d.length,<-c.length];apply f);show⟨.ref ⇑s,_,I.laid (λb B q=>aF _ q) (aZ _) ?_,rfl,r (λw=>z (c.abb.mpr w)) _ (I.Bh.fresh (aZ _))⟩;apply⟨⟨by rw[aq];apply f,λo e=>xN e⟩,_,d.append c,tO _ _⟩
end
def Kw(n:Nat)(i:Int):Option Nat:=if 0<=i then(if i<n then aA i.toNat else aB) else if -(n:Int)<=i then aA (i+n).toNat else aB
def HG{α:Type}(xs:List α)(i:Int):Option α:=(Kw (la xs) i).bind λj=>xs[j]?
def VY{n:Nat}{i:Int}{j:Nat}(h:Kw n i=aA j):seqIndex? i n=aA j/\j<n/\-(n:Int)<=i/\i<n:=by
 delta Kw at h;by_cases b:0<=i
 ·rw[Be b] at h;by_cases a:i<n
  ·rw[Be a] at h;let e:=bG h;apply⟨by rw[r9 b a,e],(),(),a⟩
  ·rw[Fb a] at h;cases h
 ·rw[Fb b] at h;by_cases a : -(n:Int)<=i
  ·rw[Be a] at h;let e:=bG h;apply⟨by rw[qm () a,e],(),a,()⟩
  ·rw[Fb a] at h;cases h
def V9{a:Type}{xs:List a}{i:Int}{v:a}(h:HG xs i=aA v):∃j,seqIndex? i (la xs)=aA j/\xs[j]?=aA v/\j<la xs/\-(la xs:Int)<=i/\i<la xs:=by
 delta HG at h
 cases e:Kw (la xs) i with
 | none=>rw[e] at h;cases h
 | some j=>
  rw[e] at h;let⟨f,c,b,d⟩:=VY e;apply⟨j,f,h,c,b,d⟩
def WA{a:Type}{xs:List a}{j:Nat}{v:a}(h:xs[j]?=aA v):HG xs (j:Int)=aA v:=by
 let b:=(aS.mp h).1;let e:Kw (la xs) (j:Int)=aA j:=by delta Kw;rw[Be (),Be ()];simp
 delta HG;rw[e];apply h
def CK(b:bS):Prop:=∀o i,subscripted b aC o i=operate [o,i] (oA o i)
def AB(X:Cx)(r:Dh):Prop:=
 ∀(value slice:bS)(Iu:MI)(s:aN)(U:St)(H:Hp)(x y:V)(v u:aG)(Q:IG),Inv X Iu U H s->RelV x v->RelV y u->r x y H Q->
  subscripted slice aC v u=operate [v,u] (oA v u)->ao (model X.prog X.w) X.A (subscriptTail value slice v u) (EP X Iu U Q) X.Bk s
def Cz(X:Cx)(id:Dg)(r:V->List V->Hp->IG->Prop):Prop:=
 ∀(Iu:MI)(s:aN)(U:St)(H:Hp)(x:V)(xs:List V)(v:aG)(us:E4)(Q:IG),Inv X Iu U H s->RelV x v->Bj xs us->r x xs H Q->
  ao (model X.prog X.w) X.A (call (.builtin id) (v::us)) (EP X Iu U Q) X.Bk s
section
variable {X:Cx}{a b:bS}{MG IP:TE}{pos:gy}
def AB.or{r f:Dh}(h:AB X r)(h':AB X f):AB X (λx y H Q=>r x y H Q\/f x y H Q):=by
 ext b a e s U H x y v u Q I d c q hs;rcases q with q | q
 ·apply h b a e s U H x y v u Q I d c q hs
 ·apply h' b a e s U H x y v u Q I d c q hs
def Sd{r:Dh}(k:AB X r)(i:DC X a MG)(j:DC X b IP)(hs:CK b):DC X (.Subscript a b pos) (LI r MG IP):=by ext e s U H Q I h;apply sT (xV i j I h λv u s2 x y f g d c q=>k a b e s2 U f x y v u Q g d c q (hs _ _))
def JJ(K:aH):Dh:=λx y H Q=>∃p xs i v,x = .ref p/\y = .int i/\BZ K H p xs/\HG xs i=aA v/\Q v H
def J0(K:aH):Dh:=λx y H Q=>∃p xs i v,x = .ref p/\y = .int i/\DJ K H p xs/\HG xs i=aA v/\Q v H
def GI:Dh:=λx y H Q=>∃z i c,x = .str z/\y = .int i/\z.length<=sizeLine/\HG z.cps.toList i=aA c/\Q (.str ⟨#[c]⟩) H
def mn:AB X (JJ X.K):=by
 ext e d n s U H x y v u Q I l k h hs;let⟨p,xs,i,z,rfl,rfl,A,D,q⟩:=h;cases l;let⟨t,rfl⟩:=k;let⟨C,r,pl,F⟩:=I.list A;let⟨j,b,B,G,E,o⟩:=V9 D;let⟨w,g,FJ⟩:=r.get B;let m:=r.length;let J:=TP;let a:EP X n U Q w s:=⟨z,H,I,FJ,q⟩;by_cases f:0<=i
 ·let c:i.toNat=j:=by rw[r9 f o] at b;apply bG b
  apply item_listR pl.isList f () (by rw[c];simpa using g) a hs
 ·let c:(i+(C.toArray.size:Int)).toNat=j:=by rw[qm () E] at b;rw[aU,<-m];apply bG b
  apply oB pl.isList.typeIs slot_list_getitem.lookup
   (wpAny_getItem_list_neg pl.isList () (by rw[aU]<;>lia) () (by rw[c];simpa using g) ⟨rfl,a⟩) hs
def vY:AB X (J0 X.K):=by
 ext c a g s U H x y v u Q I e d h hs;let⟨p,xs,i,z,rfl,rfl,k,n,q⟩:=h;cases e;let⟨t,rfl⟩:=d;let⟨D,r,pl,A⟩:=I.tuple k;let⟨j,m,l,B,F,C⟩:=V9 n;let⟨w,o,FJ⟩:=r.get l;let f:=r.length;let E:=TP;let b:EP X g U Q w s:=⟨z,H,I,FJ,q⟩
 apply oB pl.typeIs slot_tuple_getitem.lookup
  (getItem_tuple pl () () (by rw[aU,<-f];apply m) (~~~o) ⟨rfl,b⟩) hs
def Zh6:AB X GI:=by
 ext b a A s U H x y v u Q I f e h hs;let⟨z,i,c,rfl,rfl,r,o,q⟩:=h;let⟨t,rfl⟩:=f;let⟨t',rfl⟩:=e;let⟨j,d,m,w,p,l⟩:=V9 o;let g:z.cps.toList.length=z.length:=by simp[bH.length]
 rw[g] at d p l;let B:=TP
 apply tail_any (typeIs_str s z t) slot_str_getitem.lookup (getItem_str (by
  let n:decide (i < -(2^63:Int))=aC:=decide_eq_false ();let k:decide (i ≥ 2^63)=aC:=decide_eq_false ();rw[n,k,Bool.or_false]) (by rw[d];simpa using m) ⟨.str ⟨#[c]⟩,H,I.tok _,⟨_,rfl⟩,q⟩) hs
noncomputable def π(K:aH):Dh:=λx y H Q=>JJ K x y H Q\/J0 K x y H Q\/GI x y H Q
def Zh7:AB X (π X.K):=mn.or (vY.or Zh6)
def R_(a:E4)(n j:Nat)(u:aG):eU (·.setIfInBounds j u) {cls:=.type "list",data:=.seq a.toArray n}={cls:=.type "list",data:=.seq (a.set j u).toArray n}:=by simp[eU]
def Inv.lst{b:MI}{U:St}{H:Hp}{s:aN}{p:aM}{xs:List V}(I:Inv X b U H s)(h:H p=aA (.lst xs)) :
  ∃(a:E4) (n:Nat),Bj xs a/\s.heap.get? p=aA {cls:=.type "list",data:=.seq a.toArray n}/\la xs<=sizeLine:=by
 let⟨z,a,n,r,e⟩:=I.Bh p _ h;apply⟨a,n,r,e,z⟩
def Inv.acj{d:MI}{U:St}{H:Hp}{s:aN}{p:aM}{xs ys:List V}{g its':E4}{n a:Nat}{f:fH->fH}(I:Inv X d U H s)(h:H p=aA (.lst xs))
  (k:s.heap.get? p=aA {cls:=.type "list",data:=.seq g.toArray n}) (c:f {cls:=.type "list",data:=.seq g.toArray n}={cls:=.type "list",data:=.seq its'.toArray a}) (r:Bj ys its') (i:la ys<=sizeLine) (t:Nat) :
  Inv X d U (upd H p (.lst ys)) {s with heap:=s.heap.update p f,toks:=t}:=by
 let e:(s.heap.update p f).get? p=aA {cls:=.type "list",data:=.seq its'.toArray a}:=by rw[bZ f k (by rw[c]<;>rfl),c]
 show I.write (by rw[h];trivial) (.inl rfl) (λb u j q=>(bV _ _ (bN j)).trans q) ⟨_,e⟩ ?_;apply⟨i,its',a,r,e⟩
def B4:V->V->V->Hp->(Hp->Prop)->Prop:=λo i v H Q=>∃p xs k j,o = .ref p/\i = .int k/\H p=aA (.lst xs)/\Kw xs.length k=aA j/\Q (upd H p (.lst (xs.set j v)))
def Pc:EL X B4:=by
 ext C s U H o i v B D u Q I x z y h;let⟨p,xs,k,j,rfl,rfl,hp,w,q⟩:=h;cases x;let⟨t,rfl⟩:=z;let⟨m,n,r,d,A⟩:=I.lst hp;let⟨a,E,f,e⟩:=VY w;let b:=r.length;let F:=TP
 let l:=
  I.acj hp d (R_ m n j u) (r.set y j) (by rw[cq];apply A) s.toks
 by_cases g:0<=k
 ·let c:k.toNat=j:=by rw[r9 g e] at a;apply bG a
  apply PySem.W.ki_setAt d g () (by rw[aU,<-b];apply e) (by rw[c];apply⟨_,l,q⟩)
 ·let c:(k+(m.toArray.size:Int)).toNat=j:=by rw[qm () f] at a;rw[aU,<-b];apply bG a
  apply PySem.W.ki_setBack d () (by rw[aU,<-b];apply f) () (by rw[c];apply⟨_,l,q⟩)
def YD(lo a:IY)(n:Nat):(kD lo a aB n).1=((_b.DF n 0 lo:Nat):Int)/\(kD lo a aB n).2.1=((_b.DF n n a:Nat):Int)/\(kD lo a aB n).2.2=1:=by
 show⟨?_,?_,rfl⟩
 ·cases lo with
  | none=>simp[kD,_b.DF]
  | some i=>
   dsimp[kD,_b.DF,rS];by_cases h:i<0
   ·dsimp[h,if_true]<;>lia
   ·dsimp[h,if_false]<;>lia
 ·cases a with
  | none=>simp[kD,_b.DF]
  | some i=>
   dsimp[kD,_b.DF,rS];by_cases h:i<0
   ·dsimp[h,if_true]<;>lia
   ·dsimp[h,if_false]<;>lia
def RT(a:E4)(lo b:IY):slicePick a.toArray lo b aB=((a.drop (_b.DF (la a) 0 lo)).take (_b.DF (la a) (la a) b-_b.DF (la a) 0 lo)).toArray:=by
 let⟨e,d,c⟩:=YD lo b a.toArray.size;delta slicePick;rw[e,d,c];dsimp[sliceRange_one,pick_run]<;>rfl
def G0(K:aH):V->Option Int->Option Int->Hp->IG->Prop:=λx lo E5 H Q=>∃a xs,x = .ref a/\BZ K H a xs/\∀p,H p=aB->Q (.ref p) (upd H p (.lst (DL xs lo E5)))
def Zdc:M' X (G0 X.K):=by ext m s U H x v k p lo e l Q I i hs pl j h;let⟨a,xs,rfl,f,q⟩:=h;cases i;let⟨n,r,d,g⟩:=I.list f;let c:=r.length;show⟨"list",_,slot_list_getitem.lookup,d.isList.typeIs,?_⟩;show wpAny_getItem_list_slice d.isList hs pl j .none ⋯ ?_ (by rw[aU]<;>lia);rw[RT,<-c];show⟨.ref ⇑s,_,I.laid (λb o q=>aF _ q) (aZ _) ?_,rfl,q _ (I.Bh.fresh (aZ _))⟩;apply⟨cA (R4 xs lo e) g,_,0,(r.drop (_b.DF xs.length 0 lo)).take (_b.DF xs.length xs.length e-_b.DF xs.length 0 lo),aV _ rfl⟩
def Sf:Ag X (.type "list") (λxs H Q=>∃p ys,xs=[.ref p]/\(BZ X.K H p ys\/DJ X.K H p ys)/\∀l,H l=aB->Q (.ref l) (upd H l (.lst ys))):=by
 ext x s U H xs y Q I r h;let⟨p,ys,rfl,j,q⟩:=h;let⟨u,rfl,w⟩:=W9 r;cases w
 let i:∀(a:E4),Bj ys a->ys.length<=sizeLine->∀(h':b7)(c:Nat),(∀b Kq,s.heap.get? b=aA Kq->h'.get? b=aA Kq)->
   h'.get? ⇑s=aA {cls:=.type "list",dict:=aB,data:=.seq a.toArray c,slots:=#[]}->EP X x U Q (.ref ⇑s) {s with heap:=h'}:=λa d f h' c g e=>
  ⟨.ref ⇑s,_,I.laid g (aZ _) (show NI X.prog X.w _ h' _ (.lst ys) from⟨f,a,c,d,e⟩),rfl,q _ (I.Bh.fresh (aZ _))⟩
 rcases j with j | j
 ·let⟨a,d,pl,f⟩:=I.list j;let k:=d.length;let⟨o,v,m,n,t⟩:=pl.isList;apply call_list_seq p (.inl rfl) v m t (λh' c g e=>i a d f h' c g e) (by dsimp[aU]<;>lia)
 ·let⟨a,d,pl,f⟩:=I.tuple j;let k:=d.length;let⟨o,v,m,n,t⟩:=pl;apply call_list_seq p (.inr rfl) v m t (λh' c g e=>i a d f h' c g e) (by dsimp[aU]<;>lia)
def Ya:Ag X (.type "tuple") (λxs H Q=>∃p ys,xs=[.ref p]/\((BZ X.K H p ys/\∀l,H l=aB->Q (.ref l) (upd H l (.tup ys)))\/(DJ X.K H p ys/\Q (.ref p) H))):=by
 ext n s U H xs t Q I r h;let⟨p,ys,rfl,h⟩:=h;let⟨u,rfl,k⟩:=W9 r;cases k;rcases h with⟨a,q⟩ | ⟨a,q⟩
 ·let⟨g,c,pl,d⟩:=I.list a;let i:=c.length;show call_tuple_list pl.isList (λh' j=>?_) (by dsimp[aU]<;>lia);let f:=I.kept (t':=s.toks) j
  let m:=
   f.laid (t':=s.toks) (λb o e=>aF _ e) (aZ _) (show NI X.prog X.w _ _ _ (.tup ys) from⟨⟨d,λo e=>xN e⟩,g,c,tO _ _⟩)
  apply⟨.ref h'.objs.size,_,m,rfl,q _ (f.Bh.fresh (aZ _))⟩
 ·let⟨g,c,pl,d⟩:=I.tuple a;apply call_tuple_same pl ⟨.ref p,H,I,rfl,q⟩
def CD(K:aH)(T:Dg)(x:V)(H:Hp):Prop:=match x with
 | .str _=>T = "str"
 | .int _=>T = "int"
 | .ref p=>(T = "list"/\∃xs,BZ K H p xs)\/(T = "tuple"/\∃o,K.lookup p=aA o/\o.cls = .type "tuple"/\o.dict=aB)\/
   (T = "dict"/\((∃Bg,H p=aA (.IK Bg))\/∃Bg,H p=aA (.E6 Bg)))\/(T = "set"/\∃S n,H p=aA (.set S n))\/(T = "tuple"/\∃xs,H p=aA (.tup xs))
 | _=>False
def V1{k:MI}{U:St}{H:Hp}{s:aN}{T:Dg}{x:V}{v:aG}(I:Inv X k U H s)(r:RelV x v)(ty:CD X.K T x H) :
  s.TypeIs v T/\∀a,v = .ref a->∃Du,s.heap.get? a=aA Du/\Du.dict=aB:=by
 cases x with
 | str z=>
  let⟨t,rfl⟩:=r;cases (ty);apply⟨typeIs_str s z t,λ_ e=>nomatch e⟩
 | int i=>
  let⟨t,rfl⟩:=r;cases (ty);apply⟨sU s i t,λ_ e=>nomatch e⟩
 | ref p=>
  cases r;rcases ty with⟨rfl,xs,l⟩ | ⟨rfl,o,b,j,g⟩ | ⟨rfl,b⟩ | ⟨rfl,S,n,b⟩ | ⟨rfl,xs,b⟩;rotate_left 4
  ·let⟨z,m,_,o,h,f,_⟩:=(I.Bh p _ b);show⟨⟨o,h,f⟩,λa e=>?_⟩;cases e;apply⟨o,h,z.2 o h⟩
  ·let⟨m,_,pl,_⟩:=I.list l;show⟨pl.isList.typeIs,λa e=>?_⟩;cases e;let⟨o,n,e,c,g,_⟩:=pl;apply⟨o,e,g⟩
  ·show⟨⟨o,I.Fs p o b,j⟩,λa e=>?_⟩;cases e;apply⟨o,I.Fs _ o b,g⟩
  ·let z:∃o,s.heap.get? p=aA o/\o.ExactDict:=by
    rcases b with⟨q,b⟩ | ⟨q,b⟩
    ·let⟨_,_,_,_,o,_,_,e,d,_⟩:=I.Bh p _ b;apply⟨o,e,d⟩
    ·let⟨_,_,_,_,o,_,_,e,d,_⟩:=I.Bh p _ b;apply⟨o,e,d⟩
   let⟨o,e,d⟩:=z;show⟨⟨o,e,d.1⟩,λa f=>?_⟩;cases f;apply⟨o,e,d.2.1⟩
  ·let⟨o,_,_,_,e,d,_⟩:=I.Bh p _ b;show⟨⟨o,e,d.1⟩,λa f=>?_⟩;cases f;apply⟨o,e,d.2.1⟩
 | _=>apply cR ty
def Im(K:aH)(T:Dg)(r:V->List V->Hp->IG->Prop)(to:TE):TE:=λU H Q=>to U H λx H1=>CD K T x H1/\r x [] H1 Q
def Ex(K:aH)(T:Dg)(r:V->List V->Hp->IG->Prop)(to:TE)(t:De):TE:=λU H Q=>to U H λx H1=>CD K T x H1/\t U H1 λxs H2=>r x xs H2 Q
variable {o e:bS}{Fc:Fj}{to:TE}{t:De}{name:bH}{apos IQ:gy}{T id:Dg}{r:V->List V->Hp->IG->Prop}
def Zh8(p:PlainAttrs T)(c:Slot T name id)(d:typeOf (.builtin id)=pure (.type "method_descriptor"))(i:Cz X id r)(n:DC X o to)
  (b:jf o name X.env (eval o X.env)=eval o X.env|>On) (a:(apos.endLine==IQ.line)=aD|>On):DC X (.Call (.Attribute o name apos) [] [] IQ) (Im X.K T r to):=by
 ext f s U H Q I h;show wpAny_Call_method0_late b a (ZV (n f s U H _ I h) λv s1 ⟨x,m,e,g,ty,j⟩=>?_);let⟨l,k⟩:=V1 e g ty;apply⟨T,id,p,c,d,l,k,kK rfl (PySem.evalArgs_none (i f s1 U m x [] v [] Q e g .nil j))⟩
def Va(E:PlainAttrs T)(d:Slot T name id)(i:typeOf (.builtin id)=pure (.type "method_descriptor"))(m:Cz X id r)(C:DC X o to)(z:M8 X (e::Fc) t)
  (c:jf o name X.env (eval o X.env)=eval o X.env|>On)
  (f:((cQ IQ (aL (e::Fc) X.env)).all (λx=>!x.1)&&(qj IQ (mY [] X.env)).all (λx=>x.1.isSome)
   &&decide ((e::Fc).length+([]:List pV).length+(if([]:List pV).isEmpty then 0 else 1)<30))=aD:=by rfl)
  (b:(apos.endLine==IQ.line)=aD|>On) (hs:aL (e::Fc) X.env=(aC,eval e X.env)::aL Fc X.env|>On) (a:(cQ IQ (aL Fc X.env)).any (·.1)=aC|>On) :
  DC X (.Call (.Attribute o name apos) (e::Fc) [] IQ) (Ex X.K T r to t):=by
 ext g s U H Q I h;show wpAny_Call_method_late c f b rfl (ZV (C g s U H _ I h) λv s1 ⟨x,D,k,l,ty,n⟩=>?_);let⟨w,u⟩:=V1 k l ty;show⟨T,id,E,d,i,w,u,?_⟩;let j:=z IQ g s1 U D _ k n;rw[hs] at j ⊢;show kK (by change(aC || (cQ IQ (aL Fc X.env)).any (·.1))=aC;rw[a]<;>rfl) (lH ?_);apply ZV j λA s2 ⟨vs,q,y,p,B⟩=>m g s2 U q x vs v A Q y l p B
end
def Jy(X:Cx)(id:Dg)(r:V->List V->Hp->IG->Prop):Prop:=
 ∀(Iu:MI)(s:aN)(U:St)(H:Hp)(x:V)(xs:List V)(v:aG)(us:E4)(Q:IG),Inv X Iu U H s->RelV x v->Bj xs us->r x xs H Q->
  ao (model X.prog X.w) X.A (call (.builtin id) (v::us)) (EP X Iu U Q) X.Bk s
def Bj.one:∀{x:V}{a:E4},Bj [x] a->∃u,a=[u]/\RelV x u:=by ext x a h;cases h with | cons r t=>cases t;apply⟨_,rfl,r⟩
def Bj.two:∀{x y:V}{a:E4},Bj [x,y] a->∃u v,a=[u,v]/\RelV x u/\RelV y v:=by ext x y a h;cases h with | cons r t=>let⟨u,rfl,q⟩:=Bj.one t;apply⟨_,_,rfl,r,q⟩
def Bj.zero:∀{us:E4},Bj [] us->us=[]
 | _,.nil=>rfl
def Bj.dropLast{xs:List V}{a:E4}(h:Bj xs a):Bj xs.dropLast a.dropLast:=by
 induction h with
 | nil=>apply .nil
 | cons r t E2=>
  cases t with
  | nil=>apply .nil
  | cons q t'=>apply .cons r E2
def Bj.rep{xs:List V}{a:E4}(h:Bj xs a):∀k:Nat,Bj (ak k xs).flatten (ak k a).flatten
 | 0=>.nil
 | k+1=>by rw[fj,fj,jJ,jJ];apply Bj.append h (Bj.rep h k)
def SF{c:Type}(l:List c):l.eraseIdx (la l-1)=l.dropLast:=by
 induction l with
 | nil=>rfl
 | cons a r E2=>
  cases r with
  | nil=>rfl
  | cons b r=>
   let e:(a::b::r).length-1=((b::r).length-1)+1:=by
    let f:(a::b::r).length=r.length+2:=rfl;let d:(b::r).length=r.length+1:=rfl
    lia
   rw[e,nM,E2]
   all_goals rfl
def wj(a:E4):∀(k:Nat)(acc:E4),
  sV (λd b=>d++b) acc.toArray (ak k a.toArray)=(acc++(ak k a).flatten).toArray
 | 0,acc=>⋯
 | k+1,acc=>by
  let e:acc.toArray++a.toArray=(acc++a).toArray:=⋯
  let c:(acc++a)++(ak k a).flatten=acc++(ak (k+1) a).flatten:=by rw[fj,jJ,gn]
  rw[<-c,<-wj a k (acc++a),<-e,fj,gQ]
section
variable {X:Cx}{Iu:MI}{U:St}{H:Hp}{s:aN}{l b:aM}{xs ys zs:List V}
def Inv.aax{a its':E4}{n:Nat}{f:Array aG->Array aG}{t':Nat}(I:Inv X Iu U H s)(i:H l=aA (.lst xs))
  (e:s.heap.get? l=aA {cls:=.type "list",data:=.seq a.toArray n}) (d:f a.toArray=its'.toArray) (g:Bj ys its') (b:la ys<=sizeLine) :
  Inv X Iu U (upd H l (.lst ys)) {s with heap:=s.heap.update l (eU f),toks:=t'}:=by
 let q:=PySem.IsL.update e f;rw[d] at q;show I.write (by rw[i];apply trivial) (.inl rfl) (λj u c h=>(bV s.heap (eU f) (bN c)).trans h) ⟨_,q⟩ ?_;apply⟨b,its',_,g,q⟩
def Inv.ab7{a:E4}{t':Nat}(I:Inv X Iu U H s)(c:Bj ys a)(b:la ys<=sizeLine) :
  Inv X Iu U (upd H ⇑s (.lst ys)) {s with heap:=s.heap.push {cls:=.type "list",data:=.seq a.toArray},toks:=t'}:=
 I.laid (λ_ _ q=>aF _ q) (aZ _) ⟨b,a,0,c,aV _ rfl⟩
def Inv.fresh(I:Inv X Iu U H s):H ⇑s=aB:=I.Bh.fresh (aZ _)
theorem Inv.BJ(I:Inv X Iu U H s)(b:H l=aA (.lst xs)):la xs<=sizeLine/\∃(a:E4) (n:Nat),Bj xs a/\la xs=la a/\s.heap.get? l=aA {cls:=.type "list",data:=.seq a.toArray n}:=by let⟨z,a,n,r,e⟩:=I.Bh l _ b;apply⟨z,a,n,r,r.length,e⟩
def RA{n:Nat}(h:n<=sizeLine):ji n=aC:=by apply decide_eq_false ()
end
section
variable {X:Cx}
def FR:V->List V->Hp->IG->Prop:=λx vs H Q=>∃l xs y,x = .ref l/\vs=[y]/\H l=aA (.lst xs)/\xs.length<sizeLine/\Q .IB (upd H l (.lst (xs++[y])))
def Y2:Jy X "list.append" FR:=by
 ext j s U H x vs v k Q I c b h;let⟨l,xs,y,rfl,rfl,a,g,q⟩:=h;cases c;let⟨u,rfl,f⟩:=b.one;let⟨z,d,n,r,i,e⟩:=I.BJ a;show jP F.slot_list_append ⟨_,e,rfl⟩ F.entry_list_append (F.args_list_append_2 _ _) (PySem.list_append l d.toArray n u (by rw[aU];lia)) ⟨e,?_⟩;show⟨.IB,_,I.aax a e ⋯ (r.append (.cons f .nil)) ?_,rfl,q⟩;rw[aq,bu]
 lia
def FT:V->List V->Hp->IG->Prop:=λx vs H Q=>∃l b xs zs,x = .ref l/\vs=[.ref b]/\H l=aA (.lst xs)/\H b=aA (.lst zs)/\xs.length+zs.length<=sizeLine/\Q .IB (upd H l (.lst (xs++zs)))
def RC:Jy X "list.extend" FT:=by
 ext C s U H x vs v D Q I k j h;let⟨l,b,xs,y,rfl,rfl,g,o,A,q⟩:=h;cases k;let⟨u,rfl,w⟩:=j.one;cases w;let⟨z,d,n,r,B,e⟩:=I.BJ g;let⟨z2,a,t,i,p,m⟩:=I.BJ o;let f:d.toArray.size+a.toArray.size<=sizeLine:=by rw[aU,aU];lia
 let c:¬(!d.toArray.isEmpty&&ji (d.toArray.size+a.toArray.size))=aD:=by rw[RA f,sX];apply bg
 show jP F.slot_list_extend ⟨_,e,rfl⟩ F.entry_list_extend (F.args_list_extend_2 _ _)
  (AutoSeq1.list_extend_list_list_0 l d.toArray n b a.toArray t c () ()) ⟨e,m,?_⟩
 show⟨.IB,_,I.aax g e ⋯ (r.append i) ?_,rfl,q⟩;rw[aq]
 lia
def Kg:V->List V->Hp->IG->Prop:=λx vs H Q=>∃l xs y,x = .ref l/\vs=[]/\H l=aA (.lst xs)/\xs[xs.length-1]?=aA y/\Q y (upd H l (.lst xs.dropLast))
def zr:Jy X "list.pop" Kg:=by
 ext o s U H x vs v p Q I g f h;let⟨l,xs,y,rfl,rfl,d,j,q⟩:=h;cases g;let c:=f.zero;subst c;let⟨z,a,n,r,i,e⟩:=I.BJ d;let⟨u,k,m⟩:=r.get j;let b:a.toArray[a.toArray.size-1]?=aA u:=by change a.toArray[a.length-1]?=aA u;rw[<-dG,<-i];apply k
 show jP F.slot_list_pop ⟨_,e,rfl⟩ F.entry_list_pop (F.args_list_pop_1 _) (MeetsSeq.list_pop_last l a.toArray n u b (by rw[aU];lia)) ⟨e,?_⟩;show⟨y,_,I.aax (its':=a.dropLast) d e ?_ r.dropLast ?_,m,q⟩
 ·change a.toArray.eraseIdxIfInBounds (a.toArray.size-1)=a.dropLast.toArray;rw[aU,List.eraseIdxIfInBounds_toArray,SF]
 ·rw[List.length_dropLast]
  lia
def B6:V->List V->Hp->IG->Prop:=λx vs H Q=>∃l xs,x = .ref l/\vs=[]/\H l=aA (.lst xs)/\Q .IB (upd H l (.lst []))
def e':Jy X "list.clear" B6:=by ext i s U H x vs v j Q I d c h;let⟨l,xs,rfl,rfl,b,q⟩:=h;cases d;let a:=c.zero;subst a;let⟨z,f,n,r,g,e⟩:=I.BJ b;show jP F.slot_list_clear ⟨_,e,rfl⟩ F.entry_list_clear (F.args_list_clear_1 _) (AutoSeq1.list_clear_list_0 l f.toArray n (by rw[aU];lia)) ⟨e,?_⟩;apply⟨.IB,_,I.aax (its':=[]) (ys:=[]) b e rfl .nil (dH _),rfl,q⟩
def Ba:Dh:=λx y H Q=>∃l b xs zs,x = .ref l/\y = .ref b/\H l=aA (.lst xs)/\H b=aA (.lst zs)/\xs.length+zs.length<=sizeLine/\∀p,H p=aB->Q (.ref p) (upd H p (.lst (xs++zs)))
def Zh9:FL X (iI .Add) Ba:=by
 ext w s U H x y v u Q I g f h;let⟨l,b,xs,o,rfl,rfl,k,j,p,q⟩:=h;cases g;cases f;let⟨z,c,n,r,t,e⟩:=I.BJ k;let⟨z2,a,A,d,m,i⟩:=I.BJ j;show PySem.P.add_list e i ?_ (by rw[aU,aU];lia);let ea:c.toArray++a.toArray=(c++a).toArray:=⋯
 rw[ea];apply⟨.ref _,_,I.ab7 (r.append d) (by rw[aq];lia),rfl,q _ I.fresh⟩
def GX:Dh:=λx y H Q=>∃l k xs,x = .ref l/\y = .int k/\H l=aA (.lst xs)/\-(2^63)<=k/\k<2^63/\xs.length*k.toNat<=sizeLine/\
 ∀p,H p=aB->Q (.ref p) (upd H p (.lst (ak k.toNat xs).flatten))
def Zdd{a:Type}(xs:List a)(k:Nat):(ak k xs).flatten.length=k*la xs:=⋯
def Zia:FL X (iI .Mult) GX:=by
 ext L s U H x y v u Q I A w h;let⟨l,k,xs,rfl,rfl,D,J,E,j,q⟩:=h;cases A;let⟨t,rfl⟩:=w;let⟨z,b,n,r,B,e⟩:=I.BJ D;let i:b.toArray.size*k.toNat<=sizeLine:=by rw[aU,<-B];apply j
 let f:¬b.toArray.size*k.toNat>(2^63-1)/8:=by
  have:(sizeLine:Nat)<=(2^63-1)/8:=∅
  lia
 let g:¬(!Builtin.List.listFitsIndex k)=aD:=by rw[fitsIndex_both J E];apply bg
 let c:¬ji (b.toArray.size*k.toNat)=aD:=by rw[RA i];apply bg
 let d:sV (λC p=>C++p) #[] (ak (if b.toArray.isEmpty=aD then 0 else k.toNat) b.toArray)=(ak k.toNat b).flatten.toArray:=by
  let G:=λm=>by let:=wj b m [];rw[oP] at this;apply this
  rw[G]
  cases b with
  | nil=>simp
  | cons a IW=>rw[Fb ⋯]
 show wpAny_binaryOp_repeat_ref rfl ⟨_,e,rfl⟩ (λo=>sU o k t) noFill_list_mul F.fills_int_mul F.slot_int_rmul repeat_list F.slot_int_index.lookup
  (jP F.slot_int_rmul (sU s k t) F.entry_int_rmul (F.args_int_rmul_2 _ _) (int___rmul___int_list k t l b.toArray n)
   ⟨e,rfl,⟨_,e,rfl⟩,jP F.slot_list_mul ⟨_,e,rfl⟩ F.entry_list_mul (F.args_list_mul_2 _ _) (AutoListH.list___mul___list_int_3 l b.toArray n k t g f c) ⟨e,?_⟩⟩)
 rw[d];apply⟨.ref _,_,I.ab7 (r.rep k.toNat) (by rw[Zdd,Nat.mul_comm];apply j),rfl,q _ I.fresh⟩
end
end _l
namespace _k
open PySem.W PySem.Calls
def Qw{P:Params}{h:b7}:∀(ns:E1)(vs:E4),WellAll P h vs (ns.map rT)->jI vs ns:=by
 ext ns
 induction ns with
 | nil=>
  ext vs w;cases w;apply .nil
 | cons n ns E2=>
  ext vs w
  cases w with
  | cons a b=>
   cases a;apply .cons _ _ (E2 _ b)
def ud{l:OpenLaw}{n:Nat}(s:l.most=aA n){P:Params}{h:b7}{b:List WData}{e:E4}
  (c:l.row.toRowW.claim.pre b=aD) (j:WellAll P h e b) :
  ∃a vs ns,e=[bp a]/\b=[WData.list (ns.map rT)]/\h.get? a=aA {cls:=.type "list",data:=.seq vs.toArray}/\jI vs ns/\ns.length<=n:=by
 let i:=(pre_splitW c).1;let m:=(pre_splitW c).2;let⟨d,r,rfl,q,p⟩:=hasAllW_cons i;obtain rfl:=hasAllW_nil p;let⟨xs,rfl,o⟩:=hasW_list q;let⟨ns,rfl⟩:=items_int o
 let f:ns.length<=n:=by
  let g:(WTm.not (.lt (.lit (.int (n:Int))) (.len (.arg 0)))).holds [] {args:=[.list (ns.map .int)]}=aD:=by let g:=(holds_andW m).1;rw[s] at g;apply g
  let k:=condW_of g (w_not (w_lt w_lit (w_len_list (w_arg rfl))))
  first
   | (rw[decide_eq_true MR] at k;apply absurd k rfl)
   | (simp at k;lia)
 cases j with
 | cons aay MW=>
  cases MW
  cases aay with
  | list Fu ack=>apply⟨_,_,ns,rfl,rfl,Fu,Qw ns _ ack,f⟩
def ue(l:OpenLaw)(a:List WData):l.row.toRowW.claim.post a (.bool aD) a=aD:=
 postW_of
  (show WShape.has [] (.bool aD) .bool=aD by first | rfl | decide | simp[WShape.arms])
  (w_eq_bool (w_res rfl) w_lit) rfl
end _k
namespace _l
section
variable {κ:Type} [DecidableEq κ]
def K8(Bg:List (κ×V))(k:κ):Option V:=(Bg.find? λHd=>decide (Hd.1=k)).map (·.2)
def HU(Bg:List (κ×V))(k:κ)(v:V):List (κ×V):=
 if(Bg.any λHd=>decide (Hd.1=k))=aD then Bg.map (λHd=>if Hd.1=k then(Hd.1,v) else Hd) else Bg++[(k,v)]
def Si{p:κ×V}{r:List (κ×V)}{k:κ}(e:p.1=k):K8 (p::r) k=aA p.2:=by simp[K8,e]
def Sj{p:κ×V}{r:List (κ×V)}{k:κ}(e:¬p.1=k):K8 (p::r) k=K8 r k:=by simp[K8,e]
def X6(k:κ):∀Bg:List (κ×V),(Bg.any λa=>decide (a.1=k))=(K8 Bg k).isSome
 | []=>rfl
 | p::r=>by
  rw[pw];by_cases e:p.1=k
  ·dsimp[Si e,decide_eq_true e,Bool.true_or,Option.isSome_some]
  ·rw[Sj e,decide_eq_false e,Bool.false_or];apply X6 k r
def R5(a:List (κ×V))(k:κ)(v:V):(HU a k v).length<=la a+1:=by
 delta HU;split
 ·rw[aK];lia
 ·rw[aq,bB,lT];lia
def HX.abw{o:Option V}{u:F_}(r:HX o u):o.isSome=u.isSome:=by
 cases o with
 | none=>cases u with
  | none=>rfl
  | some _=>apply(r).elim
 | some _=>cases u with
  | none=>apply(r).elim
  | some _=>rfl
def KV.val{d:List (κ×V)}{vs:List (κ×aG)}(r:KV d vs)(k:κ):HX (K8 d k) (qo vs k):=by
 induction r with
 | nil=>apply cE
 | @cons p q ps MQ h t E2=>
  let⟨c,f⟩:=h;by_cases e:p.1=k
  ·let a:=c.symm.trans e;let b:qo (q::MQ) k=aA q.2:=by simp[qo,a]
   rw[Si e,b];apply f
  ·let a:¬q.1=k:=λz=>e (c.trans z);let b:qo (q::MQ) k=qo MQ k:=by simp[qo,a]
   rw[Sj e,b];apply E2
def KV.any{b:List (κ×V)}{vs:List (κ×aG)}(r:KV b vs)(k:κ):(b.any λa=>decide (a.1=k))=vs.any λa=>decide (a.1=k):=by
 delta KV at r
 induction r with
 | nil=>rfl
 | cons h t E2=>rw[pw,pw,E2,h.1]
def KV.abx{c:List (κ×V)}{vs:List (κ×aG)}(r:KV c vs)(k:κ){y:V}{u:aG}(f:RelV y u) :
  KV (c.map λa=>if a.1=k then(a.1,y) else a) (vs.map λa=>if a.1=k then(a.1,u) else a):=by
 induction r with
 | nil=>apply .nil
 | @cons p q ps MQ h t E2=>
  rw[aa,aa];show .cons ?_ E2;let⟨b,d⟩:=h;by_cases e:p.1=k
  ·rw[Be e,Be (b.symm.trans e)];apply⟨b,f⟩
  ·rw[Fb e,Fb (λz=>e (b.trans z))];apply⟨b,d⟩
def KV.put{a:List (κ×V)}{vs:List (κ×aG)}(r:KV a vs)(k:κ){y:V}{u:aG}(b:RelV y u):KV (HU a k y) (stored vs k u):=by
 delta HU stored;rw[r.any k];by_cases e:(vs.any λc=>decide (c.1=k))=aD
 ·rw[Be e,Be e];apply r.abx k b
 ·rw[Fb e,Fb e];apply Paired.snoc r ⟨rfl,b⟩
def KV.length{a:List (κ×V)}{vs:List (κ×aG)}(r:KV a vs):la a=la vs:=Paired.length r
end
def yX{P:bC}{w:bU}{k:MJ}{u:aG}(r:RelV (FH k) u):(F7 P w).is k u=aD:=by
 cases k with
 | inl i=>let⟨t,e⟩:=(r);subst e;apply ZH P w i t
 | inr x=>let⟨t,e⟩:=(r);subst e;apply Qr P w x t
def Ze{P:bC}{w:bU}:∀{ks:List MJ}{us:E4},Bj (ks.map FH) us->ItemsAre (F7 P w) ks us
 | [],_,r=>by rw[kJ] at r;cases r;apply .nil
 | k::ks,_,r=>by
  rw[aa] at r
  cases r with
  | cons h t=>apply .cons (yX h) (Ze t)
abbrev KT(H:Hp):List (List MJ×V)->List (List MJ×aM×aG)->Prop:=Paired λp q=>p.1=q.1/\H q.2.1=aA (.tup (p.1.map FH))/\RelV p.2 q.2.2
def KT.val{H:Hp}{c:List (List MJ×V)}{xs:List (List MJ×aM×aG)}(r:KT H c xs)(k:List MJ):HX (K8 c k) ((sY xs k).map (·.2)):=by
 induction r with
 | nil=>apply cE
 | @cons p q ps MQ h t E2=>
  let⟨d,_,f⟩:=h;by_cases e:p.1=k
  ·let a:=d.symm.trans e;let b:sY (q::MQ) k=aA q.2:=by simp[sY,a]
   rw[Si e,b];apply f
  ·let a:¬q.1=k:=λz=>e (d.trans z);let b:sY (q::MQ) k=sY MQ k:=by simp[sY,a]
   rw[Sj e,b];apply E2
def KT.abx{H:Hp}{d:List (List MJ×V)}{xs:List (List MJ×aM×aG)}(r:KT H d xs)(k:List MJ){y:V}{u:aG}(g:RelV y u) :
  KT H (d.map λb=>if b.1=k then(b.1,y) else b) (xs.map (putAt k u)):=by
 induction r with
 | nil=>apply .nil
 | @cons p q ps MQ h t E2=>
  rw[aa];show .cons ?_ E2;let⟨a,c,f⟩:=h;delta putAt;by_cases e:p.1=k
  ·rw[Be e,Be (a.symm.trans e)];apply⟨a,c,g⟩
  ·rw[Fb e,Fb (λz=>e (a.trans z))];apply⟨a,c,f⟩
def KT.put{H:Hp}{a:List (List MJ×V)}{xs:List (List MJ×aM×aG)}(r:KT H a xs)(k:List MJ){b:aM}{y:V}{u:aG}(f:H b=aA (.tup (k.map FH)))(c:RelV y u) :
  KT H (HU a k y) (storedH xs k b u):=by
 let e:(a.any λd=>decide (d.1=k))=(sY xs k).isSome:=by rw[X6,(r.val k).abw,qp]
 delta HU storedH;rw[e];by_cases q:(sY xs k).isSome=aD
 ·rw[Be q,Be q];apply r.abx k c
 ·rw[Fb q,Fb q];apply Paired.snoc r ⟨rfl,f,c⟩
def KT.keeps{H a:Hp}{c:List (List MJ×V)}{xs:List (List MJ×aM×aG)}(r:KT H c xs)(d:∀b ys,H b=aA (.tup ys)->a b=aA (.tup ys)):KT a c xs:=
 Paired.abg r λ_ _ z=>⟨z.1,d _ _ z.2.1,z.2.2⟩
section
variable {P:bC}{w:bU}{H:Hp}{h:b7}{a:aM}
def Zgi{u:HO}(ok:FI P w H h)(e:B3 H a u):NI P w H h a u:=e.ok ok
def PG{b:List (MJ×V)}(ok:FI P w H h)(e:B3 H a (.IK b)):la b<=sizeLine/\(a==iQ)=aC/\∃vs,KV b vs/\h.DictOf (F7 P w) a vs:=
 Zgi ok e
def Zlk{b:List (MJ×V)}(ok:FI P w H h)(e:H a=aA (.IK b)):la b<=sizeLine/\(a==iQ)=aC/\∃vs,KV b vs/\h.DictOf (F7 P w) a vs:=PG ok (.inl e)
def Pd{ks:List MJ}(ok:FI P w H h)(e:H a=aA (.tup (ks.map FH))):(nJ (F7 P w)).is h ks a:=by let⟨_,d,r,o,f,c,n,b⟩:=(ok a _ e);apply⟨o,d.toArray,n,f,c,b,by simpa using Ze r⟩
def hX{c:List (List MJ×V)}(ok:FI P w H h)(e:B3 H a (.E6 c)):la c<=sizeLine/\(a==iQ)=aC/\
  ∃xs,KT H c xs/\h.DictOfH (nJ (F7 P w)) a xs:=by
 let⟨z,y,xs,r,o,f,ep,j,i,d,k,g⟩:=(Zgi ok e);show⟨z,y,xs,r,o,f,ep,j,i,d,k,λx b=>?_,g⟩
 let all:∀{l:List (List MJ×V)}{m:List (List MJ×aM×aG)},KT H l m->∀x∈m,(nJ (F7 P w)).is h x.1 x.2.1:=by
  ext l m q
  induction q with
  | nil=>ext x b;apply nomatch b
  | @cons p q ps MQ MO t E2=>
   ext x b;rcases aW.mp b with e | b
   ·subst e;apply Pd ok (by rw[<-MO.1];apply MO.2.1)
   ·apply E2 x b
 apply all r x b
def Zll{b:List (List MJ×V)}(ok:FI P w H h)(e:H a=aA (.E6 b)):la b<=sizeLine/\(a==iQ)=aC/\
  ∃xs,KT H b xs/\h.DictOfH (nJ (F7 P w)) a xs:=hX ok (.inl e)
end
def DM(H:Hp)(a:aM)(y:V)(r:Option V):Prop:=
 (∃Bg k,B3 H a (.IK Bg)/\y=FH k/\r=K8 Bg k)\/∃Bg k b,B3 H a (.E6 Bg)/\y = .ref b/\H b=aA (.tup (k.map FH))/\r=K8 Bg k
def JZ(H:Hp)(a:aM)(y v:V)(H':Hp):Prop:=
 (∃Bg k,H a=aA (.IK Bg)/\y=FH k/\Bg.length<sizeLine/\H'=upd H a (.IK (HU Bg k v)))\/
 ∃Bg k b,H a=aA (.E6 Bg)/\y = .ref b/\H b=aA (.tup (k.map FH))/\Bg.length<sizeLine/\H'=upd H a (.E6 (HU Bg k v))
section
variable {X:Cx}{Iu:MI}{U:St}{H:Hp}{s:aN}{a:aM}{y v:V}{u r:aG}{o:Option V}{A:bX}{E:IE}
def Inv.big(I:Inv X Iu U H s):iQ<⇑s:=by let h:=(I.mod.glob.keeps I.MM).lt;apply Nat.lt_trans ∅ h
def bk{Q:IE}(o:A.units+1<fu)(I:Inv X Iu U H s)(g:DM H a y (aA v))(j:RelV y u)(h:∀c Kl,Inv X Iu U H Kl->RelV v c->Q c Kl) :
  ao (model X.prog X.w) A (oA (.ref a) u) Q E s:=by
 rcases g with⟨q,k,e,d,l⟩ | ⟨q,k,b,e,d,n,l⟩
 ·subst d;let⟨z,m,vs,rel,dd⟩:=PG I.Bh e;let⟨c,f,FJ⟩:=HX.some_of (by rw[l];apply rel.val k);apply wpAny_getItem_of (yX j) dd.mapOf f (h c _ (I.tok _) FJ)
 ·subst d;cases (j);let⟨z,m,xs,rel,dd⟩:=hX I.Bh e;let⟨c,f,FJ⟩:=HX.some_of (by rw[l];apply rel.val k);let⟨p,hp,i⟩:=oE.mp f;show wpAny_getItem_heap (mL o) (Pd I.Bh n) dd hp ?_;rw[i];apply h c _ (I.tok _) FJ
def Zde{Q:IE}(j:A.units+1<fu)(I:Inv X Iu U H s)(g:DM H a y o)(f:RelV y u)(h:∀Kl,Inv X Iu U H Kl->Q (.bool (!o.isSome)) Kl) :
  ao (model X.prog X.w) A (dz .NotIn u (.ref a)) Q E s:=by
 rcases g with⟨m,k,e,d,l⟩ | ⟨m,k,b,e,d,i,l⟩
 ·subst d;let⟨z,c,vs,rel,dd⟩:=PG I.Bh e;show wpAny_notIn_of (yX f) c dd.mapOf ?_;rw[<-(rel.val k).abw,<-l];apply h _ (I.tok _)
 ·subst d;cases (f);let⟨z,c,xs,rel,dd⟩:=hX I.Bh e;show wpAny_notIn_heap (mL j) (Pd I.Bh i) c dd ?_;let q:=(rel.val k).abw;rw[qp] at q;rw[<-q,<-l];apply h _ (I.tok _)
def zb{h':b7}{t':Nat}{c:HO}(I:Inv X Iu U H s)(f:DK (H a))(hs:cu a s.heap h')(d:∃q,h'.get? a=aA q)(new:NI X.prog X.w (upd H a c) h' a c) :
  Inv X Iu U (upd H a c) {s with heap:=h',toks:=t'}:=
 I.write f (.inl rfl) (λb q e z=>(hs.2 b e).trans z) d new
def Zib{P:bC}{w:bU}{d:Hp}{h':b7}{b:List (MJ×V)}{vs:List (MJ×aG)}(z:la b<=sizeLine)(c:(a==iQ)=aC)(rel:KV b vs)(dd:h'.DictOf (F7 P w) a vs) :
  NI P w d h' a (.IK b):=⟨z,c,vs,rel,dd⟩
def zp{p:Hp}{Q:Unit->aN->Prop}(M:A.units+1<fu)(I:Inv X Iu U H s)(g:JZ H a y v p)(w:RelV y u)(t:RelV v r)(h:∀Kl,Inv X Iu U p Kl->Q .unit Kl) :
  ao (model X.prog X.w) A (setItem (.ref a) u r) Q E s:=by
 rcases g with⟨f,k,e,o,l,j⟩ | ⟨f,k,b,e,o,x,l,j⟩
 ·subst o j;let⟨z,m,vs,rel,dd⟩:=Zlk I.Bh e;let C:vs.length<=sizeLine:=by rw[<-rel.length];apply z
  let n:(HU f k v).length<=sizeLine:=by let:=R5 f k v;lia
  show wpAny_setItem_pairs (yX w) dd λh' d hs=>h _ ?_;let L:∃q,h'.get? a=aA q:=let⟨q,_,_,i,_⟩:=d;⟨q,i⟩;apply zb I (by rw[e];apply cE) hs L (Zib n m (rel.put k t) d)
 ·subst o j;cases (w);let⟨z,m,xs,rel,dd⟩:=Zll I.Bh e;let C:xs.length<=sizeLine:=by rw[<-Paired.length rel];apply z
  let n:(HU f k v).length<=sizeLine:=by let:=R5 f k v;lia
  show wpAny_setItem_heap (mL M) (Pd I.Bh x) dd λh' d hs=>h _ ?_;let⟨q,F,ep,i,J,D,N,_,G⟩:=d;show zb I (by rw[e];apply cE) hs ⟨q,i⟩ ⟨n,m,_,(rel.put k x t).keeps λc ys B=>?_,q,F,ep,i,J,D,N,G⟩;rw[a0 (Zkq B e (λz=>nomatch z))];apply B
end
def B'(i:bS):Prop:=∀aai BG,subscripted i aC aai BG=operate [aai,BG] (oA aai BG)
def Zdf{prog:bC}{w:bU}{A:bX}{E:IE}{s:aN}{env:n8}{b a:bS}{pos:gy}{T id:Dg}{Q:IE}
  (l:typeLookup (.type T) "__getitem__" = pure (aA (.builtin id))) (hs:B' a)
  (h:ao (model prog w) A (eval b env) (λo f=>ao (model prog w) A (eval a env) (λi c=>c.TypeIs o T/\ao (model prog w) A (oA o i) Q E c) E f) E s) :
  ao (model prog w) A (eval (.Subscript b a pos) env) Q E s:=by
 show sT (bQ h (λo f h₁=>bQ h₁ (λi c d=>?_) λ_ _ x=>x) λ_ _ x=>x);let⟨k,d⟩:=d;show aE ?_;show aE (oQ k l ?_);let g:ao (model prog w) A (subscripted a aC o i) (λr e=>ao (model prog w) A (letTemporaryGo b o r >>= λ_=>pure r) Q E e) E c:=by rw[hs o i];apply wpAny_operating (bQ d (λr e j=>aE (wpAny_letTemporaryGo (aJ j))) λ_ _ x=>x)
 first
  | apply aJ (aE g)
  | apply aE (aJ (aE g))
  | apply aE g
def Wx{X:Cx}{d:MI}{U:St}{H:Hp}{s:aN}{a:aM}{y:V}{o:Option V}(I:Inv X d U H s)(g:DM H a y o):s.TypeIs (.ref a) "dict":=by
 rcases g with⟨c,k,e,_,_⟩ | ⟨c,k,b,e,_,_,_⟩
 ·let⟨_,_,vs,_,dd⟩:=PG I.Bh e;apply dd.typeIs
 ·let⟨_,_,xs,_,dd⟩:=hX I.Bh e;apply dd.typeIs
def GN(Dy ty:TE):TE:=λU H Q=>Dy U H λx H1=>ty U H1 λy H2=>∃a v,x = .ref a/\DM H2 a y (aA v)/\Q v H2
def FZ(ty Dy:TE):TE:=λU H Q=>ty U H λy H1=>Dy U H1 λx H2=>∃a o,x = .ref a/\DM H2 a y o/\Q (.Iv (!o.isSome)) H2
def Je(Dy ty aan:TE):Di:=λD U H=>aan U H λv H1=>Dy U H1 λx H2=>ty U H2 λy H3=>∃a H4,x = .ref a/\JZ H3 a y v H4/\D.IA U H4
section
variable {X:Cx}{o i e value:bS}{pos pos' acm:gy}{Dy ty aan:TE}
def Zdg(p:X.A.units+1<fu)(r:DC X o Dy)(t:DC X i ty)(hs:B' i):DC X (.Subscript o i pos) (GN Dy ty):=by ext b s U H Q I h;show Zdf PySem.F.slot_dict_getitem.lookup hs (ZV (r b s U H _ I h) λu s1 ⟨x,q,f,j,d⟩=>ZV (t b s1 U q _ f d) λA s2 ⟨y,l,c,e,a,v,k,g,n⟩=>?_);subst k;obtain rfl:=j;apply⟨Wx c g,bk p c g e λw z m FJ=>⟨v,l,m,FJ,n⟩⟩
def bE(r:X.A.units+1<fu)(p:DC X i ty)(t:DC X o Dy):AL X .NotIn i o (FZ ty Dy):=by ext b s U H Q I h;show ZV (p b s U H _ I h) λz s1 ⟨y,v,f,e,c⟩=>ZV (t b s1 U v _ f c) ?_;ext u s2 ⟨x,l,n,j,a,d,k,g,q⟩;subst k;obtain rfl:=j;apply Zde r n g e λw m=>⟨.Iv (!d.isSome),l,m,rfl,q⟩
def QG(A:X.A.units+1<fu)(C:DC X o Dy)(E:DC X i ty)(e:DC X value aan)(hs:iH value (aA (.Subscript o i pos')) pos.line X.env=pure aC) :
  Df X (.Assign [.Subscript o i pos'] value pos) (Je Dy ty aan):=by
 ext b s U H D I h;show wpAny_Assign_Subscript (ZV (e b s U H _ I h) λr s1 ⟨v,B,l,f,c⟩=>ZV (C b s1 U B _ l c) λu s2 ⟨x,p,t,m,z⟩=>ZV (E b s2 U p _ t z) λL J ⟨y,G,q,j,a,w,n,g,k⟩=>?_) hs;subst n;obtain rfl:=m;apply zp A q g j f λF d=>⟨U,w,d,k⟩
end
def vH{P:bC}{w:bU}{H:Hp}(h:b7)(a:iQ<h.objs.size):NI P w H (h.push {cls:=.type "dict",data:=.dict #[]}) h.objs.size (.E6 []):=
 ⟨dH _,beq_eq_false_iff_ne.mpr (bN (ay a)),[],.nil,_,#[],0,aV _ rfl,⟨rfl,rfl,rfl⟩,rfl,rfl,cC⟩
def EY:TE:=λ_ H Q=>∀p,H p=aB->Q (.ref p) (upd H p (.E6 []))
section
variable {X:Cx}{pos:gy}
def hk:DC X (.Dict [] [] pos) EY:=λb s U H Q I h=>
 wpAny_Dict_empty ⟨.ref ⇑s,_,I.laid (a:=⇑s) (o:=.E6 []) (t':=s.toks) (λ_ _ q=>aF _ q) (aZ _) (vH s.heap I.big),rfl,h _ (I.Bh.fresh (aZ _))⟩
end
def QH:∀{vs:E4}{ns:E1},jI vs ns->Bj (ns.map V.int) vs
 | _,_,.nil=>.nil
 | _,_,.cons n t h=>.cons ⟨t,rfl⟩ (QH h)
def HI(s:cJ):rR:=match s with
 | .FunctionDef _ a _ _ _ _ _ _ _ _=>a
 | _=>{posonlyargs:=[],args:=[],vararg:=aB,kwonlyargs:=[],kw_defaults:=[],kwarg:=aB,defaults:=[]}
def FQ(s:cJ):List cJ:=match s with
 | .FunctionDef _ _ b _ _ _ _ _ _ _=>b
 | _=>[]
def DG(s:cJ):jd:=match s with
 | .FunctionDef _ _ _ _ _ _ sc _ _ _=>sc
 | _=>{kind:=.function,names:=[],isGenerator:=aC,isCoroutine:=aC}
abbrev Nc:Hm:=λ_ _ _ _ _ _=>False
abbrev E0:Kp:=λ_ _ _=>False
def Zgk{X:Cx}:M7 Nc X E0:=λ_ _ _ _ _ _ _ h=>h.elim
structure MU(K:aH)(x qual:bH)(st:cJ)(f:aM)(fd:gj):Prop where
 ex:∃(IV:aG) (Dc:I') (FH doc pm:aG) (an:I') (BC Bi:aG) (aby:L4),
  fd=cX x qual (HI st) (FQ st) (DG st) .none FH doc pm an BC Bi/\K.lookup f=aA ⟨IV,Dc,.func fd,aby⟩/\da K BC qual=aD
 aaz:eB K (.ref f)=aD
section
variable {P:bC}{w:bU}{K:aH}{mg:Bp}{base:b7}
def MU.ok{x b:bH}{st:cJ}{f:aM}{j:gj}{N ps:Kn}{k:Nat}{i:By}(F:MU K x b st f j)(S:Bz N ps (DG st))(len:∀vs H Q E,i vs H Q E->la vs=la ps)
  (d:∀(c:aG)(A:bX)(a:Dk)(s:aN)(H:Hp)(vs:List V)(Q:IG)(E:Kp),MN k (A.deeper (jE b (DG st) ⇑s f c))->i vs H Q E->
   ∃t,KJ (K3 Nc P w K mg base N b (DG st) f c A a s H E).Hb (FQ st) t/\t {IA:=λ_ l=>Q .IB l,E7:=Q} (start N vs) H):FD P w K mg base Nc (k+1) f j ps i:=by
 let⟨r,u,FH,p,v,y,c,Bi,m,rfl,o,g⟩:=F.ex;show Yu o g S len λA a s H vs Q E n e=>?_;let⟨t,h,q⟩:=d c A a s H vs Q E n e;apply⟨t,h.Hb,q⟩
def MU.binds{x a:bH}{st:cJ}{f:aM}{g:gj}{ps:Kn}(F:MU K x a st f g)
  (h:∀(FH c d:aG)(e:I')(b Bi:aG)(us:E4),us.length=la ps->i8 (cX x a (HI st) (FQ st) (DG st) .none FH c d e b Bi) ⟨us,[]⟩=pure (ps.zip us)):Binds K g ps []:=by
 let⟨k,l,FH,c,d,e,b,Bi,i,rfl,m,j⟩:=F.ex;apply .all (h FH c d e b Bi)
def dP{x a:bH}{st:cJ}{f:aM}{j:aG}{i g:I'}{e:L4}{FH d h b Bi:aG}(l:K.lookup f=aA ⟨j,i,.func (cX x a (HI st) (FQ st) (DG st) .none FH d h g b Bi),e⟩)
  (c:da K b a=aD) (k:eB K (.ref f)=aD):MU K x a st f (cX x a (HI st) (FQ st) (DG st) .none FH d h g b Bi):=⟨⟨j,i,FH,d,h,g,b,Bi,e,rfl,l,c⟩,k⟩
end
def R6{A:bX}{k:Nat}(a:MN k A):A.units+1<fu:=g6 (pY ⋯ _) a.units
section
variable {X:Cx}
def pv(i:Nat){x:bH}{pos:gy}(c:X.N[i]?=aA x|>On)(d:Gp X.env.scope x|>Sc)(b:(x==("__debug__" : bH))=aC|>Op)
  (a:(x==("__classdict__" : bH))=aC|>Op):DC X (.Name x pos) (KU i):=Vl c d b a
end
def Zln{A B:Prop}(h:B):if aC=aD then A else B:=by rw[Fb bg];apply h
def Zlo{A B:Prop}(h:A):if aD=aD then A else B:=by rw[Be rfl];apply h
def MX(H H':Hp):Prop:=∀b o,H b=aA o->H' b=aA o
def MX.refl(H:Hp):MX H H:=λ_ _ h=>h
def MX.trans{H e d:Hp}(a:MX H e)(b:MX e d):MX H d:=λc o h=>b c o (a c o h)
def MX.free{H a:Hp}(e:MX H a){l:aM}(h:a l=t7):H l=t7:=by
 cases q:H l with
 | none=>rfl
 | some o=>
  rw[e l o q] at h;cases h
section
variable {κ:Type} [DecidableEq κ]
def YY:∀{l:List κ}{k:κ},l.Nodup->¬k∈l->(l++[k]).Nodup
 | [],k,_,_=>⋯
 | a::r,k,h,MK=>by
  let⟨b,c⟩:=au.mp h;change(a::(r++[k])).Nodup;show au.mpr ⟨λm=>?_,YY c λm=>MK (aW.mpr (om m))⟩;rcases ag.mp m with q | q
  ·apply b q
  ·apply MK (aW.mpr (mM (aO.mp q).symm))
end
end _l
namespace _l
def NX(cells:Dt):List (bH×iJ)->List (bH×aM)->List (bH×aM)
 | [],acc=>acc
 | (n,k)::r,acc=>NX cells r (if(k==cj)=aD then(n,(cells.lookup n).getD 0)::acc else acc)
def TC:∀(names:G_)(acc:Dt),(∀y∈names,y.2 = .free->(env.cells.lookup y.1).isSome=aD)->
  (forIn (m:=tY) names acc λ(x:bH×iJ) (e:Dt)=>
   match x with
   | (name,kind)=>if(kind==cj)=aD then do
     let c <-cellOf env name
     pure (i9 ((name,c)::e))
    else pure (i9 e))=pure (NX env.cells names acc)
 | [],acc,_=>rfl
 | (n,k)::r,acc,h=>by
  rw[List.forIn_cons];let d:=λa=>TC r a λy g=>h y (aR _ g)
  cases MK:(k==cj) with
  | true=>
   let hs:=h (n,k) ah (~~~MK);let⟨c,b⟩:=dk.mp hs;let b:env.cells.lookup n=aA c:=b;let f:cellOf env n=pure c:=by delta cellOf;rw[b]
   dsimp only
   rw[MK,Be rfl,f];show Eq.trans (d ((n,c)::acc)) ?_;change _=pure (NX env.cells r (if(k==cj)=aD then(n,(env.cells.lookup n).getD 0)::acc else acc));rw[Be MK,b];rfl
  | false=>
   dsimp only
   rw[MK,Fb bg];show Eq.trans (d acc) ?_;change _=pure (NX env.cells r (if(k==cj)=aD then(n,(env.cells.lookup n).getD 0)::acc else acc));rw[Fb (by rw[MK];apply bg)]
def WV(h:∀y∈scope.names,y.2 = .free->(env.cells.lookup y.1).isSome=aD):oF scope env=pure (NX env.cells scope.names []):=by
 let e:=TC scope.names [] h;delta oF
 dsimp only
 rw[e];rfl
def Rn:∀(names:G_)(acc:Dt),(∀y∈names,y.2 = .free->(cells.lookup y.1).isSome=aD)->(acc.lookup x=aA c->cells.lookup x=aA c)->
  (NX cells names acc).lookup x=aA c->cells.lookup x=aA c
 | [],_,_,h,e=>h e
 | (n,k)::r,acc,hf,h,e=>by
  show Rn r _ (λy g=>hf y (aR _ g)) ?_ e;ext q;by_cases f:(k==cj)=aD
  ·rw[Be f,cG] at q
   cases IJ:x==n with
   | true=>
    rw[IJ] at q;let b:x=n:=by simpa using IJ
    let⟨d,a⟩:=dk.mp (hf (n,k) ah (~~~f));let a:cells.lookup n=aA d:=a;rw[a] at q;rw[b,a];apply q
   | false=>rw[IJ] at q;apply h q
  ·rw[Fb f] at q;apply h q
def Pe:∀(names:G_)(acc:Dt),(acc.lookup x).isSome=aD->((NX cells names acc).lookup x).isSome=aD
 | [],_,h=>h
 | (n,k)::r,acc,h=>by
  show Pe r _ ?_;split
  ·rw[cG];split<;>simp_all
  ·apply h
def Ro:∀(names:G_)(acc:Dt),(x,cj)∈names->((NX cells names acc).lookup x).isSome=aD
 | (n,k)::r,acc,h=>by
  rcases aW.mp h with e | h
  ·cases e;show Pe r _ ?_;rw[Be ∅,cG];simp
  ·apply Ro r _ h
structure aao(N:Kn)(around scope:jd)(own fr:Kn)(Bm:Iw):Prop where
 kind:scope.kind = .function
 aa0:∀y∈scope.names,y.2≠.cell
 names:∀y∈scope.names,y.2 = .local->scope.names.lookup y.1=aA .local
 frees:∀y∈scope.names,y.2 = .free->(around.names.lookup y.1=aA .cell\/around.names.lookup y.1=aA .free)
 slots:fr.map aA=Bm.map (λi=>N[i]?)
 outs:∀x∈fr,(x,cj)∈scope.names
 apart:∀x∈fr,scope.names.lookup x≠aA .local
def B1(X:Cx)(N':Kn)(scope:jd)(cl:Dt)(C:aM)(s:aN)(H:Hp)(ex:Gc):Cx:=
 {X with N:=N',s₀:=s,H₀:=H,env:=ot scope cl C X.env,outer:=X.stack,ex:=ex,fn:=λ_=>aC,Dp:=[],Bk:=λ_ _=>False}
def DQ(n:Nat)(Bm:Iw)(U:St):St:=ak n aB++Bm.map (λi=>(U[i]?).join)
def X3{env:n8}{x:bH}:∀{names:G_}{k:iJ},names.lookup x=aA k->
  (names.map λ(n,k)=>if(k==cj&&env.scope.kind==.function&&env.kindOf n==aA .cell) then(n,jA) else(n,k)).lookup x =
   aA (if(k==cj&&env.scope.kind==.function&&env.kindOf x==aA .cell)=aD then jA else k)
 | [],_,h=>by simp at h
 | (n,k')::r,k,h=>by
  change List.lookup x ((if(k'==cj&&env.scope.kind==.function&&env.kindOf n==aA .cell)=aD then(n,jA) else(n,k'))::_)=_
  cases IJ:x==n with
  | true=>
   dsimp[cG,IJ] at h;cases h;let e:x=n:=by simpa using IJ
   subst e;split
   ·simp[cG]
   ·simp[cG]
  | false=>
   dsimp[cG,IJ] at h;split
   ·dsimp[cG,IJ];apply X3 h
   ·dsimp[cG,IJ];apply X3 h
def Vu{env:n8}{x:bH}:∀{names:G_}{k':iJ},
  (names.map λ(n,k)=>if(k==cj&&env.scope.kind==.function&&env.kindOf n==aA .cell) then(n,jA) else(n,k)).lookup x=aA k'->∃k,names.lookup x=aA k
 | [],_,h=>by simp at h
 | (n,k0)::r,k',h=>by
  let h:List.lookup x ((if(k0==cj&&env.scope.kind==.function&&env.kindOf n==aA .cell)=aD then(n,jA) else(n,k0))::_)=aA k':=h
  cases IJ:x==n with
  | true=>apply⟨k0,by simp[cG,IJ]⟩
  | false=>
   have:∃k,r.lookup x=aA k:=by
    apply((Vu (env:=env) (k':=k')));split at h<;>simpa [cG,IJ] using h
   let⟨k,e⟩:=this;apply⟨k,by simp[cG,IJ,e]⟩
section
variable {X:Cx}{Iu:MI}{U:St}{H:Hp}{s:aN}{own fr:Kn}{Bm:Iw}{scope:jd}
def aao.aa1(S:aao X.N X.env.scope scope own fr Bm)(I:Inv X Iu U H s):∀y∈scope.names,y.2 = .free->(X.env.cells.lookup y.1).isSome=aD:=λy a b=>by let⟨c,e⟩:=I.ok.has y.1 (S.frees y a b);rw[e];rfl
end
def Uk(I:Nat->aN->Prop)
  (q:∀n s,I n s->ao (model prog w) A (jw it) (λr d=>match r with
   | none=>R (.ok .next) d
   | some v=>ao (model prog w) A (oO target it v) (λ_ f=>ao (model prog w) A (assign target env v) (λ_ j=>
     ao (model prog w) A (forIn ifs aD λc r=>if r=aD then do let ok <-qF c env (eval c env);pure (i9 ok) else pure (i9 r)) (λok b=>
      if ok=aD then ao (model prog w) A (eval elt env) (λx g=>
       ao (model prog w) A (call (.builtin "list.append") [acc,x]) (λ_ k=>∃m,m<n/\I m k) (pW (model prog w) A env λe a=>R (.error e) a) g) (pW (model prog w) A env λe a=>R (.error e) a) b
      else ∃m,m<n/\I m b) (pW (model prog w) A env λe a=>R (.error e) a) j) (pW (model prog w) A env λe a=>R (.error e) a) f) (pW (model prog w) A env λe a=>R (.error e) a) d) (pW (model prog w) A env λe a=>R (.error e) a) s)
  (n:Nat) (h:I n s) :
  gk (model prog w) A (.compLoop (.ListComp elt [⟨target,iter,ifs,0⟩] scope pos) 0 it acc env) R s:=by
 show codeAny_loop rfl I (λn s u=>?_) n h;show wpAny_noted ?_;show aE (je (aE (bQ (q n s u) (λr d h₁=>?_) λ_ _ h'=>h')))
 cases r with
 | none=>apply aJ h₁
 | some v=>
  show aE (bQ h₁ (λ_ f l=>?_) λ_ _ h'=>h');show aE (bQ l (λ_ j t=>aE (bQ t (λok b i=>?_) λ_ _ h'=>h')) λ_ _ h'=>h')
  cases ok with
  | false=>apply aJ ⟨rfl,i⟩
  | true=>
   apply aE (aE (bQ i (λx g p=>aE (bQ p (λ_ k o=>aJ (aJ ⟨rfl,o⟩)) λ_ _ h'=>h')) λ_ _ h'=>h'))
def BK(X:Cx)(ifs:Fj)(t:TT):Prop:=
 ∀(Iu:MI)(s:aN)(U:St)(H:Hp)(Q:Bool->Hp->Prop),Inv X Iu U H s->t U H Q->
  ao (model X.prog X.w) X.A (forIn ifs aD λc r=>if r=aD then do let ok <-qF c X.env (eval c X.env);pure (i9 ok) else pure (i9 r)) (Ma X Iu U Q) X.Bk s
def G6:TT:=λ_ H Q=>Q aD H
def Zdh:BK X [] G6:=λ_ _ _ H _ I h=>wpAny_tests_nil ⟨H,I,h⟩
def Zdi(h:NJ X c t):BK X [c] t:=λb s U H Q I a=>wpAny_tests_one (h b s U H Q I a)
def Nu(n:Nat)(Bm:Iw)(g:FC)(tt:TT)(Br:TE)(U:St)(Q:IG)(J:It)(H1:Hp):Prop:=
 ∃W:Nat->Nat->List V->Hp->Prop,(∃m,W 0 m [] H1)/\∀i m ys H,W i m ys H->ys.length<=sizeLine/\
  ((J.stop i H/\∀p,H p=aB->Q (.ref p) (upd H p (.lst ys)))\/
   (J.go i H/\∃N:List V->Hp->Prop,(∀aad H',N aad H'->∃Bu,Bu<m/\W (i+1) Bu aad H')/\
    ∀x H',J.BF i H x H'->g x (DQ n Bm U) H' λNB H2=>NB.drop n=(DQ n Bm U).drop n/\tt NB H2 λb H3=>if b=aD then Br NB H3 λy H4=>N (ys++[y]) H4 else N ys H3))
def NL(n:Nat)(Bm:Iw)(Dm:TI)(g:FC)(tt:TT)(Br:TE):TE:=λU H Q=>Dm U H λJ H1=>Nu n Bm g tt Br U Q J H1
def eE{a:Iw}{U NB:St}(c:NB.drop n=(DQ n a U).drop n):∀(i:Nat) v,(DQ n a U)[i]?=aA (aA v)->NB[i]?=aA (aA v):=λi v e=>by
 by_cases b:i<n
 ·delta DQ at e;rw[bM (~~~b),c0] at e;rw[Be b] at e;cases e
 ·let q:=congrArg (λl=>l[i-n]?) c;dsimp[qH] at q;rw[show n+(i-n)=i by lia] at q;rw[q];apply e
section
variable {X:Cx}{IC elt iter:bS}{ifs:Fj}{scope:jd}{pos:gy}{own fr:Kn}{Bm:Iw}{Dm:TI}{g:FC}{tt:TT}{Br:TE}
def zH{Z:MI}{U:St}{E:Hp}{s2:aN}{F:Gc}{h₁:b7}{tk:Nat}{C:aM}(S:aao X.N X.env.scope scope own fr Bm)(d:Inv X Z U E s2)(G:∀b∈F,Ap X Z E b)(I:∀b∈F,b<⇑s2)
  (J:⇑s2<=C) (R:h₁.Ns C λ_=>aB) (s:∀b o,s2.heap.get? b=aA o->h₁.get? b=aA o) :
  Inv (B1 X (own++fr) scope (NX X.env.cells scope.names []) C s2 E F) [] (DQ (la own) Bm U) E {s2 with heap:=h₁,toks:=tk}:=by
 let cs:=S.aa1 d;let sub:∀x c,(NX X.env.cells scope.names []).lookup x=aA c->X.env.cells.lookup x=aA c:=λx c e=>Rn scope.names [] cs (λh=>by simp at h) e;let T:=d.aa4
 let M:(B1 X (own++fr) scope (NX X.env.cells scope.names []) C s2 E F).Ok:=by
  show⟨d.ok.mod,S.kind,d.ok.glob,d.ok.blt,J,λx y c t f=>d.ok.inj x y c (sub x c t) (sub y c f),λx IJ=>?_,λx c h _=>?_,d.ok.hd,d.ok.frames,.inl rfl,λb w=>⟨?_,λx c e=>?_⟩,d.bs,?_,λb o e w=>?_,λb w z=>?_,d.stack,d.aa5,d.ok.tab.un d.base,λ_ z=>absurd rfl z⟩
  ·-- Dl cells of Dl acu free names
   let O:(x,cj)∈scope.names:=by
    have:∃k',(relabel scope X.env).names.lookup x=aA k'/\(k' = .cell\/k' = .free):=by
     rcases IJ with h | h
     ·apply⟨_,h,.inl rfl⟩
     ·apply⟨_,h,.inr rfl⟩
    let⟨k',e,Q⟩:=this;let⟨k,B⟩:=Vu e;let N:=X3 (env:=X.env) B;let e:(scope.names.map λ(n,k)=>if(k==cj&&X.env.scope.kind==.function&&X.env.kindOf n==aA .cell) then(n,jA) else(n,k)).lookup x=aA k':=e;rw[N] at e;let m:=eQ B
    cases k with
    | free=>apply m
    | cell=>apply absurd rfl (S.aa0 _ m)
    | _=>simp at e;subst e;rcases Q with z | z<;>cases z
   apply dk.mp (Ro _ _ O)
  ·cases h
  ·-- F acn from Dl frame
   apply ay (ar (I b w) J)
  ·apply(G b w).2.2.2.2.1 x c (sub x c e)
  ·apply cA d.ok.Hg d.E9
  ·rcases(G b w).2.2.2.1 with z | z
   ·apply d.ok.aaq b o e z
   ·apply absurd (ar (aT (d.ok.bs b o e).1) z) (cO _)
  ·rcases aW.mp (T b z) with e | e
   ·apply(G b w).2.1 e
   ·apply(G b w).2.2.1 e
 let Ks:la fr=la Bm:=by simpa using congrArg fK S.slots
 show⟨M,rfl,d.bare,Fo.kept s,⟨_,R,λi x v t f g=>?_⟩,λx c e=>?_,d.Bh.fresh J,λx c e=>d.Dq x c (sub x c e),λp hp=>absurd (show p∈([]:MI) from hp) ⋯,d.Bh.kept s,?_⟩
 ·-- a name of Dl def around
  let t:(own++fr)[i]?=aA x:=t;let H:¬i<la own:=λH=>by delta DQ at f;rw[bM (~~~H),c0,Be H] at f;cases f
  rw[bc ()] at t;delta DQ at f;rw[bc (~~~H),cP,af] at f
  cases aap:Bm[i-la own]? with
  | none=>rw[aap] at f;cases f
  | some j=>
   rw[aap] at f;let f:(U[j]?).join=aA v:=by simpa using f
   let f:U[j]?=aA (aA v):=by
    cases q:U[j]? with
    | none=>rw[q] at f;cases f
    | some z=>rw[q] at f;apply congrArg aA f
   let Fw:X.N[j]?=aA x:=by let q:=congrArg (λl=>l[i-la own]?) S.slots;dsimp[af,t,aap] at q;apply(bG q).symm
   let Y:=S.outs x (aw t);let MK:=S.frees _ Y rfl;let⟨m,Fm,Fg⟩:=d.loc;let⟨u,r,l⟩:=Fg j x v Fw f (by rcases MK with k | k;apply .inr (.inl k);apply .inr (.inr k));show⟨u,r,?_⟩;rcases l with⟨k,_⟩ | ⟨_,c,Fq,A⟩
   ·let k:X.env.scope.names.lookup x=aA .local:=k;rcases MK with q | q<;>rw[k] at q<;>cases q
   ·let⟨abc,D⟩:=dk.mp (Ro _ [] Y);let Hi:=sub x abc D;rw[Fq] at Hi;cases Hi;show .inr ⟨?_,c,D,?_⟩
    ·let g:=g;rcases g with g | g
     ·let⟨k0,B⟩:=Vu g;let N:=X3 (env:=X.env) B;let g:(scope.names.map λ(n,k)=>if(k==cj&&X.env.scope.kind==.function&&X.env.kindOf n==aA .cell) then(n,jA) else(n,k)).lookup x=aA .local:=g;rw[N] at g
      let P:k0 = .local:=by
       cases k0<;>simp at g ⊢
       split at g<;>cases g
      subst P;apply absurd B (S.apart x (aw t))
     ·apply g
    ·let⟨o,W,L⟩:=A;apply⟨o,s _ _ W,L⟩
 ·let⟨v,o,W,L⟩:=d.cell x c (sub x c e);apply⟨v,o,s _ _ W,L⟩
 ·change(DQ (la own) Bm U).length=(own++fr).length;delta DQ;rw[aq,cP,aK,aq,Ks]
def A7(fv:bH->Bool)(X:Cx)(N':Kn)(scope:jd)(cl:Dt)(C:aM)(s:aN)(H:Hp)(ex:Gc):Cx:=
 {X with N:=N',s₀:=s,H₀:=H,env:=ot scope cl C X.env,outer:=X.stack,ex:=ex,fn:=fv,Dp:=[],Bk:=λ_ _=>False}
def du{N:Kn}{cl:Dt}{S:Nat}{C D:aM}{h₁:b7}{tk:Nat}{Iu:MI}{U:St}{s:Hp}{s2:aN}{j:Gc}{it:aM}{Bv:L1}{J:It}{Fin:List V->Hp->Prop}{abd:aG->aM->rP->aN->Prop}
  (B:X.calm=aD) (IL:Aj (A7 fv X N scope cl C s2 s j) IC g) (BH:BK (A7 fv X N scope cl C s2 s j) ifs tt) (he:DC (A7 fv X N scope cl C s2 s j) elt Br)
  (I2:Inv X Iu U s s2) (T:M1 X.prog X.w X.K IC J j it Bv) (ye:Bv 0 s2.heap) (f2:∀b∈j,Ap X Iu s b)
  {W:Nat->Nat->List V->Hp->Prop}{m0:Nat} (aav:W 0 m0 [] s)
  (turn:∀i m ys H,W i m ys H->la ys<=sizeLine/\
   ((J.stop i H/\Fin ys H)\/
    (J.go i H/\∃N:List V->Hp->Prop,(∀aad h,N aad h->∃Bu,Bu<m/\W (i+1) Bu aad h)/\
     ∀x h,J.BF i H x h->g x (DQ S Bm U) h λNB s=>NB.drop S=(DQ S Bm U).drop S/\tt NB s λb t=>if b=aD then Br NB t λy H4=>N (ys++[y]) H4 else N ys t)))
  (hRR:∀(D C:aM)(oC:fH)(m:Bp)(G:aN)(h:Hp)(ys:List V),Inv X (Iu++[(C,oC)]) U (upd h D (.lst ys)) G->G.heap.get? C=aA oC->G.heap.Ns C m->Ap X Iu (upd h D (.lst ys)) C->h D=aB->Fin ys h->abd (.ref D) C (.ok .next) G)
  (hfp:∀b∈j,b<⇑s2) (hC:@Eq Nat C (D+1)) (hDD:@Eq Nat ⇑s2 D) (old:∀b o,s2.heap.get? b=aA o->h₁.get? b=aA o) (zI:h₁.get? D=aA {cls:=.type "list",data:=.seq ([]:E4).toArray 0})
  (I0:∀tk,Inv (A7 fv X N scope cl C s2 s j) [] (DQ S Bm U) s {s2 with heap:=h₁,toks:=tk}) (hcl:∀x c,cl.lookup x=aA c->c≠D) :
  gk (model X.prog X.w) X.A (.compStart (.ListComp elt [⟨IC,iter,ifs,0⟩] scope pos) 0 (.ref it) (.ref D) (ot scope cl C X.env)) (abd (.ref D) C) {s2 with heap:=h₁,toks:=tk}:=by
 let zK:@Ne Nat D C:=()
 let f:∀b,b<⇑s2->b≠C/\b≠D:=λb a=>by rw[hDD] at a;apply⟨ay (),ay a⟩
 let loop:gk (model X.prog X.w) X.A (.compLoop (.ListComp elt [⟨IC,iter,ifs,0⟩] scope pos) 0 (.ref it) (.ref D) (ot scope cl C X.env)) (abd (.ref D) C) {s2 with heap:=h₁,toks:=tk}:=by
  generalize k:A7 fv X N scope cl C s2 s j=Y at I0 IL BH he
  let E:∀{h:Hp}{Dp:MI},(∀b∈j,h b=aB)->(∀p∈Dp,∀b∈j,p.1≠b)->∀b∈j,Ap Y Dp h b:=λ{h Dp} Fm hp b a=>by
   subst k;show⟨Fm b a,(f b (hfp b a)).1,λz=>?_,.inl a,λx c e=>?_,λp hp'=>hp p hp' b a⟩
   ·apply(I0 0).ok.aar b a z
   ·apply((I0 0).ok.Bs b a).2 x c e
  let dfp:=λb a=>bN (f b (hfp b a)).2;let P:∀x c,Y.env.cells.lookup x=aA c->c≠D:=by subst k;apply hcl
  let zD:D∉Y.fs:=λz=>by subst k;let⟨_,o,Fu,_⟩:=(I0 0).ok.FA.mem z;let:=aT Fu;have:D<⇑s2:=this;apply cO _ (Nat.lt_of_lt_of_eq this hDD)
  let eL:Y.env.locals=C:=by subst k;rfl
  let eS:Y.s₀=s2:=by subst k;rfl
  let FG:Y.Dp=[]:=by subst k;rfl
  show Uk (λn G=>∃i ys w A h,Inv Y [] (DQ S Bm U) h G/\Bv i G.heap/\(∀b∈j,h b=aB)/\G.heap.get? D=aA {cls:=.type "list",data:=.seq w A}/\Bj ys w.toList/\h D=aB/\W i n ys h) ?_ m0
   ⟨0,[],#[],0,s,I0 _,T.keep _ _ _ ye λb _ o e=>old b o e,λb a=>(f2 b a).1,zI,.nil,I2.Bh.fresh (),aav⟩
  ext n s3 ⟨i,ys,w,A,t,I3,ξ,fr3,oD,vD,nD,abk⟩;let⟨hlen,Q⟩:=turn i n ys t abk
  let xj:w.size<=sizeLine:=by
   let:=vD.length;dsimp[bJ] at this
   lia
  let pD:Inv Y [(D,{cls:=.type "list",data:=.seq w A})] (DQ S Bm U) t s3:=I3.aat λp hp=>by rw[aO.mp hp];apply⟨oD,nD,by rw[eL];apply zK,zD,λv z=>by cases z⟩
  let YP:Y.prog=X.prog:=by subst k;rfl
  let Yw:Y.w=X.w:=by subst k;rfl
  let YK:Y.K=X.K:=by subst k;rfl
  let YA:Y.A=X.A:=by subst k;rfl
  let Yx:Y.Bk=λ_ _=>False:=by subst k;rfl
  let Ye:Y.env=ot scope cl C X.env:=by subst k;rfl
  let ne1:∀p∈[((D,{cls:=.type "list",data:=.seq w A}):aM×fH)],∀b∈j,p.1≠b:=λp hp b a=>by rw[aO.mp hp];apply dfp b a
  rcases Q with⟨stop,aaj⟩ | ⟨go,N,Fw,step⟩
  ·let d:=T.done Y YP Yw YK (by subst k;apply B) i _ s3 _ t (pW (model X.prog X.w) X.A (ot scope cl C X.env) λe G=>abd (.ref D) C (.error e) G) pD (E fr3 ne1) ξ stop;rw[YA] at d;show ZV d ?_;ext r s4 ⟨hr,I4⟩;subst hr;let⟨oD4,l,_⟩:=I4.pin (D,_) (by rw[FG];apply ah);let⟨m,Fm,_⟩:=I4.loc;rw[eL] at Fm;let⟨oC,Fc,ep,hoC,hdC,hrest⟩:=id Fm;let O:t C=aB:=by let:=I4.free;rw[eL] at this;apply this
   let un:Fo (DV X.stack) j s t s2.heap s4.heap:=by let:=I4.base;subst k;apply this
   let lt2:∀b o,s2.heap.get? b=aA o->b≠D:=λb o e=>(f b (aT e)).2
   let un':Fo (DV X.stack) j s (upd t D (.lst ys)) s2.heap s4.heap:=by
    show⟨un.keep,un.slot,λb o e n IJ=>?_,un.there,λb xs e=>?_,λb o u e=>?_,λb ps e=>?_⟩
    ·rw[a0 (lt2 b o e)];apply un.free b o e n IJ
    ·let q:=un.BA b xs e;rw[a0 (Zh q l)];apply q
    ·let q:=un.Dr b o u e;rw[a0 (Zh q l)];apply q
    ·let⟨more,q⟩:=un.Bw b ps e;apply⟨more,by rw[a0 (Zh q l)];apply q⟩
   let zy:FI X.prog X.w t s4.heap:=by let:=I4.Bh;rw[YP,Yw] at this;apply this
   let zA:FI X.prog X.w (upd t D (.lst ys)) s4.heap:=λb u q=>by
    by_cases a:b=D
    ·subst a;rw[a_] at q;cases q;apply⟨hlen,w.toList,A,vD,by simpa using oD4⟩
    ·rw[a0 a] at q;apply(zy b u q).MP (λc v _ z=>z) (λc z=>by rw[a0 (Zh z l)];apply z) (λc xs z=>by rw[a0 (Zh z l)];apply z) λc u z=>by rw[a0 (Zh z l)];apply z
   let os4:s4.os=s2.os:=by rw[I4.os,eS]
   let I5:=I2.abi os4 un' zA I4.bare λb a=>⟨(f2 b a).2.2.2.1,(f2 b a).2.1,(f2 b a).2.2.2.2.1,(f2 b a).2.2.2.2.2⟩;let CL:C≠X.env.locals:=λz=>by apply(f _ I2.lt).1 z.symm
   let L:Ap X Iu (upd t D (.lst ys)) C:=I2.aac () (by rw[a0 (bN zK)];apply O);show hRR D C oC m s4 t ys (I5.aat λp hp=>?_) hoC Fm L l aaj;rcases ag.mp hp with z | z
   ·apply I5.pin p (bA _ z)
   ·rw[aO.mp z];apply⟨hoC,L.1,L.2.1,L.2.2.1,λv z=>by rw[hdC] at z;cases z⟩
  ·let d:=T.item Y YP Yw YK (by subst k;apply B) i _ s3 _ t (λ_ _=>False) pD (E fr3 ne1) ξ go;rw[YA] at d;show bQ d (λr s4 ⟨u,hr,Bt⟩=>?_) λ_ _ z=>z.elim;subst hr;show bQ Bt (λ_ s5 ⟨x,H5,I5,abl,abm,ze,fr5⟩=>?_) λ_ _ z=>z.elim;let I5':=I5.pinned (E fr5 ne1) (T.obj _ _ ze);let a6:=IL _ s5 _ H5 x u _ I5' abl (step x H5 abm);rw[YP,Yw,YA,Ye,Yx] at a6;show bQ a6 (λ_ aa7 ⟨HB,H6,I6,dr,abn⟩=>?_) λ_ _ z=>z.elim;let a7:=BH _ aa7 HB H6 _ I6 abn;rw[YP,Yw,YA,Ye,Yx] at a7;show bQ a7 (λok s7 ⟨H7,I7,q7⟩=>?_) λ_ _ z=>z.elim
   let R:∀{I:Hp}{F:aN},Inv Y ([((D,{cls:=.type "list",data:=.seq w A}):aM×fH)]++Jw j s5.heap) HB I F->
     F.heap.get? D=aA {cls:=.type "list",data:=.seq w A}/\I D=aB/\Bv (i+1) F.heap/\(∀b∈j,I b=aB):=λ{I F} M=>by
    let⟨Ko,Z,_⟩:=M.pin (D,{cls:=.type "list",data:=.seq w A}) ⋯;show⟨Ko,Z,T.keep _ _ _ ze λb a o e=>(M.pin (b,o) (by rw[FG];apply aR _ (Vs a e))).1,λb a=>?_⟩;let⟨o,e,_⟩:=T.obj _ _ ze b a;apply(M.pin (b,o) (by rw[FG];apply aR _ (Vs a e))).2.1
   let θ:∀{I:Hp}{F:aN},Inv Y ([((D,{cls:=.type "list",data:=.seq w A}):aM×fH)]++Jw j s5.heap) HB I F->Inv Y [] (DQ S Bm U) I F:=λ{I F} M=>
    (M.aat λp hp=>absurd hp ⋯).weak (by
     let Ko:=(I0 0).len;let Z:=M.len;rw[Ko,Z]) (eE dr)
   cases ok with
   | false=>
    let⟨Ko,Z,IM,e4⟩:=R I7;let⟨Bu,hm,abo⟩:=Fw _ _ q7;apply⟨Bu,hm,i+1,ys,w,A,H7,θ I7,IM,e4,Ko,vD,Z,abo⟩
   | true=>
    let a8:=he _ s7 HB H7 _ I7 q7;rw[YP,Yw,YA,Ye,Yx] at a8;show bQ a8 (λyv F ⟨y,I,M,ry,q8⟩=>?_) λ_ _ z=>z.elim;let⟨Ko,Z,IM,e4⟩:=R M;let⟨Bu,hm,w8⟩:=Fw _ _ q8;show append_at Ko (λh9 hs9 hD9=>?_) xj;let I9:=(θ M).turned (t':=F.toks) (λb o a e=>hs9.extBut b o a e) Z (by rw[eL];apply zK) (.inr (by rw[eS];lia)) P (λp hp=>absurd (show p∈([]:MI) by rw[FG] at hp;apply hp) ⋯);show⟨Bu,hm,i+1,ys++[y],w.push yv,A+1,I,I9,T.keep _ _ _ IM λb a o e=>hs9.extBut b o (bN (dfp b a)) e,e4,hD9,?_,Z,w8⟩;rw[kM];apply vD.append (.cons ry .nil)
 apply codeAny_compStart_list loop (T.self X.A 0 _ _ _ (T.keep _ _ _ ye λb _ o e=>old b o e) loop)
def Pf{U:St}{F:Hp}{s2:aN}{Q:Gc}{it:aM}{R:L1}{J:It}{Fin:List V->Hp->Prop}{Y:aG->aM->rP->aN->Prop}{E:IE}
  (n:X.calm=aD) (S:aao X.N X.env.scope scope own fr Bm)
  (IL:∀cl C s H ex,Aj (B1 X (own++fr) scope cl C s H ex) IC g) (BH:∀cl C s H ex,BK (B1 X (own++fr) scope cl C s H ex) ifs tt) (he:∀cl C s H ex,DC (B1 X (own++fr) scope cl C s H ex) elt Br)
  (I:Inv X Iu U F s2) (T:M1 X.prog X.w X.K IC J Q it R) (G:R 0 s2.heap) (Z:∀b∈Q,Ap X Iu F b)
  {W:Nat->Nat->List V->Hp->Prop}{m0:Nat} (aav:W 0 m0 [] F)
  (B:∀i m ys H,W i m ys H->la ys<=sizeLine/\
   ((J.stop i H/\Fin ys H)\/
    (J.go i H/\∃N:List V->Hp->Prop,(∀aad H',N aad H'->∃Bu,Bu<m/\W (i+1) Bu aad H')/\
     ∀x H',J.BF i H x H'->g x (DQ (la own) Bm U) H' λNB F=>NB.drop (la own)=(DQ (la own) Bm U).drop (la own)/\tt NB F λb H3=>if b=aD then Br NB H3 λy H4=>N (ys++[y]) H4 else N ys H3)))
  (P:∀(D C:aM)(oC:fH)(m:Bp)(Kl:aN)(H':Hp)(ys:List V),Inv X (Iu++[(C,oC)]) U (upd H' D (.lst ys)) Kl->Kl.heap.get? C=aA oC->Kl.heap.Ns C m->Ap X Iu (upd H' D (.lst ys)) C->H' D=aB->Fin ys H'->Y (.ref D) C (.ok .next) Kl) :
  ao (model X.prog X.w) X.A (newList []) (λacc t=>ao (model X.prog X.w) X.A (newFunctionEnv scope X.env.globals (NX X.env.cells scope.names []) [] X.env.qual aB .none (aA X.env)) (λk u=>
   gk (model X.prog X.w) X.A (.compStart (.ListComp elt [⟨IC,iter,ifs,0⟩] scope pos) 0 (.ref it) acc {k with scope:=relabel scope X.env}) (Y acc k.locals) u) E t) E s2:=by
 let r:∀b∈Q,b<⇑s2:=λb L=>by let⟨o,e,_⟩:=T.obj 0 s2.heap G b L;apply aT e
 show cw (ou S.aa0 ⋯ (λh₁ d a=>?_) S.kind);generalize p:s2.heap.push {cls:=.type "list",dict:=aB,data:=.seq ([]:E4).toArray}=G2 at d a ⊢;let M:G2.objs.size=⇑s2+1:=by rw[<-p,cT]
 generalize hCC:G2.objs.size=C at d a M ⊢;generalize l:⇑s2=D at M ⊢;let O:D≠C:=()
 let j:∀b,b<⇑s2->b≠C/\b≠D:=λb L=>by rw[l] at L;apply⟨ay (),ay L⟩
 let A:=λb o e=>a.extBut b o (j b (aT e)).1 (aF _ (p▸aF _ e))
 let w:h₁.get? D=aA {cls:=.type "list",data:=.seq ([]:E4).toArray 0}:=by
  let e0:G2.get? D=aA {cls:=.type "list",data:=.seq ([]:E4).toArray 0}:=by rw[<-p,<-l];apply aV _ rfl
  apply a.extBut _ _ O (aF _ e0)
 let f:h₁.Ns C λ_=>aB:=by simpa using d
 let I0:=λtk=>zH (tk:=tk) S I Z r () f A;show du (s2:=s2) (h₁:=h₁) (fv:=λ_=>aC) (N:=own++fr) (C:=C) (D:=D) (cl:=NX X.env.cells scope.names []) n (IL _ _ _ _ _) (BH _ _ _ _ _) (he _ _ _ _ _) I T G Z aav B P r M l A w I0 λx c e z=>?_;let⟨v,q⟩:=I.cell x c (Rn scope.names [] (S.aa1 I) (λh=>by simp at h) e);apply(j c q.lt).2 z
def Zdj(c:X.calm=aD)(L:Aa X IC iter Dm)(S:aao X.N X.env.scope scope own fr Bm)
  (F:∀cl C s H ex,Aj (B1 X (own++fr) scope cl C s H ex) IC g) (w:∀cl C s H ex,BK (B1 X (own++fr) scope cl C s H ex) ifs tt) (A:∀cl C s H ex,DC (B1 X (own++fr) scope cl C s H ex) elt Br)
  (hs:(∀x,cY iter X.env x=pure x)|>Pi):DC X (.ListComp elt [⟨IC,iter,ifs,0⟩] scope pos) (NL (la own) Bm Dm g tt Br):=by
 ext r s U H Q I h;show jm rfl hs (WV (S.aa1 I)) S.kind S.names (ZV (L r s U H _ I h) λv s1 y=>ZV y λB s2 u=>?_);let⟨it,Y,N,J,P,e,z,T,j,l,W,⟨R,n⟩,d⟩:=u;subst e;show Pf c S F w A z T j l n d ?_;ext D C O m M k ys p q E a t i;show⟨m,E,λh' f=>⟨.ref D,upd k D (.lst ys),?_,rfl,i D t⟩⟩;apply(p.aau).turned (λb o G e=>f.extBut b o G e) a.1 a.2.1 a.2.2.2.1 a.2.2.2.2.1 a.2.2.2.2.2
def Zdk{y:bH}{w d:gy}(A:X.N.Nodup)(P:X.N[i]?=aA y)(c:X.env.scope.names.lookup y=aA .local)(f:X.calm=aD)(E5:Aa X IC iter Dm)(S:aao X.N X.env.scope scope own fr Bm)
  (IL:∀cl C s H ex,Aj (B1 X (own++fr) scope cl C s H ex) IC g) (R:∀cl C s H ex,BK (B1 X (own++fr) scope cl C s H ex) ifs tt) (he:∀cl C s H ex,DC (B1 X (own++fr) scope cl C s H ex) elt Br)
  (p:iH (.ListComp elt [⟨IC,iter,ifs,0⟩] scope pos) (aA (.Name y w)) d.line X.env=pure aD|>On)
  (hs:(∀x,cY iter X.env x=pure x)|>Pi):Df X (.Assign [.Name y w] (.ListComp elt [⟨IC,iter,ifs,0⟩] scope pos) d) (Ht (NL (la own) Bm Dm g tt Br) (H9 i)):=by
 ext M s U H D0 I h;rw[exec_Assign_Name_used _ _ _ _ p];show aE (je (aE ?_))
 show aE (bQ (jm rfl hs (WV (S.aa1 I)) S.kind S.names
  (ZV (E5 M s U H _ I h) λv s1 Y=>ZV Y λabj s2 Q=>?_)) (λ_ z O=>aJ (aJ O)) λ_ _ e=>e)
 let⟨it,Ir,Bv,J,H2,e,Z,T,r,E,W,⟨m0,F⟩,k⟩:=Q;subst e;show Pf f S IL R he Z T r E F k ?_;ext D C t m z B ys G n Fm a N q;show wpAny_assign_Name (Us G A P (.inl c) (v:=.ref D) rfl (λaa7 u=>?_) (.inr c));let⟨e6,_⟩:=u.pin (C,t) (bA _ (bA _ ah));let⟨Kq,L,ep,j,IW⟩:=Fm;rw[n] at j;cases j;show⟨m,⟨t,L,ep,e6,IW⟩,λh' l=>⟨_,upd B D (.lst ys),?_,q D N⟩⟩;apply(u.aau).turned (λb o IF e=>l.extBut b o IF e) a.1 a.2.1 a.2.2.2.1 a.2.2.2.2.1 a.2.2.2.2.2
end
open AutoSeq1 (wpAny_loadPart')
section
variable {prog:bC}{w:bU}{A:bX}{E:IE}{s:aN}
def Sk(a:s.heap.IsTupleIter it l i)
  (j:s.heap.IsTuple l items) (g:items[i]?=aA x)
  (f:∀h',h'.IsTupleIter it l (i+1)->cu it s.heap h'->Q x {s with heap:=h'}) :
  ao (model prog w) A (mU (.ref it)) Q E s:=by
 let⟨o,c,h,b⟩:=id a;let⟨k,d,_,m,e⟩:=j
 show aE (cg a.typeIs F.slot_tuple_iterator_next
  (cF F.slot_tuple_iterator_next a.typeIs F.entry_tuple_iterator_next ?_ (F.args_tuple_iterator_next_1 _)))
 change ao _ _ (field (.ref it) 0 >>= _) _ _ s;show aE (c9 c b rfl ?_);show aE (c9 c b rfl ?_);show aE (dh d e ?_);dsimp[fV,g];show aE (fX c b ⋯ (aJ ⟨x,rfl,aJ (f _ ?_ (cU ..))⟩));apply⟨_,bZ _ c (fA (cH b _)),(gp ..).trans h,by rw[cH b];simp[fE]⟩
def Rq(g:A.handled=aB)
  (a:s.heap.IsTupleIter it l i) (k:s.heap.IsTuple l items) (j:items[i]?=aB)
  (h:∀h' e,mZ it s.heap h'->(∃o,h'.get? e=aA o/\o.cls = .type "StopIteration")->E (.ref e) {s with heap:=h'}) :
  ao (model prog w) A (mU (.ref it)) Q E s:=by
 let⟨o,c,n,b⟩:=id a;let⟨p,d,_,q,f⟩:=k
 show aE (cg a.typeIs F.slot_tuple_iterator_next
  (cF F.slot_tuple_iterator_next a.typeIs F.entry_tuple_iterator_next ?_ (F.args_tuple_iterator_next_1 _)))
 change ao _ _ (field (.ref it) 0 >>= _) _ _ s;show aE (c9 c b rfl ?_);show aE (c9 c b rfl ?_);show aE (dh d f ?_);dsimp[fV,j];show aE (mO (aE (fX c b ⋯ ?_)));show aE ?_;show aE (m:=oz _ _) (m4 rfl ?_);show cw ?_ (by size_fits);show aE (qA ?_)
 first | rw[g] | rw[g]
 show aE (aJ (rg ?_));apply h _ _ (((cU ..).extBut.push _).push _) ⟨_,aV _ rfl,rfl⟩
end
def KZ(b:Bool)(h:b7)(a:aM)(IS:M_):Prop:=if b=aD then h.IsList a IS else h.IsTuple a IS
def Ad(b:Bool)(h:b7)(it a:aM)(i:Nat):Prop:=if b=aD then h.IsListIter it a i else h.IsTupleIter it a i
def Nd(b:Bool)(K:aH)(H:Hp)(a:aM)(xs:List V):Prop:=if b=aD then BZ K H a xs else DJ K H a xs
def Au(b:Bool)(a:aM):fH:={cls:=.type (if b=aD then "list_iterator" else "tuple_iterator"),data:=.fields #[.ref a,.int 0 0]}
def KZ.at(x:KZ b h a IS)(k:∀o,h.get? a=aA o->h'.get? a=aA o):KZ b h' a IS:=by
 cases b with
 | true=>let⟨o,e,r⟩:=(x);apply⟨o,k o e,r⟩
 | false=>let⟨o,e,r⟩:=(x);apply⟨o,k o e,r⟩
def KZ.has(x:KZ b h a IS):∃o,h.get? a=aA o:=by
 cases b with
 | true=>let⟨o,e,r⟩:=(x);apply⟨o,e⟩
 | false=>let⟨o,e,r⟩:=(x);apply⟨o,e⟩
def Ad.at(x:Ad b h it a i)(k:∀o,h.get? it=aA o->h'.get? it=aA o):Ad b h' it a i:=by
 cases b with
 | true=>let⟨o,e,r⟩:=(x);apply⟨o,k o e,r⟩
 | false=>let⟨o,e,r⟩:=(x);apply⟨o,k o e,r⟩
def Ad.has(x:Ad b h it a i):∃o,h.get? it=aA o/\∀v,o.data≠.cell v:=by
 cases b with
 | true=>let⟨o,e,_,d⟩:=(x);apply⟨o,e,λv z=>by rw[d] at z;cases z⟩
 | false=>let⟨o,e,_,d⟩:=(x);apply⟨o,e,λv z=>by rw[d] at z;cases z⟩
def Ad.new(e:h.get? it=aA (Au b a)):Ad b h it a 0:=by
 cases b with
 | true=>apply⟨_,e,rfl,rfl⟩
 | false=>apply⟨_,e,rfl,rfl⟩
section
variable {X:Cx}{Iu:MI}{U:St}{H:Hp}{s:aN}{a:aM}{xs ys:List V}{b:Bool}
theorem Inv.B8(I:Inv X Iu U H s)(h:Nd b X.K H a xs):∃c:List aG,Bj xs c/\KZ b s.heap a c.toArray/\la xs<=sizeLine:=by
 cases b with
 | true=>
  let⟨c,r,p,z⟩:=I.list (h);apply⟨c,r,p.isList,z⟩
 | false=>
  let⟨c,r,p,z⟩:=I.tuple (h);apply⟨c,r,p,z⟩
def Inv.mG(I:Inv X Iu U H s)(h:Nd b X.K H a xs)(h':Nd b X.K H a ys):xs=ys:=by
 cases b with
 | true=>apply I.ab2 (h) (h')
 | false=>apply I.ab3 (h) (h')
end
def Draws.seq(b:Bool)(n:A.handled=aB)(it l:aM)(f:l≠it)(a:M_) :
  Draws prog w A it [it,l] a.size (λi v=>a[i]?=aA v) (λi h=>Ad b h it l i/\KZ b h l a) where
 live:=λ_ _ st=>let⟨o,p,_⟩:=st.1.has;⟨o,p⟩
 frame:=λ_ _ _ st j=>⟨st.1.at λo e=>j it ⋯ o e,st.2.at λo e=>j l ⋯ o e⟩
 item:=λi s Q E g st k=>by
  cases b with
  | true=>
   show wpAny_nextOf_list_item (st.1) (st.2) (x:=a[i]) (by simp[g]) λh' d c=>?_;apply k _ h' s.toks (by simp[g]) ⟨d,st.2.at λo e=>c.extBut l o f e⟩ c
  | false=>
   show Sk (st.1) (st.2) (x:=a[i]) (by simp[g]) λh' d c=>?_;apply k _ h' s.toks (by simp[g]) ⟨d,st.2.at λo e=>c.extBut l o f e⟩ c
 done:=λs Q E st m=>by
  cases b with
  | true=>apply wpAny_nextOf_list_end n (st.1) (st.2) ⋯ m
  | false=>apply Rq n (st.1) (st.2) ⋯ m
def Yk(h:KZ b s.heap a IS)
  (c:Q (.ref ⇑s) {s with heap:=s.heap.push (Au b a)}):ao (model prog w) A (mq (.ref a)) Q E s:=by
 cases b with
 | true=>apply mX (h) c
 | false=>apply mJ (h) c
def Pg(b:Bool)(l:aM)(a:M_) :
  Meets (km.«enumerate.__new__» ⟨[.type "enumerate",.ref l],[]⟩) (λ_ R s=>KZ b s.heap l a/\
   R (.ok (.ret (.ref (s.heap.push (Au b l)).objs.size)))
    {s with heap:=(s.heap.push (Au b l)).push {cls:=.type "enumerate",data:=.fields #[.none,.bool aC,.ref ⇑s,fE 0,.none,.none]}}):=
 .of_wp λprog w A R s h=>by
  let⟨hp,g,d,tk,os⟩:=s;let⟨i,h⟩:=h;let j:=sub_enumerate;let⟨o,e⟩:=i.has;let f:KZ b (t8 ⟨hp,g,d,tk,os⟩) l a:=i
  wp_walk using lU e
  show wpAny_stack_any λst=>aJ ?_;split
  ·rename_i c _ _ _ _ _;cases (c==jv "enumerate")
   ·wp_walk using lU e,Yk f
    apply⟨_,rfl,h⟩
   ·wp_walk using lU e,Yk f
    apply⟨_,rfl,h⟩
  ·wp_walk using lU e,Yk f
   apply⟨_,rfl,h⟩
section
variable {prog:bC}{w:bU}{A:bX}{E:IE}{s:aN}
def Tx(e:KZ b s.heap l items)
  (h:∀h',IsEnum h' (⇑s+1) ⇑s 0 .none->Ad b h' ⇑s l 0->h'.objs.size=⇑s+2->
   (∀b o,s.heap.get? b=aA o->h'.get? b=aA o)->Q (.ref (⇑s+1)) {s with heap:=h'}) :
  ao (model prog w) A (call (.type "enumerate") [.ref l]) Q E s:=by
 show callType_new F.called_enumerate rfl (F.typeCall_enumerate_1 _) (F.newCall_enumerate_1 _) (λa=>F.args_object_init_2 a _) F.entry_enumerate_new
  (Pg b l items) ⟨e,?_⟩
 let c:(s.heap.push (Au b l)).objs.size=⇑s+1:=cT ..;rw[c]
 let d:IsEnum ((s.heap.push (Au b l)).push
   {cls:=.type "enumerate",data:=.fields #[.none,.bool aC,.ref ⇑s,fE 0,.none,.none]}) (⇑s+1) ⇑s 0 .none:=by
  let:=aV (s.heap.push (Au b l))
   (o:={cls:=.type "enumerate",data:=.fields #[.none,.bool aC,.ref ⇑s,fE 0,.none,.none]}) rfl
  rw[c] at this;apply this
 show⟨⟨_,d,rfl⟩,h _ d (Ad.new (aF _ (aV _ rfl))) ⋯ λb o x=>aF _ (aF _ x)⟩
end
def Ite(b:Bool)(K:aH)(a:aM):It:=
  ⟨λi H=>∃xs x,Nd b K H a xs/\xs[i]?=aA x,
   λi H v H'=>∃p x,H p=aB/\v = .ref p/\H'=upd H p (.tup [.int i,x])/\∀xs,Nd b K H a xs->xs[i]?=aA x,
   λi H=>∃xs,Nd b K H a xs/\xs.length=i⟩
def yG{w:bU}{K:aH}{W:Fj}{k:Nat}{pos:gy}(b:Bool)(a e it:aM)(O:e≠it) :
  M1 P w K (.Tuple W k pos) (Ite b K a) [e,it] e (λi h=>(∃r,IsEnum h e it i r)/\Ad b h it a i) where
 mem:=⋯
 obj:=λi h st c G=>by
  rcases aW.mp G with rfl | G
  ·let⟨⟨r,q⟩,_⟩:=st;apply⟨_,q,λv z=>by cases z⟩
  ·rw[aO.mp G];apply st.2.has
 keep:=λi h h' st L=>⟨let⟨r,q⟩:=st.1;⟨r,L e ⋯ _ q⟩,st.2.at λo q=>L it ⋯ o q⟩
 item:=by
  ext X hP hw hK G i Iu s U H E I N st IL;subst hP hw hK;let⟨xs,x,MO,IJ⟩:=IL;let⟨S,rv,p,hz⟩:=I.B8 MO;let⟨u,Ft,ru⟩:=rv.get IJ;let⟨⟨r,F⟩,l⟩:=st;let fe:=N e ⋯;let fi:=N it ⋯;let⟨oa,J⟩:=p.has
  -- Dl sequence is yl record
  let j:∀c,Ap X Iu H c->(∃IV,s.heap.get? c=aA IV/\∃n vs,IV.cls = .type n/\IV.data = .fields vs)->a≠c:=by
   ext c _ ⟨IV,T,n,vs,Fm,IU⟩ z;subst z;rw[J] at T;cases T
   cases b with
   | true=>let⟨o,C,_,m,d⟩:=(p);rw[J] at C;cases C;rw[IU] at d;cases d
   | false=>let⟨o,C,_,m,d⟩:=(p);rw[J] at C;cases C;rw[IU] at d;cases d
  let ae:=j e fe ⟨_,F,_,_,rfl,rfl⟩
  let ai:=j it fi (by
   cases b with
   | true=>let⟨o,C,c1,d1⟩:=(l);apply⟨o,C,_,_,c1,d1⟩
   | false=>let⟨o,C,c1,d1⟩:=(l);apply⟨o,C,_,_,c1,d1⟩)
  let D:=Draws.seq (prog:=X.prog) (w:=X.w) (A:=X.A.in1) b (I.ok.hd G) it a ai S.toArray;let hlt:i<S.toArray.size:=by let:=(aS.mp Ft).1;simpa using this
  show wpAny_pyNext_enum_itemD D F ⟨l,p⟩ hlt O (by simp[O,bN ae]) λy h' tk xk Fu hs' hT zw MK=>?_
  let ey:y=u:=by
   let q1:=xk;let Bx:S.toArray[i]?=aA u:=by simpa using Ft
   rw[q1] at Bx;apply bG Bx
  subst ey;show⟨_,rfl,wpAny_letOwnedTupleGo_enum Fu λZ he2 R=>?_⟩;let Tne:=gG (aT F);let B:=I.Bh.fresh (aZ _);let L:∀c o,c∉[e,it]->s.heap.get? c=aA o->Z.get? c=aA o:=λc o g q=>R.extBut c o (λz=>g (by simp[z])) (MK c o (λz=>g (by simp[z])) (λz=>g (by simp[z])) q);let hT2:=R.extBut _ _ Tne hT;let hcs:∀c∈[e,it],(c∈X.ex\/⇑X.s₀<=c)/\c≠X.env.locals/\(∀x d,X.env.cells.lookup x=aA d->d≠c)/\∀p∈X.Dp++Iu,p.1≠c:=λc g=>by let f:=N c g;apply⟨f.2.2.2.1,f.2.1,f.2.2.2.2.1,f.2.2.2.2.2⟩
  let τ:∀c M,H c=aA M->c∉[e,it]:=λc M q g=>by rw[(N c g).1] at q;cases q
  let Y:=λc M q=>(I.Bh c M q).MP (λd v hd MR=>L d v (by
    rcases hd with z | z
    ·rw[z];apply τ c M q
    ·apply τ d _ z) MR) (λ_ z=>z) (λ_ _ z=>z) λ_ _ z=>z
  let new:NI X.prog X.w (upd H ⇑s (.tup [.int i,x])) Z ⇑s (.tup [.int i,x]):=
   ⟨⟨by change 2<=sizeLine;decide,λo e=>by rw[hT2] at e;cases e;rfl⟩,[.int i tk,y],.cons ⟨tk,rfl⟩ (.cons ru .nil),⟨_,hT2,rfl,_,rfl⟩⟩
  let zz:FI X.prog X.w (upd H ⇑s (.tup [.int i,x])) Z:=λc M q=>by
   by_cases IF:c=⇑s
   ·subst IF;rw[a_] at q;cases q;apply new
   ·rw[a0 IF] at q;apply(Y c M q).MP (λd v _ MR=>MR) (λd z=>by rw[a0 (Zh z B)];apply z) (λd zs z=>by rw[a0 (Zh z B)];apply z) λd u z=>by rw[a0 (Zh z B)];apply z
  let un:Fo (DV X.stack) [e,it] H (upd H ⇑s (.tup [.int i,x])) s.heap Z:=by
   show⟨λc o q _ _ t=>L c o t q,λc o q _ _ t=>⟨o.slots,L c o t q⟩,λc o q n _=>?_,λc o q t=>⟨o,L c o t q⟩,λc zs q=>?_,λc o zs q=>?_,λc ps q=>⟨#[],?_⟩⟩
   ·rw[a0 (ay (aT q))];apply n
   ·rw[a0 (Zh q B)];apply q
   ·rw[a0 (Zh q B)];apply q
   ·rw[a0 (Zh q B),q];simp
  let I2:Inv X Iu U (upd H ⇑s (.tup [.int i,x])) {s with heap:=Z,toks:=tk+1}:=I.call un zz I.bare hcs;show⟨.ref ⇑s,upd H ⇑s (.tup [.int i,x]),I2,rfl,⟨_,x,B,rfl,rfl,λzs xi=>by rw[I.mG xi MO];apply IJ⟩,⟨⟨y,by simpa using he2⟩,?_⟩,λc g=>?_⟩
  ·apply hs'.1.at λo q=>R.extBut it o (bN O) q
  ·rw[a0 (ay (by
    rcases aW.mp g with rfl | g
    ·apply aT F
    ·rw[aO.mp g];let⟨o,q,_⟩:=l.has;apply aT q))]
   apply(N c g).1
 done:=by
  ext X hP hw hK G i Iu s U H E I N st IL;subst hP hw hK;let⟨xs,MO,IJ⟩:=IL;let⟨S,rv,p,hz⟩:=I.B8 MO;let⟨⟨r,F⟩,l⟩:=st;let fi:=N it ⋯
  let ai:a≠it:=λz=>by
   subst z
   cases b with
   | true=>
    let⟨o,C,_,m,d⟩:=(p);let⟨Kq,e2,_,d2⟩:=(l);rw[C] at e2;cases e2;rw[d] at d2;cases d2
   | false=>
    let⟨o,C,_,m,d⟩:=(p);let⟨Kq,e2,_,d2⟩:=(l);rw[C] at e2;cases e2;rw[d] at d2;cases d2
  let D:=Draws.seq (prog:=X.prog) (w:=X.w) (A:=X.A.in1) b (I.ok.hd G) it a ai S.toArray;let Fg:=rv.length;let E5:i=S.toArray.size:=by simp;lia
  show wpAny_pyNext_enum_endD D F (by rw[<-E5];apply⟨l,p⟩) λh' t=>⟨rfl,?_⟩;let⟨f0,f1,f2,f3,f4,f5⟩:=fi;apply I.turned (λc o IF q=>t c o IF q) f0 f1 f3 f4 f5
 self:=λA i s Q E st hQ=>by let⟨⟨r,F⟩,_⟩:=st;apply wpAny_pyIter_enum F hQ
section
variable {X:Cx}
def G5(b:Bool)(K:aH)(MG:De):TI:=λU H R=>MG U H λvs H1=>∃a,vs=[.ref a]/\(∃xs,Nd b K H1 a xs)/\R (Ite b K a) H1
def Zdl(b:Bool)(y:Gl X "enumerate")(l:X.mg "enumerate" = aB)(x:M8 X [a] MG)(hs:aL [a] X.env=[(aC,eval a X.env)]|>On) :
  Aa X (.Tuple elts k acm) (.Call (.Name "enumerate" p) [a] [] pos) (G5 b X.K MG):=by
 ext t s U H R I h;show sP (Yt I y l rfl (br (ZV (x pos t s U H _ I h) λD s1 ⟨vs,z,d,u,m⟩=>?_) hs rfl));let⟨a,e,⟨xs,v⟩,q⟩:=m;subst e
 cases u with
 | cons r Dj=>
  cases Dj;cases r;let⟨C,A,f,B⟩:=d.B8 v;show Tx f λh' j i n o=>?_;show wpAny_pyIter_enum j ?_;let w:=d.kept (t':=s1.toks) o;let ne:⇑s1+1≠⇑s1:=gG (iK _);show⟨⇑s1+1,[⇑s1+1,⇑s1],_,_,z,rfl,w,yG b a (⇑s1+1) ⇑s1 ne,⟨⟨.none,j⟩,i⟩,λc g=>?_,q⟩;rcases aW.mp g with rfl | g
  ·apply d.aac (lI _) (d.Bh.fresh (lI _))
  ·rw[aO.mp g];apply d.aac (aZ _) (d.Bh.fresh (aZ _))
end
section
variable {prog:bC}{w:bU}{A:bX}{E:IE}{s:aN}
structure NM(z TI Bn i1 i2:aM)(v7 v5:Gc):Prop where
 TIz:TI≠z
 TOz:Bn≠z
 i1z:i1≠z
 i2z:i2≠z
 TITO:TI≠Bn
 TIi1:TI≠i1
 TIi2:TI≠i2
 TOi1:Bn≠i1
 TOi2:Bn≠i2
 i12:i1≠i2
 z1:z∉v7
 TO1:Bn∉v7
 i21:i2∉v7
 z2:z∉v5
 M2:Bn∉v5
 xh:i1∉v5
def w1{z TI Bn i1 Z:aM}{v7 v5:Gc}{n1 n2 k:Nat}{P1 P2:K_}{U X:L1}{a b:aG}{Q:IE}(D:NM z TI Bn i1 Z v7 v5)
  (D1:Draws prog w A i1 v7 n1 P1 U) (D2:Draws prog w A Z v5 n2 P2 X)
  (hz:oR s.heap z TI Bn .none) (hTI:jQ s.heap TI (.ref i1) (.ref Z)) (hTO:jQ s.heap Bn a b)
  (MH:U k s.heap) (ID:X k s.heap) (IJ:k<n1) (He:k<n2)
  (hQ:∀x y h' tk,P1 k x->P2 k y->oR h' z TI Bn (fE ⇑s)->jQ h' Bn x y->U (k+1) h'->X (k+1) h'->jQ h' ⇑s x y->h'.objs.size=⇑s+1->
   (∀c o,c≠z->c≠Bn->c≠i1->c≠Z->s.heap.get? c=aA o->h'.get? c=aA o)->Q (.ref ⇑s) {s with heap:=h',toks:=tk}) :
  ao (model prog w) A (km.«zip.__next__» ⟨[.ref z],[]⟩) (λfin Kl=>∃v,fin = .done (.ret v)/\Q v Kl) E s:=by
 change ao _ _ (field (.ref z) 2 >>= _) _ _ _;show aE (c9 hz rfl rfl ?_);show aE (c9 hz rfl rfl ?_);show aE (dh hTI rfl ?_);show aE ?_;show aE (c9 hz rfl rfl (aJ ?_));show aE (mO ?_);show aE (c9 hz rfl rfl ?_);show aE (g7 hz ⋯ λh₁ u l=>?_)
 replace u:oR h₁ z TI Bn .ellipsis:=u
 show aE ?_;show aE (aE (ko ?_));let st1:=D1.frame _ _ _ MH λc p o e=>l.extBut c o (λq=>D.z1 (q▸p)) e;show aE (D1.item k _ _ _ IJ st1 λx L tk₂ yw O d=>aJ ?_)
 replace d:cu i1 h₁ L:=d
 let C:=d.extBut _ _ D.TOi1 (l.extBut _ _ D.TOz hTO);show aE (dh C rfl ?_);show aE (lJ C λI n f=>?_)
 replace n:jQ I Bn x b:=n
 replace f:cu Bn L I:=f
 show aE (kE (aJ ?_));show aE (aE (ko ?_));let ye:=D2.frame _ _ _ ID λc p o e=>f.extBut c o (λq=>D.M2 (q▸p)) (d.extBut c o (λq=>D.xh (q▸p)) (l.extBut c o (λq=>D.z2 (q▸p)) e));show aE (D2.item k _ _ _ He ye λy M S xk R g=>aJ ?_)
 replace g:cu Z I M:=g
 let G:=g.extBut _ _ D.TOi2 n;show aE (dh G rfl ?_);show aE (lJ G λi j h=>?_)
 replace j:jQ i Bn x y:=j
 replace h:cu Bn M i:=h
 show aE (kE (aJ (aJ ?_)));show aE (dh j rfl ?_);show aE (wpAny_newTuple ?_);let zw:i.objs.size=⇑s:=by rw[h.1,g.1,f.1,d.1,l.1]
 let J:=h.extBut _ _ D.TOz.symm (g.extBut _ _ D.i2z.symm (f.extBut _ _ D.TOz.symm (d.extBut _ _ D.i1z.symm u)))
 let Y:∀c o,c≠z->c≠Bn->c≠i1->c≠Z->s.heap.get? c=aA o->i.get? c=aA o:=λc o c1 c2 c3 c4 e=>
  h.extBut _ _ c2 (g.extBut _ _ c4 (f.extBut _ _ c2 (d.extBut _ _ c3 (l.extBut _ _ c1 e))))
 let P:=D1.frame _ _ _ O λc p o e=>h.extBut c o (λq=>D.TO1 (q▸p)) (g.extBut c o (λq=>D.i21 (q▸p)) (f.extBut c o (λq=>D.TO1 (q▸p)) e));let T:=D2.frame _ _ _ R λc p o e=>h.extBut c o (λq=>D.M2 (q▸p)) e;let N:=aT J;show aE ?_;let W:oR (i.push {cls:=.type "tuple",data:=.seq #[x,y]}) z TI Bn .ellipsis:=aF _ J;show aE (g7 W ⋯ λh₇ B t=>?_)
 replace B:oR h₇ z TI Bn (fE i.objs.size):=B
 show g7 B ⋯ λF m r=>?_
 replace m:oR F z TI Bn (fE i.objs.size):=m
 let up:∀c o,c≠z->i.get? c=aA o->F.get? c=aA o:=λc o c1 e=>r.extBut _ _ c1 (t.extBut _ _ c1 (aF _ e));let H:=r.extBut _ _ (gG N) (t.extBut _ _ (gG N) (aV _ rfl));let hz8:F.objs.size=i.objs.size+1:=by rw[r.1,t.1,cT]
 rw[zw] at m H hz8;show aJ ⟨_,rfl,?_⟩;rw[zw];apply hQ x y F S yw xk m (up _ _ D.TOz j) (D1.frame _ _ _ P λc p o e=>up c o (λq=>D.z1 (q▸p)) e) (D2.frame _ _ _ T λc p o e=>up c o (λq=>D.z2 (q▸p)) e) H hz8 λc o c1 c2 c3 c4 e=>up c o c1 (Y c o c1 c2 c3 c4 e)
def Zdm{z TI Bn F I:aM}{M N:Gc}{T n2 k:Nat}{P1 P2:K_}{P L:L1}{a b:aG}{Q:PySem.Fin->aN->Prop}(D:NM z TI Bn F I M N)
  (D1:Draws prog w A F M T P1 P) (D2:Draws prog w A I N n2 P2 L)
  (J:oR s.heap z TI Bn .none) (S:jQ s.heap TI (.ref F) (.ref I)) (W:jQ s.heap Bn a b)
  (MH:P k s.heap) (ID:L k s.heap) (H:k=T\/(k<T/\k=n2))
  (hE:∀h' tk e,(∀c o,c≠z->c≠Bn->c≠F->c≠I->s.heap.get? c=aA o->h'.get? c=aA o)->(∃o,h'.get? e=aA o/\o.cls = .type "StopIteration")->E (.ref e) {s with heap:=h',toks:=tk}) :
  ao (model prog w) A (km.«zip.__next__» ⟨[.ref z],[]⟩) Q E s:=by
 change ao _ _ (field (.ref z) 2 >>= _) _ _ _;show aE (c9 J rfl rfl ?_);show aE (c9 J rfl rfl ?_);show aE (dh S rfl ?_);show aE ?_;show aE (c9 J rfl rfl (aJ ?_));show aE (mO ?_);show aE (c9 J rfl rfl ?_);show aE (g7 J ⋯ λh₁ i g=>?_)
 replace i:oR h₁ z TI Bn .ellipsis:=i
 replace g:cu z s.heap h₁:=g
 show aE ?_;show aE (aE (ko ?_));let B:=D1.frame _ _ _ MH λc G o e=>g.extBut c o (λq=>D.z1 (q▸G)) e;rcases H with Y | ⟨IJ,Y⟩
 ·rw[Y] at B;show aE (D1.done _ _ _ B λm e d he=>?_)
  replace d:mZ F h₁ m:=d
  let⟨X,n,t⟩:=he;let u:=d _ _ D.i1z.symm i;let C:e≠z:=λx=>by subst x;rw[u] at n;cases n;simp at t
  show g7 u ⋯ λl _ f=>?_
  replace f:cu z m l:=f
  apply hE l _ e (λc o c1 _ c3 _ x=>f.extBut _ _ c1 (d _ _ c3 (g.extBut _ _ c1 x))) ⟨X,f.extBut _ _ C n,t⟩
 ·show aE (D1.item k _ _ _ IJ B λx m Z yw U d=>aJ ?_)
  replace d:cu F h₁ m:=d
  let p:=d.extBut _ _ D.TOi1 (g.extBut _ _ D.TOz W);show aE (dh p rfl ?_);show aE (lJ p λl R f=>?_)
  replace f:cu Bn m l:=f
  show aE (kE (aJ ?_));show aE (aE (ko ?_));let O:=D2.frame _ _ _ ID λc G o e=>f.extBut c o (λq=>D.M2 (q▸G)) (d.extBut c o (λq=>D.xh (q▸G)) (g.extBut c o (λq=>D.z2 (q▸G)) e));rw[Y] at O;show aE (D2.done _ _ _ O λy e j he=>?_)
  replace j:mZ I l y:=j
  let⟨X,n,t⟩:=he;let r:=j _ _ D.i2z.symm (f.extBut _ _ D.TOz.symm (d.extBut _ _ D.i1z.symm i));let C:e≠z:=λx=>by subst x;rw[r] at n;cases n;simp at t
  show g7 r ⋯ λv _ h=>?_
  replace h:cu z y v:=h
  apply hE v _ e (λc o c1 c2 c3 c4 x=>h.extBut _ _ c1 (j _ _ c4 (f.extBut _ _ c2 (d.extBut _ _ c3 (g.extBut _ _ c1 x))))) ⟨X,h.extBut _ _ C n,t⟩
def Qx{z TI Bn i h:aM}{f g:Gc}{n t k:Nat}{q r:K_}{e d:L1}{a b:aG}{Q:Option aG->aN->Prop}(D:NM z TI Bn i h f g)
  (N:Draws prog w A.in1 i f n q e) (H:Draws prog w A.in1 h g t r d)
  (p:oR s.heap z TI Bn .none) (j:jQ s.heap TI (.ref i) (.ref h)) (l:jQ s.heap Bn a b)
  (M:e k s.heap) (J:d k s.heap) (v:k<n) (L:k<t)
  (I:∀x y h' tk,q k x->r k y->oR h' z TI Bn (fE ⇑s)->jQ h' Bn x y->e (k+1) h'->d (k+1) h'->jQ h' ⇑s x y->h'.objs.size=⇑s+1->
   (∀c o,c≠z->c≠Bn->c≠i->c≠h->s.heap.get? c=aA o->h'.get? c=aA o)->Q (aA (.ref ⇑s)) {s with heap:=h',toks:=tk}) :
  ao (model prog w) A (jw (.ref z)) Q E s:=by
 let m:s.TypeIs (.ref z) "zip":=⟨_,p,rfl⟩
 apply aE (gz (cg m F.slot_zip_next
  (cF F.slot_zip_next m F.entry_zip_next
   (w1 D N H p j l M J v L λx y h' tk C p2 R O B P G S u=>aJ (I x y h' tk C p2 R O B P G S u)) (F.args_zip_next_1 _))))
def Ph{z TI Bn l j:aM}{g h:Gc}{n t k:Nat}{v G:K_}{i f:L1}{a b:aG}{Q:Option aG->aN->Prop}(D:NM z TI Bn l j g h)
  (I:Draws prog w A.in1 l g n v i) (x:Draws prog w A.in1 j h t G f)
  (r:oR s.heap z TI Bn .none) (m:jQ s.heap TI (.ref l) (.ref j)) (p:jQ s.heap Bn a b)
  (H:i k s.heap) (C:f k s.heap) (d:k=n\/(k<n/\k=t))
  (B:∀h' tk,(∀c o,c≠z->c≠Bn->c≠l->c≠j->s.heap.get? c=aA o->h'.get? c=aA o)->Q aB {s with heap:=h',toks:=tk}):ao (model prog w) A (jw (.ref z)) Q E s:=by
 let q:s.TypeIs (.ref z) "zip":=⟨_,r,rfl⟩
 show aE (gz (cg q F.slot_zip_next
  (cF F.slot_zip_next q F.entry_zip_next (Zdm D I x r m p H C d λh' tk e y J=>?_) (F.args_zip_next_1 _))))
 let⟨o,L,u⟩:=J;show aE (ke ⟨o,L,u⟩ pA ?_);apply aJ (B _ tk y)
end
abbrev xW(h:b7)(KC:Bool)(l1:aM):b7:=h.push (Au KC l1)
abbrev xU(h:b7)(KC b2:Bool)(l1 l2:aM):b7:=(xW h KC l1).push (Au b2 l2)
abbrev xT(h:b7)(KC b2:Bool)(l1 l2:aM):b7:=(xU h KC b2 l1 l2).push {cls:=.type "tuple",data:=.seq #[.ref h.objs.size,.ref (xW h KC l1).objs.size]}
abbrev xS(h:b7)(KC b2:Bool)(l1 l2:aM):b7:=(xT h KC b2 l1 l2).push {cls:=.type "tuple",data:=.seq #[.none,.none]}
abbrev vy(h:b7)(KC b2:Bool)(l1 l2:aM):b7:=(xS h KC b2 l1 l2).push {cls:=.type "zip",data:=.fields #[.none,.bool aC,.bool aC,.ref (xU h KC b2 l1 l2).objs.size,.ref (xT h KC b2 l1 l2).objs.size]}
def QB(KC a:Bool)(l1 l2:aM)(xs ys:M_) :
  Meets (km.«zip.__new__» ⟨[.type "zip",.ref l1,.ref l2],[]⟩) (λ_ R s=>KZ KC s.heap l1 xs/\KZ a s.heap l2 ys/\
   R (.ok (.ret (.ref (xS s.heap KC a l1 l2).objs.size))) {s with heap:=vy s.heap KC a l1 l2}):=
 .of_wp λprog w A R s h=>by
  let⟨hp,g,d,tk,os⟩:=s;let⟨b,i,h⟩:=h;let j:=sub_zip;let f:=b;let c:KZ a (t8 ⟨hp.push (Au KC l1),g,d,tk,os⟩) l2 ys:=i.at λo e=>aF _ e
  wp_walk using Yk f,Yk c
  apply⟨_,rfl,h⟩
section
variable {prog:bC}{w:bU}{A:bX}{E:IE}{s:aN}
def Zn(e:KZ KC s.heap l1 xs)(a:KZ b2 s.heap l2 ys)
  (h:∀h',oR h' (⇑s+4) (⇑s+2) (⇑s+3) .none->jQ h' (⇑s+2) (.ref ⇑s) (.ref (⇑s+1))->
   jQ h' (⇑s+3) .none .none->Ad KC h' ⇑s l1 0->Ad b2 h' (⇑s+1) l2 0->h'.objs.size=⇑s+5->
   (∀c o,s.heap.get? c=aA o->h'.get? c=aA o)->Q (.ref (⇑s+4)) {s with heap:=h'}) :
  ao (model prog w) A (call (.type "zip") [.ref l1,.ref l2]) Q E s:=by
 show callType_new F.called_zip rfl (F.typeCall_zip_2 _ _) (F.newCall_zip_2 _ _) (λf=>F.args_object_init_3 f _ _) F.entry_zip_new
  (QB KC b2 l1 l2 xs ys) ⟨e,a,?_⟩
 let z1:(xW s.heap KC l1).objs.size=⇑s+1:=cT ..;let z2:(xU s.heap KC b2 l1 l2).objs.size=⇑s+2:=by rw[cT,z1]
 let b:(xT s.heap KC b2 l1 l2).objs.size=⇑s+3:=by rw[cT,z2]
 let d:(xS s.heap KC b2 l1 l2).objs.size=⇑s+4:=by rw[cT,b]
 let l:(vy s.heap KC b2 l1 l2).objs.size=⇑s+5:=by rw[cT,d]
 let g:(vy s.heap KC b2 l1 l2).get? (xS s.heap KC b2 l1 l2).objs.size=aA _:=aV _ rfl;let k:(vy s.heap KC b2 l1 l2).get? (xT s.heap KC b2 l1 l2).objs.size=aA _:=aF _ (aV _ rfl);let i:(vy s.heap KC b2 l1 l2).get? (xU s.heap KC b2 l1 l2).objs.size=aA _:=aF _ (aF _ (aV _ rfl));let j:(vy s.heap KC b2 l1 l2).get? (xW s.heap KC l1).objs.size=aA (Au b2 l2):=aF _ (aF _ (aF _ (aV _ rfl)));let m:(vy s.heap KC b2 l1 l2).get? ⇑s=aA (Au KC l1):=aF _ (aF _ (aF _ (aF _ (aV _ rfl))));rw[z2,b,d] at g;rw[z1,z2] at i;rw[b] at k;rw[z1] at j;rw[d]
 apply⟨⟨_,g,rfl⟩,h _ g i k (Ad.new m) (Ad.new j) l λc o x=>
  aF _ (aF _ (aF _ (aF _ (aF _ x))))⟩
end
def Inv.vR{w:MI}{U:St}{H:Hp}{s:aN}{m:Gc}{j:b7}{tk n:Nat}{B:E4}{xs:List V}(I:Inv X w U H s)(D:∀b∈m,Ap X w H b)
  (t:∀c o,c∉m->s.heap.get? c=aA o->j.get? c=aA o) (C:j.get? ⇑s=aA {cls:=.type "tuple",data:=.seq B.toArray n}) (G:Bj xs B) (J:la xs<=sizeLine) :
  Inv X w U (upd H ⇑s (.tup xs)) {s with heap:=j,toks:=tk}:=by
 let a:=I.Bh.fresh (aZ _);let y:∀c∈m,(c∈X.ex\/⇑X.s₀<=c)/\c≠X.env.locals/\(∀x d,X.env.cells.lookup x=aA d->d≠c)/\∀p∈X.Dp++w,p.1≠c:=λc h=>by let f:=D c h;apply⟨f.2.2.2.1,f.2.1,f.2.2.2.2.1,f.2.2.2.2.2⟩
 let k:∀c i,H c=aA i->c∉m:=λc i q h=>by rw[(D c h).1] at q;cases q
 let r:=λc i q=>(I.Bh c i q).MP (λd v L A=>t d v (by
   rcases L with z | z
   ·rw[z];apply k c i q
   ·apply k d _ z) A) (λ_ z=>z) (λ_ _ z=>z) λ_ _ z=>z
 let new:NI X.prog X.w (upd H ⇑s (.tup xs)) j ⇑s (.tup xs):=
  ⟨⟨J,λo e=>by rw[C] at e;cases e;rfl⟩,B,G,⟨_,C,rfl,_,rfl⟩⟩
 let l:FI X.prog X.w (upd H ⇑s (.tup xs)) j:=λc i q=>by
  by_cases F:c=⇑s
  ·subst F;rw[a_] at q;cases q;apply new
  ·rw[a0 F] at q;apply(r c i q).MP (λd v _ A=>A) (λd z=>by rw[a0 (Zh z a)];apply z) (λd E z=>by rw[a0 (Zh z a)];apply z) λd u z=>by rw[a0 (Zh z a)];apply z
 let un:Fo (DV X.stack) m H (upd H ⇑s (.tup xs)) s.heap j:=by
  show⟨λc o q _ _ g=>t c o g q,λc o q _ _ g=>⟨o.slots,t c o g q⟩,λc o q n _=>?_,λc o q g=>⟨o,t c o g q⟩,λc E q=>?_,λc o E q=>?_,λc ps q=>⟨#[],?_⟩⟩
  ·rw[a0 (ay (aT q))];apply n
  ·rw[a0 (Zh q a)];apply q
  ·rw[a0 (Zh q a)];apply q
  ·rw[a0 (Zh q a),q];simp
 apply I.call un l I.bare y
def Inv.u9{l:MI}{U:St}{H:Hp}{s:aN}{i:Gc}{r:b7}{tk:Nat}(I:Inv X l U H s)(t:∀b∈i,Ap X l H b)
  (k:∀c o,c∉i->s.heap.get? c=aA o->r.get? c=aA o):Inv X l U H {s with heap:=r,toks:=tk}:=by
 let m:∀c∈i,(c∈X.ex\/⇑X.s₀<=c)/\c≠X.env.locals/\(∀x d,X.env.cells.lookup x=aA d->d≠c)/\∀p∈X.Dp++l,p.1≠c:=λc e=>by let f:=t c e;apply⟨f.2.2.2.1,f.2.1,f.2.2.2.2.1,f.2.2.2.2.2⟩
 let h:∀c g,H c=aA g->c∉i:=λc g q e=>by rw[(t c e).1] at q;cases q
 let j:=λc g q=>(I.Bh c g q).MP (λd v w y=>k d v (by
   rcases w with z | z
   ·rw[z];apply h c g q
   ·apply h d _ z) y) (λ_ z=>z) (λ_ _ z=>z) λ_ _ z=>z
 let un:Fo (DV X.stack) i H H s.heap r:=
  ⟨λc o q _ _ a=>k c o a q,λc o q _ _ a=>⟨o.slots,k c o a q⟩,λc o q n _=>n,λc o q a=>⟨o,k c o a q⟩,λc u q=>q,λc o u q=>q,λc ps q=>⟨#[],by rw[q];simp⟩⟩
 apply I.call un j I.bare m
def KZ.gf(p:KZ b h a IS)(e:h.get? c=aA o)(d:o.data = .fields vs):a≠c:=λz=>by
 subst z
 cases b with
 | true=>let⟨i,g,_,m,f⟩:=(p);rw[e] at g;cases g;rw[d] at f;cases f
 | false=>let⟨i,g,_,m,f⟩:=(p);rw[e] at g;cases g;rw[d] at f;cases f
def Ad.rec(x:Ad b h it a i):∃o,h.get? it=aA o/\∃vs,o.data = .fields vs:=by
 cases b with
 | true=>let⟨o,e,_,d⟩:=(x);apply⟨o,e,_,d⟩
 | false=>let⟨o,e,_,d⟩:=(x);apply⟨o,e,_,d⟩
structure Zif(a1 a2 Bn TI:aM):Prop where
 a:a1≠Bn
 b:a2≠Bn
 c:a1≠TI
 d:a2≠TI
def Itz(KC b2:Bool)(K:aH)(a1 a2:aM):It:=
  ⟨λi H=>∃xs ys x y,Nd KC K H a1 xs/\Nd b2 K H a2 ys/\xs[i]?=aA x/\ys[i]?=aA y,
   λi H v H'=>∃p x y,H p=aB/\v = .ref p/\H'=upd H p (.tup [x,y])/\(∀xs,Nd KC K H a1 xs->xs[i]?=aA x)/\∀ys,Nd b2 K H a2 ys->ys[i]?=aA y,
   λi H=>∃xs ys,Nd KC K H a1 xs/\Nd b2 K H a2 ys/\(i=xs.length\/(i<xs.length/\i=ys.length))⟩
def Wp{w:bU}{K:aH}{elts:Fj}{k:Nat}{pos:gy}(KC b2:Bool)(a1 a2 z TI Bn G F:aM)(d:[z,TI,Bn,G,F].Nodup) :
  M1 P w K (.Tuple elts k pos) (Itz KC b2 K a1 a2) [z,TI,Bn,G,F] z
   (λi h=>oR h z TI Bn .none/\jQ h TI (.ref G) (.ref F)/\(∃u v,jQ h Bn u v/\Zif a1 a2 Bn TI)/\Ad KC h G a1 i/\Ad b2 h F a2 i) where
 mem:=⋯
 obj:=λi h st c Z=>by
  let⟨t,b,⟨u,v,l,_⟩,Y,T⟩:=st;dsimp[aW,cM,or_false] at Z;rcases Z with rfl | rfl | rfl | rfl | rfl
  ·apply⟨_,t,λv q=>by cases q⟩
  ·apply⟨_,b,λv q=>by cases q⟩
  ·apply⟨_,l,λv q=>by cases q⟩
  ·apply Y.has
  ·apply T.has
 keep:=λi h h' st kk=>by let⟨t,b,⟨u,v,l,f⟩,Y,T⟩:=st;apply⟨kk z ⋯ _ t,kk TI ⋯ _ b,⟨u,v,kk Bn ⋯ _ l,f⟩,Y.at λo q=>kk G ⋯ o q,T.at λo q=>kk F ⋯ o q⟩
 item:=by
  ext X hP hw hK Z i Iu s U H E I hf st IL;subst hP hw hK;let⟨xs,ys,x,y,O,R,IJ,He⟩:=IL;let⟨j,zk,M,hz1⟩:=I.B8 O;let⟨m,wA,p2,hz2⟩:=I.B8 R;let⟨u,Ft,ru⟩:=zk.get IJ;let⟨v,IU,rv⟩:=wA.get He;let⟨t,b,⟨q1,Bx,l,f⟩,Y,T⟩:=st;let⟨o1,Ko,vs1,d1⟩:=Y.rec;let⟨o2,e2,vs2,d2⟩:=T.rec;let γ:=M.gf t rfl;let X':=p2.gf t rfl;let ε:=M.gf Ko d1;let δ:=M.gf e2 d2;let Z':=p2.gf Ko d1;let Y':=p2.gf e2 d2;dsimp[au,aW,cM,not_or,cC,and_true,not_false_eq_true] at d;let⟨⟨n,r,C,B⟩,⟨W,S,N⟩,⟨J,L⟩,p⟩:=d;let⟨f1,f2,f3,f4⟩:=f;let D:NM z TI Bn G F [G,a1] [F,a2]:=⟨bN n,bN r,bN C,bN B,W,S,N,J,L,p,by simp[C,bN γ],by simp[J,bN f1],by simp[bN p,bN δ],by simp[B,bN X'],by simp[L,bN f2],by simp[p,bN Z']⟩;let D1:=Draws.seq (prog:=X.prog) (w:=X.w) (A:=X.A.in1) KC (I.ok.hd Z) G a1 ε j.toArray;let D2:=Draws.seq (prog:=X.prog) (w:=X.w) (A:=X.A.in1) b2 (I.ok.hd Z) F a2 Y' m.toArray;let l1:i<j.toArray.size:=by simpa using(aS.mp Ft).1
  let l2:i<m.toArray.size:=by simpa using(aS.mp IU).1
  show Qx D D1 D2 t b l ⟨Y,M⟩ ⟨T,p2⟩ l1 l2 λx' y' h' tk yw xk c1 c2 c3 c4 c5 c6 MK=>?_
  let ex':x'=u:=by
   let aay:=yw;let MW:j.toArray[i]?=aA u:=by simpa using Ft
   rw[aay] at MW;apply bG MW
  let ey':y'=v:=by
   let aay:=xk;let MW:m.toArray[i]?=aA v:=by simpa using IU
   rw[aay] at MW;apply bG MW
  subst ex' ey';show⟨_,rfl,wpAny_letOwnedTupleGo_zip c1 λh3 hz3 g=>?_⟩
  replace g:cu z h' h3:=g
  let kk:∀c o,c∉[z,TI,Bn,G,F]->s.heap.get? c=aA o->h3.get? c=aA o:=λc o a q=>
   g.extBut c o (λe=>a (by simp[e])) (MK c o (λe=>a (by simp[e])) (λe=>a (by simp[e])) (λe=>a (by simp[e])) (λe=>a (by simp[e])) q)
  let hTn:=I.Bh.fresh (aZ _);let hT3:=g.extBut _ _ (gG (aT t)) c5;let I2:=I.vR (tk:=tk) hf kk hT3 (.cons ru (.cons rv .nil)) (by change 2<=sizeLine;decide);show⟨.ref ⇑s,_,I2,rfl,⟨_,x,y,hTn,rfl,rfl,λzs xi=>by rw[I.mG xi O];apply IJ,λzs xi=>by rw[I.mG xi R];apply He⟩,⟨hz3,g.extBut _ _ (bN n) (MK _ _ (bN n) W S N b),⟨_,_,g.extBut _ _ (bN r) c2,f1,f2,f3,f4⟩,c3.1.at λo q=>g.extBut _ o (bN C) q,c4.1.at λo q=>g.extBut _ o (bN B) q⟩,λc a=>?_⟩;rw[a0 (ay ?_)]
  ·apply(hf c a).1
  ·dsimp[aW,cM,or_false] at a;rcases a with rfl | rfl | rfl | rfl | rfl
   ·apply aT t
   ·apply aT b
   ·apply aT l
   ·apply aT Ko
   ·apply aT e2
 done:=by ext X hP hw hK Z i Iu s U H E I hf st IL;subst hP hw hK;let⟨xs,ys,O,R,IJ⟩:=IL;let⟨j,zk,M,hz1⟩:=I.B8 O;let⟨m,wA,p2,hz2⟩:=I.B8 R;let⟨t,b,⟨q1,Bx,l,f⟩,Y,T⟩:=st;let⟨o1,Ko,vs1,d1⟩:=Y.rec;let⟨o2,e2,vs2,d2⟩:=T.rec;let γ:=M.gf t rfl;let X':=p2.gf t rfl;let ε:=M.gf Ko d1;let δ:=M.gf e2 d2;let Z':=p2.gf Ko d1;let Y':=p2.gf e2 d2;dsimp[au,aW,cM,not_or,cC,and_true,not_false_eq_true] at d;let⟨⟨n,r,C,B⟩,⟨W,S,N⟩,⟨J,L⟩,p⟩:=d;let⟨f1,f2,f3,f4⟩:=f;let D:NM z TI Bn G F [G,a1] [F,a2]:=⟨bN n,bN r,bN C,bN B,W,S,N,J,L,p,by simp[C,bN γ],by simp[J,bN f1],by simp[bN p,bN δ],by simp[B,bN X'],by simp[L,bN f2],by simp[p,bN Z']⟩;let D1:=Draws.seq (prog:=X.prog) (w:=X.w) (A:=X.A.in1) KC (I.ok.hd Z) G a1 ε j.toArray;let D2:=Draws.seq (prog:=X.prog) (w:=X.w) (A:=X.A.in1) b2 (I.ok.hd Z) F a2 Y' m.toArray;let n1:=zk.length;let n2:=wA.length;show Ph D D1 D2 t b l ⟨Y,M⟩ ⟨T,p2⟩ (by dsimp[aU];lia) λh' tk MK=>⟨rfl,?_⟩;apply I.u9 hf λc o a q=>MK c o (λe=>a (by simp[e])) (λe=>a (by simp[e])) (λe=>a (by simp[e])) (λe=>a (by simp[e])) q
 self:=λA i s Q E st hQ=>wpAny_pyIter_zip st.1 hQ
section
variable {X:Cx}
def C7(KC b2:Bool)(K:aH)(MG:De):TI:=λU H R=>MG U H λvs H1=>∃a1 a2,vs=[.ref a1,.ref a2]/\(∃xs,Nd KC K H1 a1 xs)/\(∃ys,Nd b2 K H1 a2 ys)/\R (Itz KC b2 K a1 a2) H1
def Zig{k:Nat}{l:gy}(KC x:Bool){a b:bS}{A:De}{p pos:gy}(T:Gl X "zip")(F:X.mg "zip" = aB)(Q:M8 X [a,b] A)
  (hs:aL [a,b] X.env=[(aC,eval a X.env),(aC,eval b X.env)]|>On) (m:aL [b] X.env=[(aC,eval b X.env)]|>On) :
  Aa X (.Tuple elts k l) (.Call (.Name "zip" p) [a,b] [] pos) (C7 KC x X.K A):=by
 ext M s U H R I h;show sP (Yt I T F boot_zip (br (ZV (Q pos M s U H _ I h) λus s1 ⟨vs,Y,f,N,G⟩=>?_) (by rw[hs,m]) (by rw[m];rfl)));let⟨u,t,e,⟨xs,v⟩,⟨ys,w⟩,q⟩:=G;subst e
 cases N with
 | cons r Dj=>
  cases Dj with
  | cons IW Dj=>
   cases Dj;cases r;cases IW;let⟨z,W,B,_⟩:=f.B8 v;let⟨D,P,p2,_⟩:=f.B8 w;show Zn B p2 λh' c1 c2 c3 c4 c5 Z L=>?_;show wpAny_pyIter_zip c1 ?_;let O:=f.kept (t':=s1.toks) L;let E:=let⟨_,e⟩:=B.has;aT e;let C:=let⟨_,e⟩:=p2.has;aT e;generalize S:⇑s1=n at *;let ne:∀(a:aM)(j:Nat),a<n->a≠n+j:=λa j h=>ay (ar h (gZ _ _));let J:([n+4,n+2,n+3,n,n+1]:Gc).Nodup:=by let d:∀(i j:Nat),i≠j->(n+i:Nat)≠n+j:=λi j h e=>h (pZ e);let o:∀(i:Nat),i≠0->(n+i:Nat)≠n:=λi h e=>h (pZ (e.trans (lu n).symm));dsimp[au,aW,cM,not_or,cC,and_true,not_false_eq_true];apply⟨⟨d 4 2 ∅,d 4 3 ∅,o 4 ∅,d 4 1 ∅⟩,⟨d 2 3 ∅,o 2 ∅,d 2 1 ∅⟩,⟨o 3 ∅,d 3 1 ∅⟩,(o 1 ∅).symm⟩
   show⟨n+4,[n+4,n+2,n+3,n,n+1],_,_,Y,rfl,O,Wp KC x u t (n+4) (n+2) (n+3) n (n+1) J,⟨c1,c2,⟨_,_,c3,ne u 3 E,ne t 3 C,ne u 2 E,ne t 2 C⟩,c4,c5⟩,λc y=>?_,q⟩
   let g:⇑s1<=c:=by
    rw[S];dsimp[aW,cM,or_false] at y;rcases y with rfl | rfl | rfl | rfl | rfl
    ·apply gZ _ _
    ·apply gZ _ _
    ·apply gZ _ _
    ·apply aZ _
    ·apply gZ _ _
   apply f.aac g (f.Bh.fresh g)
end
section
variable {prog:bC}{w:bU}{A:bX}{E:IE}{s:aN}
def Z6(e:(d==iQ)=aC)(c:s.heap.get? d=aA o)(g:o.ExactDict)(a:o.data = .dict Fc ep)
  (f:Q (.ref ⇑s) {s with heap:=s.heap.push {cls:=.type "dict_keyiterator",data:=.fields #[.ref d,.int 0 0,.int Fc.size 0,.int ep 0]}}) :
  ao (model prog w) A (mq (.ref d)) Q E s:=by
 let b:s.TypeIs (.ref d) "dict":=⟨o,c,g.1⟩;show kN b F.slot_dict_iter (cF F.slot_dict_iter b F.entry_dict_iter ?_ (F.args_dict_iter_1 _));show aE ?_;show aE (wpAny_notOrdered_dict b ?_);show aJ ?_;change ao _ _ (o4 d >>= _) _ _ s;delta o4;rw[Fb (by rw[e];apply bg)];show aE (aJ ?_);show aE (m5 c a ?_);show aE (oU c a ?_);show aE (cw (aJ ⟨_,rfl,"dict_keyiterator",_,⟨_,aV _ rfl,rfl⟩,F.slot_dict_keyiterator_next.lookup,?_⟩));simpa [fE] using f
def Sl(a:s.heap.IsKeyIter it d i Fc.size ep)
  (c:s.heap.get? d=aA Dc) (g:Dc.data = .dict Fc ep) (m:Fc[i]?=aA e)
  (k:∀h',h'.IsKeyIter it d (i+1) Fc.size ep->cu it s.heap h'->Q (aA e.key) {s with heap:=h'}) :
  ao (model prog w) A (jw (.ref it)) Q E s:=by
 let⟨o,j,n,h⟩:=id a
 show aE (gz (cg a.typeIs F.slot_dict_keyiterator_next
  (cF F.slot_dict_keyiterator_next a.typeIs F.entry_dict_keyiterator_next ?_ (F.args_dict_keyiterator_next_1 _))))
 show aE (aJ ?_);show aE ?_;show aE ?_
 first | show aE (gK a.typeIs (aJ ?_)) | show aE (hV a.typeIs (aJ ?_))
 show aE (mP j h ?_);show aE (aJ ?_);show aE (m5 c g ?_);rw[Fb ⋯];show aE (aJ ?_);show aE (oU c g ?_);rw[Fb ⋯];show aJ ?_;let⟨f,l⟩:=cL.mp m;subst l;dsimp[fV,dY f];show aE ?_
 first | show aE (gK a.typeIs (aJ ?_)) | show aE (hV a.typeIs (aJ ?_))
 show aE (o5 a.typeIs ?_);change ao _ _ (setField (.ref it) 1 (fE ((i:Int)+1)) >>= _) _ _ s;show aE (fX j h ⋯ ?_)
 let b:(s.heap.update it (gH (·.setIfInBounds 1 (fE ((i:Int)+1))))).IsKeyIter it d (i+1) Fc.size ep:=
  ⟨_,bZ _ j (fA (cH h _)),(gp ..).trans n,by rw[cH h];simp[fE]⟩
 show aE (b9 ?_);show aE (o5 b.typeIs ?_);apply aJ (aJ ⟨_,rfl,aJ (k _ b (cU ..))⟩)
def Rr(g:A.handled=aB)(a:s.heap.IsKeyIter it d Fc.size Fc.size ep)
  (b:s.heap.get? d=aA Dc) (c:Dc.data = .dict Fc ep)
  (h:∀h',mZ it s.heap h'->Q aB {s with heap:=h'}):ao (model prog w) A (jw (.ref it)) Q E s:=by
 let⟨o,f,i,e⟩:=id a
 show aE (gz (cg a.typeIs F.slot_dict_keyiterator_next
  (cF F.slot_dict_keyiterator_next a.typeIs F.entry_dict_keyiterator_next ?_ (F.args_dict_keyiterator_next_1 _))))
 show aE (aJ ?_);show aE ?_;show aE ?_
 first | show aE (gK a.typeIs (aJ ?_)) | show aE (hV a.typeIs (aJ ?_))
 show aE (mP f e ?_);show aE (aJ ?_);show aE (m5 b c ?_);rw[Fb ⋯];show aE (aJ ?_);show aE (oU b c ?_);rw[Fb ⋯];show aJ ?_;dsimp[fV,iR (aZ Fc.size)];show aE ?_
 first | show aE (gK a.typeIs (aJ ?_)) | show aE (hV a.typeIs (aJ ?_))
 change ao _ _ (setField (.ref it) 0 .none >>= _) _ _ s;show aE (fX f e ⋯ ?_);show aE ?_;show aE (m:=oz _ _) (m4 rfl ?_);show cw ?_ (by size_fits);show aE (qA ?_);rw[g];show aE (aJ (rg ?_));show aE (ke ⟨_,aV _ rfl,rfl⟩ pA ?_);apply aJ (h _ (((cU ..).extBut.push _).push _))
end
def Ge(d:aM)(o:fH)(Bg:List (List MJ×V)):It:=
  ⟨λi H=>H d=aA (.Km o (.E6 Bg))/\i<la Bg,
   λi H v H'=>H'=H/\∃b k y,Bg[i]?=aA (k,y)/\v = .ref b/\H b=aA (.tup (k.map FH)),
   λi H=>H d=aA (.Km o (.E6 Bg))/\i=la Bg⟩
def KT.get:∀{Bg:List (List MJ×V)}{xs:List (List MJ×aM×aG)}{i:Nat}{p:List MJ×V},KT H Bg xs->Bg[i]?=aA p->∃q,xs[i]?=aA q/\p.1=q.1/\H q.2.1=aA (.tup (p.1.map FH))/\RelV p.2 q.2.2
 | _,_,_,_,.nil,e=>by simp at e
 | _,_,0,_,.cons r _,e=>by simp at e;subst e;apply⟨_,rfl,r⟩
 | _,_,i+1,p,.cons _ t,e=>by let⟨q,a,b⟩:=KT.get (i:=i) (p:=p) t (~~~e);apply⟨q,by simpa using a,b⟩
def uu{w:bU}{K:aH}{IC:bS}(d it:aM)(o:fH)(m:Array DictEntry)(ep:Nat)(O:List (List MJ×V))(G:o.data = .dict m ep)(g:m.size=la O) :
  M1 P w K IC (Ge d o O) [it] it (λi h=>h.IsKeyIter it d i m.size ep) where
 mem:=⋯
 obj:=λi h st b a=>by rw[aO.mp a];let⟨o,e,c,q⟩:=st;apply⟨o,e,λv z=>by rw[q] at z;cases z⟩
 keep:=λi h h' st k=>by let⟨o,e,r⟩:=st;apply⟨o,k it ⋯ o e,r⟩
 item:=by
  ext X hP hw hK J i Iu s U H E I j st C;let⟨t,B⟩:=C;let⟨n,z,y,xs,r,Kq,es',R,N,ID,L,S,h5⟩:=(I.Bh d _ t);rw[n] at N;cases N;rw[G] at L;cases L;let M:=aI B;let⟨q,MO,eq,a,rv⟩:=KT.get r M;let he:m[i]?=aA (entryOfKey (nJ (F7 X.prog X.w)) q):=by let:=congrArg (λl=>l[i]?) S;dsimp[af,MO] at this;simpa using this
  let⟨x,f1,W,u,D,p⟩:=j it ⋯;show Sl st n G he λh' f T=>?_;let Y:=I.turned (t':=s.toks) (λb o a e=>(T.2 b a).trans e) x f1 u D p;let⟨o2,Z,c2,d2⟩:=id f;apply⟨_,rfl,PI Z c2 d2 rfl ⟨.ref q.2.1,H,Y,rfl,⟨rfl,q.2.1,_,_,M,rfl,a⟩,f,λb a=>(j b a).1⟩⟩
 done:=by ext X hP hw hK J i Iu s U H E I j st C;let⟨t,B⟩:=C;let⟨n,_⟩:=(I.Bh d _ t);let⟨x,f1,W,u,D,p⟩:=j it ⋯;rw[B,<-g] at st;apply Rr (I.ok.hd J) st n G λh' eb=>⟨rfl,I.turned (λb o a e=>eb b o a e) x f1 u D p⟩
 self:=λA i s Q E st hQ=>by show kN st.typeIs F.slot_dict_keyiterator_iter (cF F.slot_dict_keyiterator_iter st.typeIs F.entry_dict_keyiterator_iter ?_ (F.args_dict_keyiterator_iter_1 _));apply aJ ⟨_,rfl,"dict_keyiterator",_,st.typeIs,F.slot_dict_keyiterator_next.lookup,hQ⟩
section
variable {X:Cx}{IC:bS}
def Inv.freeze(I:Inv X Iu U H s)(f:H d=aA (.E6 Bg))(j:s.heap.get? d=aA o) :
  Inv X Iu U (upd H d (.Km o (.E6 Bg))) s:=by
 let ne:∀b u,H b=aA u->(∀k,u≠.E6 k)->b≠d:=λb u q n z=>by rw[z,f] at q;apply n _ (bG q).symm
 let i:∀b,H b=aB->b≠d:=λb q z=>by rw[z,f] at q;cases q
 let un:Fo X.fs [] H (upd H d (.Km o (.E6 Bg))) s.heap s.heap:=
  ⟨λb o q _ _ _=>q,λb o q _ _ _=>⟨o.slots,q⟩,λb o q n _=>by rw[a0 (i b n)];apply n,λb o q _=>⟨o,q⟩,
   λb xs q=>by rw[a0 (ne b _ q λ_ z=>nomatch z)];apply q,λb o u q=>by rw[a0 (ne b _ q λ_ z=>nomatch z)];apply q,λb ps q=>⟨#[],by rw[a0 (ne b _ q λ_ z=>nomatch z),q];simp⟩⟩
 let g:FI X.prog X.w (upd H d (.Km o (.E6 Bg))) s.heap:=λb u q=>by
  let a:∀c y,H c=aA (.own y)->upd H d (.Km o (.E6 Bg)) c=aA (.own y):=λc y z=>by rw[a0 (ne c _ z λ_ z=>nomatch z)];apply z
  let e:∀c xs,H c=aA (.tup xs)->upd H d (.Km o (.E6 Bg)) c=aA (.tup xs):=λc y z=>by rw[a0 (ne c _ z λ_ z=>nomatch z)];apply z
  by_cases h:b=d
  ·subst h;rw[a_] at q;cases q;apply⟨j,(I.Bh b _ f).MP (λ_ _ _ z=>z) (λc z=>a c _ z) e λc u z=>by rw[a0 (ne c _ z λ_ z=>nomatch z)];apply z⟩
  ·rw[a0 h] at q;apply(I.Bh b u q).MP (λ_ _ _ z=>z) (λc z=>a c _ z) e λc u z=>by rw[a0 (ne c _ z λ_ z=>nomatch z)];apply z
 let:=I.un (t':=s.toks) un g;apply this
def F0(Dx:TE):TI:=λU H R=>Dx U H λx H1=>∃d Bg,x = .ref d/\((H1 d=aA (.E6 Bg)/\∀o,R (Ge d o Bg) (upd H1 d (.Km o (.E6 Bg))))\/∃o,H1 d=aA (.Km o (.E6 Bg))/\R (Ge d o Bg) H1)
def yQ{A:TE}(E:DC X l A):Aa X IC l (F0 A):=by
 ext t s U H R I h;show ZV (E t s U H _ I h) ?_;ext v s1 ⟨x,N,m,G,C⟩;let⟨d,j,e,q⟩:=C;subst e;cases G
 let a:∀(o:fH)(c:Hp),Inv X t U c s1->c d=aA (.Km o (.E6 j))->R (Ge d o j) c->ao (model X.prog X.w) X.A (mq (.ref d)) (EH X t U IC R) X.Bk s1:=λo c g D M=>by
  let⟨w,z,y,xs,r,P,p,ep,i,u,n,B,F⟩:=(g.Bh d _ D);rw[w] at i;cases i
  let k:p.size=j.length:=by
   let J:=congrArg fK B;let O:=Paired.length r;dsimp[bJ,aK] at J
   lia
  show Z6 y w u n ?_;show⟨⇑s1,[⇑s1],_,_,c,rfl,g.kept λb o e=>aF _ e,uu d _ o p ep j n k,⟨_,aV _ rfl,rfl,rfl⟩,λb L=>?_,M⟩;rw[aO.mp L];apply g.aac (aZ _) (g.Bh.fresh (aZ _))
 rcases q with⟨f,q⟩ | ⟨o,f,q⟩
 ·let⟨z,y,xs,r,o,p,ep,i,u,n,B,F⟩:=(m.Bh d _ f);apply a o _ (m.freeze f i) a_ (q o)
 ·apply a o N m f q
end
theorem Walks.B8(b:Bool)(e:A.handled=aB)(I c:aM)(d:c≠I)(a:M_) :
  Walks prog w A I [I,c] [I] a.size (λi v=>a[i]?=aA v) (λi h=>Ad b h I c i/\KZ b h c a):=by
 cases b with
 | true=>apply Walks.list e I c d a
 | false=>apply Walks.tuple e I c d a
section
variable {X:Cx}
def Rt(B:X.calm=aD):Ag X (.builtin "sum") (λxs H Q=>∃(b:Bool) (p:aM) (ns:E1),xs=[.ref p]/\Nd b X.K H p (ns.map V.int)/\Q (.int ns.sum) H):=by
 ext J s U H xs L Q I r h;let⟨b,p,ns,rfl,D,q⟩:=h;let⟨u,rfl,C⟩:=W9 r;cases C;let⟨n,l,a,G⟩:=I.B8 D;let hp:=let⟨_,e⟩:=a.has;aT e;show call_sum_walkG (Yk a ?_);show⟨_,_,_,_,_,_,λi=>ns.getD i 0,rfl,Walks.B8 (A:=X.A.in1) b (I.ok.hd B) ⇑s p (ay hp) n.toArray,⟨Ad.new (aV _ rfl),a.at λo e=>aF _ e⟩,λc f=>?_,λi v g=>?_,λh' tk t' w=>?_⟩
 ·change c<(s.heap.push _).objs.size;rw[cT];rcases aW.mp f with rfl | f
  ·apply iK _
  ·rw[aO.mp f];apply eY hp
 ·let g:=g;let g:n[i]?=aA v:=by simpa using g
  let j:=l.length;rw[aK] at j;let E:i<la ns:=by rw[j];apply(aS.mp g).1
  let⟨u,y,F⟩:=l.get (i:=i) (x:=.int ns[i]) ⋯;rw[g] at y;cases y;let⟨t,rfl⟩:=F;show⟨t,?_⟩;change gM ns[i] t=gM (ns.getD i 0) t;rw[aP,aI E];rfl
 ·let e:preSum (λi=>ns.getD i 0) n.toArray.size=ns.sum:=by
   let j:=l.length;rw[aK] at j;rw[aU,<-j]
   let m:∀k,k<=la ns->preSum (λi=>ns.getD i 0) k=(ns.take k).sum:=by
    ext k
    induction k with
    | zero=>ext _;simp[preSum]
    | succ k E2=>
     ext w;rw[preSum,E2 (),kO,aP,aI (),jq];simp
   rw[m _ (aZ _),dQ]
  rw[e];show⟨.int ns.sum,H,I.kept (λc o d=>w c o ?_ (aF _ d)),⟨_,rfl⟩,q⟩;ext z;rw[aO.mp z] at d;apply absurd (aT d) (cO _)
def Ru(t:X.calm=aD):Ag X (.builtin "all") (λxs H Q=>∃(b:Bool) (p:aM) (bs:I8),xs=[.ref p]/\Nd b X.K H p (bs.map V.Iv)/\Q (.Iv (bs.all id)) H):=by
 ext G s U H xs L Q I r h;let⟨b,p,bs,rfl,C,q⟩:=h;let⟨u,rfl,y⟩:=W9 r;cases y;let⟨k,l,a,F⟩:=I.B8 C;let hp:=let⟨_,e⟩:=a.has;aT e;let j:=l.length;rw[aK] at j;show call_all_walk (Yk a ?_);show⟨_,_,_,_,_,_,λi=>bs.getD i aD,rfl,Walks.B8 (A:=X.A.in1) b (I.ok.hd t) ⇑s p (ay hp) k.toArray,⟨Ad.new (aV _ rfl),a.at λo e=>aF _ e⟩,λi v E M J g B=>?_,λh' tk z=>?_⟩
 ·let g:=g;let g:k[i]?=aA v:=by simpa using g
  let d:i<la bs:=by rw[j];apply(aS.mp g).1
  let⟨u,m,D⟩:=l.get (i:=i) (x:=.Iv bs[i]) ⋯;rw[g] at m;cases m;cases D;show dR ?_;let e:bs.getD i aD=bs[i]:=by rw[aP,aI d];rfl
  rw[<-e];apply B
 ·let e:(aQ k.toArray.size).all (λi=>bs.getD i aD)=bs.all id:=by
   rw[aU,<-j,jr,bK,bK];constructor
   ·ext h x w;let⟨i,d,rfl⟩:=lM.mp w;let:=h i (av.mpr d);rw[aP,aI d] at this;apply this
   ·ext h i d;let d:=av.mp d;rw[aP,aI d];apply h _ (cI d)
  rw[e];show⟨.Iv (bs.all id),H,I.kept (λc o f=>z c o ?_ (aF _ f)),rfl,q⟩;ext n;rw[aO.mp n] at f;apply absurd (aT f) (cO _)
def WB:Ag X (.builtin "isinstance") (λxs H Q=>∃x T t b,xs=[x,.ty T]/\IZ X.K H x t/\bT X.K t (.type T)=aA b/\Q (.Iv b) H):=by ext f s U H xs g Q I r h;let⟨x,T,t,b,rfl,d,c,q⟩:=h;let⟨u,v,rfl,e,a⟩:=Tp r;cases a;apply sz I e d c λtk=>⟨.Iv b,H,I.tok tk,rfl,q⟩
def Rg{K:aH}:bT K (.type "int") (.type "int")=aA aD:=rfl
def S6{K:aH}:bT K (.type "int") (.type "bool")=aA aC:=rfl
def UZ{K:aH}:bT K (.type "tuple") (.type "tuple")=aA aD:=rfl
def ZX{K:aH}:bT K (.type "list") (.type "list")=aA aD:=rfl
def xJ{K:aH}:bT K (.type "str") (.type "str")=aA aD:=rfl
def F1:V->List V->Hp->IG->Prop:=λx vs H Q=>∃l xs k y,x = .ref l/\vs=[.int k,y]/\H l=aA (.lst xs)/\0<=k/\k<2^63/\xs.length<sizeLine/\Q .IB (upd H l (.lst (xs.take k.toNat++y::xs.drop k.toNat)))
def g':Jy X "list.insert" F1:=by
 ext C s U H x vs v D Q I m i h;let⟨l,xs,k,y,rfl,rfl,f,B,p,w,q⟩:=h;cases m;let⟨u,d,rfl,o,g⟩:=i.two;let⟨t,rfl⟩:=o;let⟨z,a,n,r,A,e⟩:=I.BJ f;let b:¬(!Builtin.List.listFitsIndex k)=aD:=by rw[fitsIndex_both () p];apply bg
 show jP F.slot_list_insert ⟨_,e,rfl⟩ F.entry_list_insert (F.args_list_insert_3 _ _ _) (AutoListH.list_insert_list_int_val_1 l a.toArray n k t d b (by rw[aU];lia)) ⟨e,?_⟩;show⟨.IB,_,I.aax f e ?_ ((r.take k.toNat).append (.cons g (r.drop k.toNat))) ?_,rfl,q⟩
 ·change(have j:=if k<0 then(k+((a.toArray.size:Nat):Int)).toNat else min k.toNat a.toArray.size;(a.toArray.extract 0 j).push d++a.toArray.extract j)=_;rw[Fb ()];by_cases c:k.toNat<=a.length
  ·rw[js (by rw[aU];apply c)];simp;rw[cK ⋯]
  ·rw[kf (by rw[aU];lia)];rw[cK (),gV ()];simp
 ·rw[aq,bB,bz,fL]
  lia
end
def Jl(H H':Hp):Prop:=∀b xs,H b=aA (.tup xs)->H' b=aA (.tup xs)
def MX.tk(s:MX H H'):Jl H H':=λb xs h=>s b _ h
def MX.new(h:H p=aB)(o:HO):MX H (upd H p o):=λb u q=>by rw[a0 (Zh q h)];apply q
structure Def(K:aH)(mg:Bp)(x:bH)(st:cJ):Prop where
 ex:∃f fd,mg x=aA (.ref f)/\MU K x x st f fd
def def_mk{K:aH}{h:b7}{mg:Bp}{x:bH}{st:cJ}{f:aM}{g:aG}{i m:I'}{d:L4}{FH e j b Bi:aG}(X:K.In h)(G:h.Ns bP mg)
  (a:cB K bP x=aA (aA (.ref f))) (l:K.lookup f=aA ⟨g,i,.func (cX x x (HI st) (FQ st) (DG st) .none FH e j m b Bi),d⟩)
  (c:da K b x=aD) (k:eB K (.ref f)=aD):Def K mg x st:=⟨f,_,dS X G a,dP l c k⟩
structure BL(P:bC)(w:bU)(K:aH)(mg:Bp)(base:b7)(x:bH)(ps:Kn)(Fv:By)(k:Nat):Prop where
 ex:∃f fd,mg x=aA (.ref f)/\eB K (.ref f)=aD/\Binds K fd ps []/\FD P w K mg base Nc k f fd ps Fv
section
variable {P:bC}{w:bU}{K:aH}{mg:Bp}{base:b7}
def Def.cal{st:cJ}{N ps:Kn}{k:Nat}{d:By}(D:Def K mg x st)(S:Bz N ps (DG st))
  (j:∀(FH doc pm:aG)(an:I')(b Bi:aG)(us:E4),us.length=la ps->i8 (cX x x (HI st) (FQ st) (DG st) .none FH doc pm an b Bi) ⟨us,[]⟩=pure (ps.zip us))
  (len:∀vs H Q E,d vs H Q E->la vs=la ps)
  (c:∀(f:aM)(b:aG)(A:bX)(a:Dk)(s:aN)(H:Hp)(vs:List V)(Q:IG)(E:Kp),MN k (A.deeper (jE x (DG st) ⇑s f b))->d vs H Q E->
   ∃t,KJ (K3 Nc P w K mg base N x (DG st) f b A a s H E).Hb (FQ st) t/\t {IA:=λ_ g=>Q .IB g,E7:=Q} (start N vs) H):BL P w K mg base x ps d (k+1):=by
 let⟨f,i,e,F⟩:=D.ex;apply⟨f,i,e,F.aaz,F.binds j,F.ok S len λb A a s H vs Q E l h=>c f b A a s H vs Q E l h⟩
end
section
variable {X:Cx}{x:bH}{ps:Kn}{Fv:By}{k:Nat}{e:bS}{Fc:Fj}{t:De}{p pos:gy}
def Zii(C:BL X.prog X.w X.K X.mg X.base x ps Fv k)(m:MN k X.A)(l:Gl X x)(j:M8 X (e::Fc) t)
  (g:(x==("__debug__" : bH))=aC|>Op) (i:aL (e::Fc) X.env=(aC,eval e X.env)::aL Fc X.env|>On) (h:(cQ pos (aL Fc X.env)).any (·.1)=aC|>On) :
  DC X (.Call (.Name x p) (e::Fc) [] pos) (J5 Fv [] E0 t):=by
 let⟨f,n,a,b,c,d⟩:=C.ex;apply wt d m l a b c .nil Zgk j g i h
end
def HZ(N:Kn)(around scope:jd)(own fr:Kn)(Bm:Iw):Bool:=
 (match scope.kind with | .function=>aD | _=>aC)&&scope.names.all (λy=>y.2 != .cell)&&scope.names.all (λy=>y.2 != .local || scope.names.lookup y.1==aA .local)&&
 scope.names.all (λy=>y.2 != .free || (around.names.lookup y.1==aA .cell || around.names.lookup y.1==aA .free))&&(fr.map aA==Bm.map (λi=>N[i]?))&&
 fr.all (λx=>scope.names.contains (x,cj))&&fr.all (λx=>scope.names.lookup x != aA .local)
def Rv(h:HZ N around scope own fr Bm=aD):aao N around scope own fr Bm:=by
 delta HZ at h;dsimp[aX] at h;let⟨⟨⟨⟨⟨⟨c,i⟩,f⟩,k⟩,d⟩,g⟩,j⟩:=h;show⟨?_,λy a=>?_,λy a e=>?_,λy a e=>?_,by simpa using d,λx b=>?_,λx b=>?_⟩
 ·split at c
  ·assumption
  ·cases c
 ·simpa using bK.mp i y a
 ·let:=bK.mp f y a;rw[e] at this;simpa using this
 ·let:=bK.mp k y a;rw[e] at this;simpa using this
 ·simpa using bK.mp g x b
 ·simpa using bK.mp j x b
section
variable {X:Cx}{IC elt iter:bS}{ifs:Fj}{scope:jd}{pos:gy}{Dm:TI}{g:FC}{tt:TT}{Br:TE}
def X1(own fr:Kn)(b:Iw)(a:X.calm=aD)(f:Aa X IC iter Dm)(S:HZ X.N X.env.scope scope own fr b=aD)
  (d:∀cl C s H ex,Aj (B1 X (own++fr) scope cl C s H ex) IC g) (e:∀cl C s H ex,BK (B1 X (own++fr) scope cl C s H ex) ifs tt) (c:∀cl C s H ex,DC (B1 X (own++fr) scope cl C s H ex) elt Br)
  (hs:(∀x,cY iter X.env x=pure x)|>Pi):DC X (.ListComp elt [⟨IC,iter,ifs,0⟩] scope pos) (NL (la own) b Dm g tt Br):=
 Zdj a f (Rv S) d e c hs
def pG(own fr:Kn)(d:Iw)(e:X.N.Nodup)(k:X.N[i]?=aA y)(b:X.env.scope.names.lookup y=aA .local)(a:X.calm=aD)(f:Aa X IC iter Dm)(S:HZ X.N X.env.scope scope own fr d=aD)
  (j:∀cl C s H ex,Aj (B1 X (own++fr) scope cl C s H ex) IC g) (l:∀cl C s H ex,BK (B1 X (own++fr) scope cl C s H ex) ifs tt) (h:∀cl C s H ex,DC (B1 X (own++fr) scope cl C s H ex) elt Br)
  (c:iH (.ListComp elt [⟨IC,iter,ifs,0⟩] scope pos) (aA (.Name y py)) vF.line X.env=pure aD|>On)
  (hs:(∀x,cY iter X.env x=pure x)|>Pi):Df X (.Assign [.Name y py] (.ListComp elt [⟨IC,iter,ifs,0⟩] scope pos) vF) (Ht (NL (la own) d Dm g tt Br) (H9 i)):=
 Zdk e k b a f (Rv S) j l h c hs
end
structure Blt(mg:Bp):Prop where
 «len» : mg "len" = aB
 «sum» : mg "sum" = aB
 «range» : mg "range" = aB
 «enumerate» : mg "enumerate" = aB
 «zip» : mg "zip" = aB
 «tuple» : mg "tuple" = aB
 «list» : mg "list" = aB
 «all» : mg "all" = aB
 «any» : mg "any" = aB
 «isinstance» : mg "isinstance" = aB
 «int» : mg "int" = aB
 «bool» : mg "bool" = aB
 «str» : mg "str" = aB
 «min» : mg "min" = aB
 «max» : mg "max" = aB
 «sorted» : mg "sorted" = aB
 «abs» : mg "abs" = aB
 «ValueError» : mg "ValueError" = aB
 «reversed» : mg "reversed" = aB
 «set» : mg "set" = aB
abbrev B_(g:FC)(IP:Di)(D:B5)(U:St)(J:It)(H:Hp):Prop:=
 ∃W:Nat->Nat->St->Hp->Prop,(∃m,W 0 m U H)/\∀i m U H,W i m U H->
   (J.stop i H/\D.IA U H)\/(J.go i H/\∃N:St->Hp->Prop,(∀Fe H',N Fe H'->∃Bu,Bu<m/\W (i+1) Bu Fe H')/\∀x H',J.BF i H x H'->g x U H' λNB H2=>IP {D with IA:=N,Bi:=N,MM:=D.IA} NB H2)
def BR(l:E1)(i:Nat):Int:=l.getD i 0
def ui(l:E1):(aQ (la l)).map (BR l)=l:=by
 apply((gq));ext i;rw[af];by_cases h:i<la l
 ·rw[aI (~~~h)];simp[BR,aI h]
 ·rw[dI (~~~h),dI ()];rfl
def TF(h:i<n):BR ((aQ n).map f) i=f i:=by delta BR;rw[aP,af,fm h];rfl
def FK(w:Iz)(i:Nat):List Int:=w.getD i []
def Pj(h:i<w.length):w[i]?=aA (FK w i):=by delta FK;rw[aP,aI h];rfl
def DD(w:Iz)(i j:Nat):Int:=BR (FK w i) j
structure Zu(w:Iz):Prop where
 pos:1<=la w
 lF:la w<=7
 sq:∀i,i<la w->(FK w i).length=la w
 lo:∀i j,i<la w->j<la w->0<=DD w i j
 E5:∀i j,i<la w->j<la w->DD w i j<=9
 sym:∀i j,i<la w->j<la w->DD w i j=DD w j i
 xC:∀i,i<la w->DD w i i=0
def G8(K:aH):List V->Hp->IG->Prop:=λxs H Q=>∃p ys,xs=[.ref p]/\((BZ K H p ys/\∀l,H l=aB->Q (.ref l) (upd H l (.tup ys)))\/(DJ K H p ys/\Q (.ref p) H))
def G9(K:aH):List V->Hp->IG->Prop:=λxs H Q=>∃p ys,xs=[.ref p]/\(BZ K H p ys\/DJ K H p ys)/\∀l,H l=aB->Q (.ref l) (upd H l (.lst ys))
def MX.off(s:MX H Hc)(n:Hc p=aB):H p=aB:=s.free n
abbrev Xs:=Nat×Nat×Int
structure b0(n:Nat)(ts:List Xs):Prop where
 ok:∀e∈ts,e.1<e.2.1/\e.2.1<n/\1<=e.2.2/\e.2.2<=9
 E3:(ts.map λe=>(e.1,e.2.1)).Nodup
def Zdo{a b d c:Nat}(h:([gU (a:Int),gU (b:Int)]:List MJ)=[gU (d:Int),gU (c:Int)]):a=d/\b=c:=by
 let f:=(qC h).1;let e:=(qC (qC h).2).1;let g:=rh f;let i:=rh e
 lia
def b0.nil(n:Nat):b0 n []:=⟨λ_ h=>by simp at h,⋯⟩
def Lc(M:Iz)(a b:Nat)(t:Int):List (List Int):=M.set a ((FK M a).set b t)
def Ar(M:Iz)(e:Xs):List (List Int):=Lc (Lc M e.1 e.2.1 e.2.2) e.2.1 e.1 e.2.2
def HH(n:Nat)(ts:List Xs):List (List Int):=ts.foldl Ar (ak n (ak n 0))
structure ff(n:Nat)(M:Iz):Prop where
 len:la M=n
 row:∀i,i<n->(FK M i).length=n
 lo:∀i j,i<n->j<n->0<=DD M i j
 E5:∀i j,i<n->j<n->DD M i j<=9
 sym:∀i j,i<n->j<n->DD M i j=DD M j i
 xC:∀i,i<n->DD M i i=0
def Xv{M:Iz}{a i:Nat}{r:E1}(b:a<la M):FK (M.set a r) i=if a=i then r else FK M i:=by
 delta FK;by_cases h:a=i
 ·subst h;simp[b]
 ·simp[h]
def Zdp{l:E1}{b j:Nat}{t:Int}(a:b<la l):BR (l.set b t) j=if b=j then t else BR l j:=by
 delta BR;by_cases h:b=j
 ·subst h;simp[a]
 ·simp[h]
def Sm{n:Nat}{M:Iz}{a b i j:Nat}{t:Int}(f:la M=n)(e:∀i,i<n->(FK M i).length=n)(c:a<n)(d:b<n):DD (Lc M a b t) i j=if a=i/\b=j then t else DD M i j:=by
 change BR (FK (M.set a ((FK M a).set b t)) i) j=_;rw[Xv ()];by_cases h:a=i
 ·subst h;rw[Be rfl,Zdp (by rw[e a c];apply d)];by_cases q:b=j
  ·rw[Be q,Be ⟨rfl,q⟩]
  ·rw[Fb q,Fb (λz=>q z.2)];rfl
 ·rw[Fb h,Fb (λz=>h z.1)];rfl
def Vv{n:Nat}{M:Iz}{a b:Nat}{t:Int}(e:la M=n)(c:∀i,i<n->(FK M i).length=n)(d:a<n):(Lc M a b t).length=n/\∀i,i<n->(FK (Lc M a b t) i).length=n:=by
 show⟨by delta Lc;rw[cq];apply e,λi f=>?_⟩;change(FK (M.set a ((FK M a).set b t)) i).length=n;rw[Xv ()];split
 ·rw[cq];apply c a d
 ·apply c i f
def ff.step{n:Nat}{M:Iz}{e:Xs}(ok:ff n M)(h:e.1<e.2.1/\e.2.1<n/\1<=e.2.2/\e.2.2<=9):ff n (Ar M e):=by
 let⟨a,b,t⟩:=e;let⟨l,g,r,q⟩:=h;simp only at l g r q;let m:a<n:=()
 let⟨l1,o⟩:=Vv ok.len ok.row m;let⟨l2,p⟩:=Vv l1 o g;let E:∀i j,DD (Lc (Lc M a b t) b a t) i j=if b=i/\a=j then t else if a=i/\b=j then t else DD M i j:=λi j=>by rw[Sm l1 o g m,Sm ok.len ok.row m g]
 show⟨l2,p,λi j c d=>?_,λi j c d=>?_,λi j c d=>?_,λi c=>?_⟩
 ·change 0<=DD (Lc (Lc M a b t) b a t) i j;rw[E];split
  ·lia
  ·split
   ·lia
   ·apply ok.lo i j c d
 ·change DD (Lc (Lc M a b t) b a t) i j<=9;rw[E];split
  ·lia
  ·split
   ·lia
   ·apply ok.E5 i j c d
 ·change DD (Lc (Lc M a b t) b a t) i j=DD (Lc (Lc M a b t) b a t) j i;rw[E,E];let s:=ok.sym i j c d;by_cases f:b=i/\a=j
  ·rw[Be f];let⟨rfl,rfl⟩:=f;rw[Fb (),Be ⟨rfl,rfl⟩]
  ·rw[Fb f];by_cases k:a=i/\b=j
   ·rw[Be k];let⟨rfl,rfl⟩:=k;rw[Be ⟨rfl,rfl⟩]
   ·rw[Fb k,Fb (λz=>k ⟨z.2,z.1⟩),Fb (λz=>f ⟨z.2,z.1⟩),s]
 ·change DD (Lc (Lc M a b t) b a t) i i=0;rw[E,Fb (),Fb ()];apply ok.xC i c
def ff.zero(n:Nat):ff n (ak n (ak n 0)):=by
 let r:∀i,i<n->FK (ak n (ak n (0:Int))) i=ak n 0:=λi a=>by delta FK;rw[aP,c0,Be a];rfl
 let z:∀i j,i<n->j<n->DD (ak n (ak n (0:Int))) i j=0:=λi j a b=>by change BR (FK _ i) j=0;rw[r i a];delta BR;rw[aP,c0,Be b];rfl
 apply⟨⋯,λi a=>by rw[r i a];simp,λi j a b=>by rw[z i j a b];lia,λi j a b=>by rw[z i j a b];lia,λi j a b=>by rw[z i j a b,z j i b a],λi a=>z i i a a⟩
def Pk{n:Nat}{ts:List Xs}(ok:b0 n ts):ff n (HH n ts):=by
 let b:∀(l:List Xs)(M:Iz),(∀e∈l,e.1<e.2.1/\e.2.1<n/\1<=e.2.2/\e.2.2<=9)->ff n M->ff n (l.foldl Ar M):=by
  ext l
  induction l with
  | nil=>ext M _ h;apply h
  | cons e r E2=>
   ext M h d;rw[gQ];apply E2 _ (λc a=>h c (aR _ a)) (d.step (h e ah))
 apply b ts _ ok.ok (ff.zero n)
def ff.web{n:Nat}{M:Iz}(h:ff n M)(b:1<=n)(a:n<=7):Zu M:=by let e:=h.len;subst e;apply⟨b,a,h.row,h.lo,h.E5,h.sym,h.xC⟩
def Zdq(l:E1):((aQ (la l)).map (BR l)).sum=l.sum:=by rw[ui]
def SJ(f:β->α->β)(s:β){l:List α}{i:Nat}{x:α}(h:l[i]?=aA x):(l.take (i+1)).foldl f s=f ((l.take i).foldl f s) x:=by rw[kO,h];change sV f s (l.take i++[x])=_;rw[m6];rfl
structure eT(i:Nat)(l:E1):Prop where
 len:la l=i
 E3:l.Nodup
 lo:∀x∈l,0<=x
 E5:∀x∈l,x<i
def eT.nil:eT 0 []:=⟨rfl,cC,λ_ h=>by simp at h,λ_ h=>by simp at h⟩
def eT.ins(h:eT i l)(k:Nat):eT (i+1) (l.take k++(i:Int)::l.drop k):=by
 let hp:(l.take k++(i:Int)::l.drop k).Perm ((i:Int)::l):=by let:=rV (a:=(i:Int)) (l₁:=l.take k) (l₂:=l.drop k);rw[jF] at this;apply this
 show⟨by rw[hp.length_eq,bB,h.len],?_,λx b=>?_,λx b=>?_⟩
 ·rw[hp.nodup_iff,au];apply⟨λc=>by let:=h.E5 _ c;lia,h.E3⟩
 ·rcases aW.mp (hp.mem_iff.mp b) with e | e
  ·lia
  ·apply h.lo x e
 ·rcases aW.mp (hp.mem_iff.mp b) with e | e
  ·lia
  ·let:=h.E5 x e;lia
def eT.at(h:eT i l)(a:x<i):0<=BR l x/\BR l x<i:=by
 let e:BR l x=l[x]'(by rw[h.len];apply a):=by delta BR;rw[aP,aI (by rw[h.len];apply a)];rfl
 rw[e];apply⟨h.lo _ (cI _),h.E5 _ (cI _)⟩
def eT.ne(h:eT i l)(a:x<i)(b:y<i)(n:x≠y):BR l x≠BR l y:=by
 let c:BR l x=l[x]'(by rw[h.len];apply a):=by delta BR;rw[aP,aI (by rw[h.len];apply a)];rfl
 let d:BR l y=l[y]'(by rw[h.len];apply b):=by delta BR;rw[aP,aI (by rw[h.len];apply b)];rfl
 rw[c,d];ext e;apply n ((jV h.E3).mp e)
def lt_size(h:n<=10000):n<sizeLine:=g6 h ∅
end _l
namespace _v
open _l
variable {K:aH}
def NY(Dc:fH)(f:bH)(u:aG):Prop:=∀(hp:b7)(II:aM),hp.get? II=aA Dc->hp.Ns1 II (λn=>if n=f then aA u else aB)
def Jn(n:bH):bH:=if n = "NoWeb" then "place" else if n = "Apart" then "houses" else if n = "TooMany" then "most" else "total"
structure q_ where
 qual:bH
 params:rR
 body:bS
 scope:jd
 free:bH
inductive PV where
 | IB | Iv (b:Bool) | int (i:Int) | str (x:bH) | ty (n:Dg) | exc (n:bH) | Bs (n:bH) (l:PV) | nv (L:q_) (l:PV)
 | tup (l:List PV) | lst (l:List PV) | cst (l:List PV)
 | IK (ks:List MJ) (vs:List PV) | E6 (ks:List (List MJ)) (vs:List PV)
instance:Inhabited PV:=⟨.IB⟩
mutual
/-- nothing in it can be yH -/
def HA:PV->Bool
 | .tup l=>BW l
 | .cst l=>BW l
 | .lst _=>aC
 | .IK _ _=>aC
 | .E6 _ _=>aC
 | .IB=>aD
 | .Iv _=>aD
 | .int _=>aD
 | .str _=>aD
 | .ty _=>aD
 | .exc _=>aD
 | .Bs _ _=>aD
 | .nv _ l=>HA l
def BW:List PV->Bool
 | []=>aD
 | x::r=>HA x&&BW r
end
def X8:∀l:List PV,BW l=l.all HA
 | []=>rfl
 | x::r=>by rw[kq,<-X8 r];rfl
def KL(K:aH)(a:aM)(xs:List V):Prop:=
 ∃(o:fH) (IS:M_) (n:Nat),K.lookup a=aA o/\o.cls = .type "list"/\o.dict=aB/\o.data = .seq IS n/\IS.size<=sizeLine/\Bj xs IS.toList
def Ej(K:aH)(H:Hp)(p:aM)(xs:List V):Prop:=(∃o,H p=aA (.Km o (.lst xs)))\/KL K p xs
def Ej.sq(h:Ej K H p xs):BZ K H p xs:=by
 rcases h with h | h
 ·apply .inl (.inr h)
 ·apply .inr h
def Cr(H:Hp)(L:q_)(v:V)(u:aG):Prop:=∃f fo c IV e eo pm Bi,v = .ref f/\H f=aA (.Km fo (.own 0))/\fo.data = .func (jR "<lambda>" L.qual L.params L.body L.scope [(L.free,e)] pm (.ref c) Bi)/\H c=aA (.Km IV (.own 0))/\Hq IV L.qual/\H e=aA (.Km eo (.own 1))/\eo.data = .cell (aA u)
mutual
/-- v is Dl tree l in Dl heap H;Ir: Dl addresses of IS lists and dicts -/
def Is(K:aH)(H:Hp):PV->V->List aM->Prop
 | .IB,v,Ir=>v = .IB/\Ir=[]
 | .Iv b,v,Ir=>v = .Iv b/\Ir=[]
 | .int i,v,Ir=>v = .int i/\Ir=[]
 | .str x,v,Ir=>v = .str x/\Ir=[]
 | .ty n,v,Ir=>v = .ty n/\Ir=[]
 | .exc n,v,Ir=>(∃e o x C,v = .ref e/\H e=aA (.Km o (.own x))/\o.cls = .ref C/\cB K bP n=aA (aA (.ref C))/\o.dict=aB/\∃vs,o.data = .fields vs)/\Ir=[]
 | .Bs n l,v,Ir=>(∃e o x C II Dc u z,v = .ref e/\H e=aA (.Km o (.own x))/\o.cls = .ref C/\cB K bP n=aA (aA (.ref C))/\o.dict=aA II/\(∃vs,o.data = .fields vs)/\H II=aA (.Km Dc (.own II))/\NY Dc (Jn n) u/\RelV z u/\Is K H l z [])/\Ir=[]
 | .nv L l,v,Ir=>∃u x,Cr H L v u/\RelV x u/\Is K H l x Ir
 | .tup l,v,Ir=>∃p xs,v = .ref p/\H p=aA (.tup xs)/\KA K H l xs Ir
 | .lst l,v,Ir=>∃p xs fq,v = .ref p/\H p=aA (.lst xs)/\KA K H l xs fq/\Ir=p::fq
 | .cst l,v,Ir=>∃p xs,v = .ref p/\Ej K H p xs/\KA K H l xs Ir
 | .IK ks l,v,Ir=>∃p Bg fq,v = .ref p/\B3 H p (.IK Bg)/\Bg.map (·.1)=ks/\KA K H l (Bg.map (·.2)) fq/\Ir=p::fq
 | .E6 ks l,v,Ir=>∃p Bg fq,v = .ref p/\B3 H p (.E6 Bg)/\Bg.map (·.1)=ks/\KA K H l (Bg.map (·.2)) fq/\Ir=p::fq
def KA(K:aH)(H:Hp):List PV->List V->List aM->Prop
 | [],xs,Ir=>xs=[]/\Ir=[]
 | l::ls,xs,Ir=>∃x r f1 f2,xs=x::r/\Is K H l x f1/\KA K H ls r f2/\Ir=f1++f2
end
def Ld(H H':Hp)(p:aM):Prop:=(∀xs,H p=aA (.lst xs)->H' p=aA (.lst xs))/\(∀Bg,B3 H p (.IK Bg)->B3 H' p (.IK Bg))/\∀Bg,B3 H p (.E6 Bg)->B3 H' p (.E6 Bg)
def Ld.of(h:∀o,H p=aA o->H' p=aA o):Ld H H' p:=by
 let r:∀u,B3 H p u->B3 H' p u:=λu q=>by
  rcases q with q | ⟨o,q⟩
  ·apply .inl (h _ q)
  ·apply .inr ⟨o,h _ q⟩
 apply⟨λ_=>h _,λ_=>r _,λ_=>r _⟩
structure ua(H H':Hp):Prop where
 tup:Jl H H'
 Km:∀b o xs,H b=aA (.Km o (.lst xs))->H' b=aA (.Km o (.lst xs))
 exc:∀b o x,H b=aA (.Km o (.own x))->H' b=aA (.Km o (.own x))
def MX.r_(s:MX H H'):ua H H':=⟨s.tk,λb o xs h=>s b _ h,λb o x h=>s b _ h⟩
theorem Ej.IT(t:ua H H')(h:Ej K H p xs):Ej K H' p xs:=by
 rcases h with⟨o,h⟩ | h
 ·apply .inl ⟨o,t.Km p o xs h⟩
 ·apply .inr h
theorem Cr.IT(t:ua H H')(h:Cr H L v u):Cr H' L v u:=by let⟨f,b,c,d,e,a,n,Bi,o,l,j,g,i,k,m⟩:=h;apply⟨f,b,c,d,e,a,n,Bi,o,t.exc f b 0 l,j,t.exc c d 0 g,i,t.exc e a 1 k,m⟩
mutual
theorem Is.IT(f:ua H H'):∀(l:PV)(v:V)(Ir:Gc),(∀p∈Ir,Ld H H' p)->Is K H l v Ir->Is K H' l v Ir
 | .IB,_,_,_,h=>by simpa only[Is] using h
 | .Iv _,_,_,_,h=>by simpa only[Is] using h
 | .int _,_,_,_,h=>by simpa only[Is] using h
 | .str _,_,_,_,h=>by simpa only[Is] using h
 | .ty _,_,_,_,h=>by simpa only[Is] using h
 | .exc _,_,_,_,h=>by dsimp[Is] at h ⊢;let⟨⟨e,o,x,C,a,b,c⟩,d⟩:=h;apply⟨⟨e,o,x,C,a,f.exc e o x b,c⟩,d⟩
 | .Bs _ l,_,_,_,h=>by dsimp[Is] at h ⊢;let⟨⟨e,o,x,C,n,s,u,z,a,b,c1,c2,c3,c4,c5,y,A,w⟩,d⟩:=h;apply⟨⟨e,o,x,C,n,s,u,z,a,f.exc e o x b,c1,c2,c3,c4,f.exc n s n c5,y,A,Is.IT f l z [] (λp hp=>by simp at hp) w⟩,d⟩
 | .nv L l,v,Ir,hm,h=>by dsimp[Is] at h ⊢;let⟨u,x,t,i,g⟩:=h;apply⟨u,x,t.IT f,i,Is.IT f l x Ir hm g⟩
 | .tup l,v,Ir,hm,h=>by dsimp[Is] at h ⊢;let⟨p,xs,e,hp,g⟩:=h;apply⟨p,xs,e,f.tup p xs hp,KA.IT f l xs Ir hm g⟩
 | .lst l,v,Ir,hm,h=>by dsimp[Is] at h ⊢;let⟨p,xs,j,e,i,g,rfl⟩:=h;apply⟨p,xs,j,e,(hm p ah).1 _ i,KA.IT f l xs j (λq k=>hm q (aR _ k)) g,rfl⟩
 | .cst l,v,Ir,hm,h=>by dsimp[Is] at h ⊢;let⟨p,xs,e,i,g⟩:=h;apply⟨p,xs,e,i.IT f,KA.IT f l xs Ir hm g⟩
 | .IK ks l,v,Ir,hm,h=>by dsimp[Is] at h ⊢;let⟨p,r,j,e,i,m,g,rfl⟩:=h;apply⟨p,r,j,e,(hm p ah).2.1 _ i,m,KA.IT f l _ j (λq k=>hm q (aR _ k)) g,rfl⟩
 | .E6 ks l,v,Ir,hm,h=>by dsimp[Is] at h ⊢;let⟨p,r,j,e,i,m,g,rfl⟩:=h;apply⟨p,r,j,e,(hm p ah).2.2 _ i,m,KA.IT f l _ j (λq k=>hm q (aR _ k)) g,rfl⟩
theorem KA.IT(c:ua H H'):∀(l:List PV)(xs:List V)(Ir:Gc),(∀p∈Ir,Ld H H' p)->KA K H l xs Ir->KA K H' l xs Ir
 | [],_,_,_,h=>by simpa only[KA] using h
 | l::ls,xs,Ir,hm,h=>by dsimp[KA] at h ⊢;let⟨x,r,f1,b,e,f,d,rfl⟩:=h;apply⟨x,r,f1,b,e,Is.IT c l x f1 (λq a=>hm q (aj _ a)) f,KA.IT c ls r b (λq a=>hm q (bA _ a)) d,rfl⟩
end
def Is.mono(s:MX H H')(h:Is K H l v Ir):Is K H' l v Ir:=Is.IT (MX.r_ s) l v Ir (λp _=>Ld.of λo q=>s p o q) h
def KA.mono(s:MX H H')(h:KA K H l v Ir):KA K H' l v Ir:=KA.IT (MX.r_ s) l v Ir (λp _=>Ld.of λo q=>s p o q) h
mutual
def Is.pure:∀(l:PV)(v:V)(Ir:Gc),HA l=aD->Is K H l v Ir->Ir=[]
 | .IB,_,_,_,h=>by dsimp[Is] at h;apply h.2
 | .Iv _,_,_,_,h=>by dsimp[Is] at h;apply h.2
 | .int _,_,_,_,h=>by dsimp[Is] at h;apply h.2
 | .str _,_,_,_,h=>by dsimp[Is] at h;apply h.2
 | .ty _,_,_,_,h=>by dsimp[Is] at h;apply h.2
 | .exc _,_,_,_,h=>by dsimp[Is] at h;apply h.2
 | .Bs _ _,_,_,_,h=>by dsimp[Is] at h;apply h.2
 | .nv L l,v,Ir,hp,h=>by dsimp[Is] at h;let⟨u,x,b,c,a⟩:=h;apply Is.pure l x Ir (by simpa only[HA] using hp) a
 | .tup l,v,Ir,hp,h=>by dsimp[Is] at h;let⟨p,xs,e,_,a⟩:=h;apply KA.pure l xs Ir (by simpa only[HA] using hp) a
 | .lst l,v,Ir,hp,h=>by simp[HA] at hp
 | .cst l,v,Ir,hp,h=>by dsimp[Is] at h;let⟨p,xs,e,_,a⟩:=h;apply KA.pure l xs Ir (by simpa only[HA] using hp) a
 | .IK ks l,v,Ir,hp,h=>by simp[HA] at hp
 | .E6 ks l,v,Ir,hp,h=>by simp[HA] at hp
def KA.pure:∀(l:List PV)(xs:List V)(Ir:Gc),BW l=aD->KA K H l xs Ir->Ir=[]
 | [],_,_,_,h=>by dsimp[KA] at h;apply h.2
 | l::ls,xs,Ir,hp,h=>by dsimp[KA] at h;dsimp[BW,aX] at hp;let⟨x,r,f1,a,e,c,b,rfl⟩:=h;rw[Is.pure l x f1 hp.1 c,KA.pure ls r a hp.2 b];rfl
end
section
variable {H H':Hp}
def KA.len:∀{l:List PV}{xs:List V}{Ir:Gc},KA K H l xs Ir->la xs=la l
 | [],xs,Ir,h=>by dsimp[KA] at h;rw[h.1];rfl
 | l::ls,xs,Ir,h=>by dsimp[KA] at h;let⟨x,r,f1,b,rfl,_,a,_⟩:=h;rw[bB,bB,a.len]
def KA.get:∀{l:List PV}{xs:List V}{Ir:Gc}{i:Nat}{a:PV},KA K H l xs Ir->l[i]?=aA a->∃x f1,xs[i]?=aA x/\Is K H a x f1/\∀p∈f1,p∈Ir
 | [],xs,Ir,i,a,h,e=>by simp at e
 | l::ls,xs,Ir,0,a,h,e=>by dsimp[KA] at h;let⟨x,r,f1,b,rfl,k,_,rfl⟩:=h;simp at e;subst e;apply⟨x,f1,rfl,k,λp hp=>aj _ hp⟩
 | l::ls,xs,Ir,i+1,a,h,e=>by dsimp[KA] at h;let⟨x,r,f1,b,rfl,_,f,rfl⟩:=h;let⟨y,g,c,j,d⟩:=f.get (i:=i) (a:=a) (~~~e);apply⟨y,g,by simpa using c,j,λp hp=>bA _ (d p hp)⟩
def KA.get'{xs:List V}{d:Gc}{i:Nat}{x:V}(h:KA K H l xs d)(e:xs[i]?=aA x):∃a f1,l[i]?=aA a/\Is K H a x f1/\∀p∈f1,p∈d:=by
 let c:i<l.length:=by rw[<-h.len];apply(aS.mp e).1
 let⟨y,f1,b,g,f⟩:=h.get (aI c);rw[e] at b;cases b;apply⟨_,f1,aI c,g,f⟩
def KA.nil:KA K H [] [] []:=by simp[KA]
def KA.cons(a:Is K H l x f1)(b:KA K H ls xs f2):KA K H (l::ls) (x::xs) (f1++f2):=by apply⟨x,xs,f1,f2,rfl,a,b,rfl⟩
def KA.inv(h:KA K H (l::ls) xs Ir):∃x r f1 f2,xs=x::r/\Is K H l x f1/\KA K H ls r f2/\Ir=f1++f2:=by simpa only[KA] using h
def KA.append:∀{l m:List PV}{xs ys:List V}{f1 f2:Gc},KA K H l xs f1->KA K H m ys f2->KA K H (l++m) (xs++ys) (f1++f2)
 | [],m,xs,ys,f1,f2,h,h'=>by dsimp[KA] at h;rw[h.1,h.2];apply h'
 | l::ls,m,xs,ys,f1,f2,h,h'=>by let⟨x,r,d,c,rfl,a,b,rfl⟩:=h.inv;rw[gn];apply KA.cons a (b.append h')
def KA.one(h:Is K H l x f):KA K H [l] [x] f:=by
 let:=KA.cons h (KA.nil)
 rwa [ck] at this
def KA.take:∀{l:List PV}{xs:List V}{Ir:Gc}(n:Nat),KA K H l xs Ir->∃f1,KA K H (l.take n) (xs.take n) f1/\∀p∈f1,p∈Ir
 | l,xs,Ir,0,h=>⟨[],by rw[sZ,sZ];apply KA.nil,λp hp=>by simp at hp⟩
 | [],xs,Ir,n+1,h=>by dsimp[KA] at h;rw[h.1];apply⟨[],by rw[tG,tG];apply KA.nil,λp hp=>by simp at hp⟩
 | l::ls,xs,Ir,n+1,h=>by
  let⟨x,r,f1,f,rfl,e,d,rfl⟩:=h.inv;let⟨c,a,b⟩:=d.take n;show⟨f1++c,KA.cons e a,λp hp=>?_⟩;rcases ag.mp hp with h | h
  ·apply aj _ h
  ·apply bA _ (b p h)
def KA.drop:∀{l:List PV}{xs:List V}{Ir:Gc}(n:Nat),KA K H l xs Ir->∃f1,KA K H (l.drop n) (xs.drop n) f1/\∀p∈f1,p∈Ir
 | l,xs,Ir,0,h=>⟨Ir,h,λp hp=>hp⟩
 | [],xs,Ir,n+1,h=>by dsimp[KA] at h;rw[h.1];apply⟨[],by rw[tH,tH];apply KA.nil,λp hp=>by simp at hp⟩
 | l::ls,xs,Ir,n+1,h=>by let⟨x,r,f1,e,rfl,f,d,rfl⟩:=h.inv;let⟨c,a,b⟩:=d.drop n;apply⟨c,a,λp hp=>bA _ (b p hp)⟩
def KA.vG:∀{l:List PV}{xs:List V}{a:PV}{x:V}(i:Nat),BW l=aD->HA a=aD->KA K H l xs []->Is K H a x []->KA K H (l.set i a) (xs.set i x) []
 | [],xs,a,x,i,_,_,h,_=>by dsimp[KA] at h;rw[h.1];dsimp[List.set_nil];apply KA.nil
 | l::ls,xs,a,x,0,hp,_,h,Ff=>by dsimp[BW,aX] at hp;let⟨y,r,f1,f,rfl,_,b,e⟩:=h.inv;let c:=KA.pure _ _ _ hp.2 b;subst c;apply KA.cons (f1:=[]) Ff b
 | l::ls,xs,a,x,i+1,hp,MO,h,Ff=>by dsimp[BW,aX] at hp;let⟨y,r,f1,f,rfl,d,b,e⟩:=h.inv;let g:=Is.pure _ _ _ hp.1 d;let c:=KA.pure _ _ _ hp.2 b;subst g c;apply KA.cons (f1:=[]) d (KA.vG i hp.2 MO b Ff)
def Is.int_inv(h:Is K H (.int i) v Ir):v = .int i/\Ir=[]:=by simpa only[Is] using h
def Is.int(i:Int):Is K H (.int i) (.int i) []:=by simp[Is]
theorem Is.Iv(i:Bool):Is K H (.Iv i) (.Iv i) []:=by simp[Is]
theorem Is.IB:Is K H .IB .IB []:=by simp[Is]
def Is.str(x:bH):Is K H (.str x) (.str x) []:=by simp[Is]
def Is.ty(n:Dg):Is K H (.ty n) (.ty n) []:=by simp[Is]
def Is.dO(h:Is K H (.Iv i) v Ir):v = .Iv i/\Ir=[]:=by simpa only[Is] using h
def Is.str_inv(h:Is K H (.str i) v Ir):v = .str i/\Ir=[]:=by simpa only[Is] using h
def Is.i0(h:Is K H .IB v Ir):v = .IB/\Ir=[]:=by simpa only[Is] using h
def Is.sD(h:Is K H (.ty n) v Ir):v = .ty n/\Ir=[]:=by simpa only[Is] using h
def Is.b_(h:Is K H (.tup l) v Ir):∃p xs,v = .ref p/\H p=aA (.tup xs)/\KA K H l xs Ir:=by simpa only[Is] using h
def Is.tup(h:H p=aA (.tup xs))(a:KA K H l xs Ir):Is K H (.tup l) (.ref p) Ir:=by dsimp[Is];apply⟨p,xs,rfl,h,a⟩
def Is.lst_inv(h:Is K H (.lst l) v Ir):∃p xs fq,v = .ref p/\H p=aA (.lst xs)/\KA K H l xs fq/\Ir=p::fq:=by simpa only[Is] using h
def Is.lst(h:H p=aA (.lst xs))(a:KA K H l xs Ir):Is K H (.lst l) (.ref p) (p::Ir):=by dsimp[Is];apply⟨p,xs,Ir,rfl,h,a,rfl⟩
def Is.fS(h:Is K H (.cst l) v Ir):∃p xs,v = .ref p/\Ej K H p xs/\KA K H l xs Ir:=by simpa only[Is] using h
def Is.cst(h:Ej K H p xs)(a:KA K H l xs Ir):Is K H (.cst l) (.ref p) Ir:=by dsimp[Is];apply⟨p,xs,rfl,h,a⟩
def Is.nu(h:Is K H (.E6 ks l) v Ir):∃p Bg fq,v = .ref p/\B3 H p (.E6 Bg)/\Bg.map (·.1)=ks/\KA K H l (Bg.map (·.2)) fq/\Ir=p::fq:=by simpa only[Is] using h
theorem Is.E6(h:H p=aA (.E6 Bg))(a:Bg.map (·.1)=ks)(b:KA K H l (Bg.map (·.2)) Ir):Is K H (.E6 ks l) (.ref p) (p::Ir):=by dsimp[Is];apply⟨p,Bg,Ir,rfl,.inl h,a,b,rfl⟩
def Is.p_(h:Is K H (.IK ks l) v Ir):∃p Bg fq,v = .ref p/\B3 H p (.IK Bg)/\Bg.map (·.1)=ks/\KA K H l (Bg.map (·.2)) fq/\Ir=p::fq:=by simpa only[Is] using h
theorem Is.IK(h:H p=aA (.IK Bg))(a:Bg.map (·.1)=ks)(b:KA K H l (Bg.map (·.2)) Ir):Is K H (.IK ks l) (.ref p) (p::Ir):=by dsimp[Is];apply⟨p,Bg,Ir,rfl,.inl h,a,b,rfl⟩
end
abbrev iL(l:E1):List PV:=l.map PV.int
def Xu(l:E1):BW (iL l)=aD:=by rw[X8,bK];ext x a;let⟨i,_,rfl⟩:=a9.mp a;rfl
def KA.iL:∀{l:E1}{xs:List V}{Ir:Gc},KA K H (_v.iL l) xs Ir->xs=l.map V.int/\Ir=[]
 | [],xs,Ir,h=>by simpa only[_v.iL,kJ,KA] using h
 | i::l,xs,Ir,h=>by let⟨x,r,f1,c,rfl,b,a,rfl⟩:=KA.inv (show KA K H (PV.int i::_v.iL l) xs Ir from h);let⟨rfl,rfl⟩:=b.int_inv;let⟨rfl,rfl⟩:=a.iL;apply⟨rfl,rfl⟩
def KA.ofInts:∀(l:E1),KA K H (_v.iL l) (l.map V.int) []
 | []=>KA.nil
 | i::l=>KA.cons (f1:=[]) (Is.int i) (KA.ofInts l)
variable {K:aH}
abbrev NO:=_l.St
abbrev ZG:=List (Option PV)
abbrev XE:=ZG->Option PV
structure c7(K:aH)(Rm:H_)(H:Hp)(s:ZG)(U:NO):Prop where
 is:∀(i:Nat) l,s[i]?=aA (aA l)->∃v Ir,U[i]?=aA (aA v)/\Is K H l v Ir/\∀p∈Ir,¬Rm p
def c7.mono(h:c7 K Rm H s U)(e:MX H H'):c7 K Rm H' s U:=⟨λi l q=>by
 let⟨v,d,a,b,c⟩:=h.is i l q;apply⟨v,d,a,b.mono e,c⟩⟩
def c7.free(h:c7 K Rm H s U):c7 K (λ_=>False) H s U:=⟨λi l q=>by
 let⟨v,d,a,b,c⟩:=h.is i l q;apply⟨v,d,a,b,λ_ _ z=>z⟩⟩
def MX.mut(e:MX H H')(h:DK (H p)):DK (H' p):=by
 cases q:H p with
 | none=>rw[q] at h;apply h.elim
 | some o=>rw[e p o q,<-q];apply h
def YZ{H:Hp}{p:aM}(h:DK (H p)):H p≠aB:=λz=>by rw[z] at h;apply h
def NF(K:aH)(f:XE):TE:=λU H Q=>∃(Rm:H_) (s:ZG) (l:PV),(∀p,Rm p->DK (H p))/\c7 K Rm H s U/\f s=aA l/\∀v H' Ir,MX H H'->Is K H' l v Ir->(∀p∈Ir,¬Rm p)->Q v H'
def AG(K:aH)(f:XE):TE:=λU H Q=>∃(s:ZG) (l:PV),c7 K (λ_=>False) H s U/\f s=aA l/\∀v H' Ir,MX H H'->Is K H' l v Ir->Ir.Nodup->(∀p∈Ir,H p=aB/\DK (H' p))->Q v H'
def Kz(X:Cx)(e:bS)(f:XE):Prop:=DC X e (NF X.K f)
def M3(X:Cx)(e:bS)(f:XE):Prop:=DC X e (AG X.K f)
section
variable {X:Cx}{e:bS}{f g:XE}{t t':TE}
def DC.imp(h:DC X e t)(i:∀U H Q,t' U H Q->t U H Q):DC X e t':=λa s U H Q I q=>h a s U H Q I (i U H Q q)
def M3.ve(h:M3 X e f):Kz X e f:=DC.imp h λU H Q ⟨g,s,l,b,env,e,k⟩=>
 ⟨s,l,env.free,e,λv a d c i _ n=>k v a d c i λp hp z=>YZ (b p z) (n p hp).1⟩
def FG(f:XE):XE:=λs=>(f s).bind λl=>if HA l=aD then aA l else aB
def Zdr(h:FG f s=aA l):f s=aA l/\HA l=aD:=by
 delta FG at h
 cases q:f s with
 | none=>rw[q] at h;cases h
 | some a=>
  rw[q] at h;dsimp[aY] at h;split at h
  ·cases h;apply⟨rfl,by assumption⟩
  ·cases h
def Kz.pure(h:Kz X e f):M3 X e (FG f):=DC.imp h<|by
 ext U H Q ⟨s,l,env,e,k⟩;let⟨d,b⟩:=Zdr e;show⟨λ_=>False,s,l,λ_ z=>z.elim,env,d,λv a g c i n=>?_⟩;let:=Is.pure l v g b i;subst this;apply k v a [] c i cC λp hp=>by simp at hp
end
def Dz(i:Nat):XE:=λs=>(s[i]?).join
def DB(l:PV):XE:=λ_=>aA l
def Rw(h:Dz i s=aA l):s[i]?=aA (aA l):=by
 delta Dz at h
 cases q:s[i]? with
 | none=>rw[q] at h;cases h
 | some o=>rw[q] at h;cases o with
  | none=>cases h
  | some a=>cases h;rfl
section
variable {X:Cx}{pos:gy}
def c_(h:DC X e (KU i)):Kz X e (Dz i):=DC.imp h<|by ext U H Q ⟨f,s,l,g,env,e,k⟩;let⟨v,d,a,b,c⟩:=env.is i l (Rw e);apply⟨v,a,k v H d (MX.refl H) b c⟩
def yP(h:DC X e (LK v))(a:∀H,Is X.K H l v []):Kz X e (DB l):=DC.imp h<|by
 ext U H Q ⟨b,s,d,c,env,e,k⟩;cases e;apply k v H [] (MX.refl H) (a H) λp hp=>by simp at hp
def Zi:Kz X (.Constant (.int i) j pos) (DB (.int i)):=yP Xk λ_=>Is.int i
def Sn:Kz X (.Constant (.bool i) j pos) (DB (.Iv i)):=yP Zks λ_=>Is.Iv i
def PS:Kz X (.Constant .none j pos) (DB .IB):=yP Ti λ_=>Is.IB
end
def K2(K:aH)(r:Dh)(g:PV->PV->Option PV):Prop:=∀(H:Hp)(x y:V)(a b l:PV)(fa fb:Gc),Is K H a x fa->Is K H b y fb->g a b=aA l->∀Q:IG,
 (∀v H' Ir,MX H H'->Is K H' l v Ir->(∀p∈Ir,p∈fa\/p∈fb\/H p=aB)->Q v H')->r x y H Q
def DA(g:PV->PV->Option PV)(a b:XE):XE:=λs=>(a s).bind λx=>(b s).bind λy=>g x y
def Vc(h:DA g a b s=aA l):∃x y,a s=aA x/\b s=aA y/\g x y=aA l:=by
 delta DA at h
 cases q:a s with
 | none=>rw[q] at h;cases h
 | some x=>cases Bx:b s with
  | none=>rw[q,Bx] at h;cases h
  | some y=>rw[q,Bx] at h;apply⟨x,y,rfl,rfl,h⟩
section
variable {X:Cx}{a b:bS}{fa fb:XE}{pos:gy}
def yV{r:Dh}{g:PV->PV->Option PV}(B:K2 K r g):∀U H Q,NF K (DA g fa fb) U H Q->LI r (NF K fa) (NF K fb) U H Q:=by
 ext U H Q ⟨b,s,l,a,env,e,k⟩;let⟨d,c,n,o,e⟩:=Vc e;show⟨b,s,d,a,env,n,λx E f1 s1 q f=>⟨b,s,c,λp hp=>MX.mut s1 (a p hp),env.mono s1,o,λy w j s2 i C=>?_⟩⟩;show B w x y d c l f1 j (q.mono s2) i e Q λv u D A t m=>k v u D (s1.trans (s2.trans A)) t λp hp z=>?_;rcases m p hp with h | h | h
 ·apply f p h z
 ·apply C p h z
 ·apply YZ (MX.mut (s1.trans s2) (a p z)) h
def Uw(c:FL X (iI op) r)(e:K2 X.K r g)(d:Kz X a fa)(f:Kz X b fb):Kz X (.BinOp a op b pos) (DA g fa fb):=
 DC.imp (Tr c d f) (yV e)
def Pl(h:FL X (dz op) r)(f:K2 X.K r g)(d:Kz X a fa)(e:Kz X b fb)(c:dj op b=aC):Kz X (.Compare a [op] [b] pos) (DA g fa fb):=
 DC.imp (Zc2 h d e c) (yV f)
def Zlt(f:AB X r)(e:K2 X.K r g)(c:Kz X a fa)(d:Kz X b fb)(hs:CK b):Kz X (.Subscript a b pos) (DA g fa fb):=
 DC.imp (Sd f c d hs) (yV e)
end
def AZ(g:L0):PV->PV->Option PV
 | .int i,.int j=>aA (.int (g i j))
 | _,_=>aB
def Er(g:Int->Int->Bool):PV->PV->Option PV
 | .int i,.int j=>aA (.Iv (g i j))
 | _,_=>aB
def Cd(C:J_)[∀i j,Decidable (C i j)](g:L0):PV->PV->Option PV
 | .int i,.int j=>if C i j then aA (.int (g i j)) else aB
 | _,_=>aB
def Zdt(h:AZ g a b=aA l):∃i j,a = .int i/\b = .int j/\l = .int (g i j):=by
 delta AZ at h;split at h
 ·cases h;apply⟨_,_,rfl,rfl,rfl⟩
 ·cases h
def Zdu(h:Er g a b=aA l):∃i j,a = .int i/\b = .int j/\l = .Iv (g i j):=by
 delta Er at h;split at h
 ·cases h;apply⟨_,_,rfl,rfl,rfl⟩
 ·cases h
def xg[∀i j,Decidable (C i j)](h:Cd C g a b=aA l):∃i j,a = .int i/\b = .int j/\C i j/\l = .int (g i j):=by
 delta Cd at h;split at h
 ·split at h
  ·cases h;apply⟨_,_,rfl,rfl,by assumption,rfl⟩
  ·cases h
 ·cases h
def Zlu(g:L0):K2 K (AE λi j=>.int (g i j)) (AZ g):=λH x y a b l f fb c d e Q k=>by let⟨i,j,rfl,rfl,rfl⟩:=Zdt e;apply⟨i,j,c.int_inv.1,d.int_inv.1,k _ H [] (MX.refl H) (Is.int _) λp hp=>by simp at hp⟩
def Q6(g:Int->Int->Bool):K2 K (AE λi j=>.Iv (g i j)) (Er g):=λH x y a b l f fb c d e Q k=>by let⟨i,j,rfl,rfl,rfl⟩:=Zdu e;apply⟨i,j,c.int_inv.1,d.int_inv.1,k _ H [] (MX.refl H) (Is.Iv _) λp hp=>by simp at hp⟩
def Ur(C:J_)[∀i j,Decidable (C i j)](g:L0):K2 K (Eo C λi j=>.int (g i j)) (Cd C g):=λH x y a b l h fb d f e Q k=>by let⟨i,j,rfl,rfl,c,rfl⟩:=xg e;apply⟨i,j,d.int_inv.1,f.int_inv.1,c,k _ H [] (MX.refl H) (Is.int _) λp hp=>by simp at hp⟩
instance (i j:Int):Decidable (LD i j):=by delta LD;infer_instance
instance (i j:Int):Decidable (M4 i j):=by delta M4;infer_instance
instance (i j:Int):Decidable (CZ i j):=by delta CZ;infer_instance
instance (i j:Int):Decidable (EO i j):=by delta EO;infer_instance
abbrev Xa:=AZ (· + ·)
abbrev Tq:=AZ (· - ·)
abbrev yO:=Cd LD (· * ·)
abbrev We:=Cd M4 (· / ·)
abbrev XI:=Cd (λ_ j=>0<j) (· % ·)
abbrev Ah:=Er (λi j=>decide (i<j))
abbrev oLe:=Er (λi j=>decide (i<=j))
abbrev KY:=Er (λi j=>decide (j<i))
section
variable {X:Cx}{a b:bS}{fa fb:XE}{pos:gy}
def Zil(c:Kz X a fa)(d:Kz X b fb):Kz X (.BinOp a .Add b pos) (DA Xa fa fb):=Uw Zhy (Zlu _) c d
def Wf(c:Kz X a fa)(d:Kz X b fb):Kz X (.BinOp a .Sub b pos) (DA Tq fa fb):=Uw Zhz (Zlu _) c d
def Zim(c:Kz X a fa)(d:Kz X b fb):Kz X (.BinOp a .Mult b pos) (DA yO fa fb):=Uw Zh0 (Ur _ _) c d
def Xb(c:Kz X a fa)(d:Kz X b fb):Kz X (.BinOp a .FloorDiv b pos) (DA We fa fb):=Uw Zc1 (Ur _ _) c d
def Zin(c:Kz X a fa)(d:Kz X b fb):Kz X (.BinOp a .Mod b pos) (DA XI fa fb):=Uw Zh1 (Ur _ _) c d
def Zlv(c:Kz X a fa)(d:Kz X b fb):Kz X (.Compare a [.Lt] [b] pos) (DA Ah fa fb):=Pl P' (Q6 _) c d (Uu _)
def Zgl(c:Kz X a fa)(d:Kz X b fb):Kz X (.Compare a [.Gt] [b] pos) (DA KY fa fb):=Pl Zgg (Q6 _) c d (Uu _)
end
def Hu:PV->PV->Option PV
 | .lst l,.int i=>HG l i
 | .cst l,.int i=>HG l i
 | .tup l,.int i=>HG l i
 | .str z,.int i=>if z.length<=sizeLine then(HG z.cps.toList i).map λc=>.str ⟨#[c]⟩ else aB
 | _,_=>aB
def ro(h:KA K H l xs Ir)(e:HG l i=aA a):∃x f1,HG xs i=aA x/\Is K H a x f1/\∀p∈f1,p∈Ir:=by
 delta HG at e ⊢;rw[h.len]
 cases q:Kw l.length i with
 | none=>rw[q] at e;cases e
 | some j=>rw[q] at e;apply h.get e
def Zlw:K2 K (π K) Hu:=λH x y a b l o fb j m e Q k=>by
 delta Hu at e;split at e
 ·let⟨p,xs,n,rfl,hp,i,rfl⟩:=j.lst_inv;let⟨z,f1,h,g,d⟩:=ro i e;apply .inl ⟨p,xs,_,z,rfl,m.int_inv.1,BZ.of hp,h,k z H f1 (MX.refl H) g λq f=>.inl (aR _ (d q f))⟩
 ·let⟨p,xs,rfl,hp,i⟩:=j.fS;let⟨z,f1,h,g,d⟩:=ro i e;apply .inl ⟨p,xs,_,z,rfl,m.int_inv.1,hp.sq,h,k z H f1 (MX.refl H) g λq f=>.inl (d q f)⟩
 ·let⟨p,xs,rfl,hp,i⟩:=j.b_;let⟨z,f1,h,g,d⟩:=ro i e;apply .inr (.inl ⟨p,xs,_,z,rfl,m.int_inv.1,DJ.of hp,h,k z H f1 (MX.refl H) g λq f=>.inl (d q f)⟩)
 ·split at e
  ·cases q:HG _ _ with
   | none=>rw[q] at e;cases e
   | some c=>
    rw[q] at e;cases e;apply .inr (.inr ⟨_,_,c,j.str_inv.1,m.int_inv.1,by assumption,q,k _ H [] (MX.refl H) (Is.str _) λp hp=>by simp at hp⟩)
  ·cases e
 ·cases e
section
variable {X:Cx}{a b:bS}{fa fb:XE}{pos:gy}
def Zdw(c:Kz X a fa)(d:Kz X b fb)(hs:CK b:=by apply λ_ _=>rfl):Kz X (.Subscript a b pos) (DA Hu fa fb):=Zlt Zh7 Zlw c d hs
end
abbrev XT:=ZG->Option Bool
def Hn(K:aH)(f:XT):TT:=λU H Q=>∃(Rm:H_) (s:ZG) (c:Bool),(∀p,Rm p->DK (H p))/\c7 K Rm H s U/\f s=aA c/\∀H',MX H H'->Q c H'
def FY(X:Cx)(e:bS)(f:XT):Prop:=NJ X e (Hn X.K f)
def KH(X:Cx)(e:bS)(f:XT):Prop:=PW X e (Hn X.K f)
section
variable {X:Cx}{e:bS}{f:XT}
def NJ.imp(h:NJ X e t)(i:∀U H Q,t' U H Q->t U H Q):NJ X e t':=λa s U H Q I q=>h a s U H Q I (i U H Q q)
def PW.imp(h:PW X e t)(i:∀U H Q,t' U H Q->t U H Q):PW X e t':=λa b s U H Q I q=>h a b s U H Q I (i U H Q q)
def _a.vt(h:KH X e f):FY X e f:=PW.pt h
end
noncomputable def xB(f:XE):XT:=λs=>match f s with | some (.Iv c)=>aA c | _=>aB
def So(h:xB f s=aA c):f s=aA (.Iv c):=by
 delta xB at h;split at h
 ·cases h;assumption
 ·cases h
def CT:PV->Option Bool
 | .IB=>aA aC
 | .Iv b=>aA b
 | .int i=>aA (i != 0)
 | .str y=>if y.length<=sizeLine then aA ((y.length:Int) != 0) else aB
 | .lst l=>aA !l.isEmpty
 | .cst l=>aA !l.isEmpty
 | .tup l=>aA !l.isEmpty
 | _=>aB
def Jx(f:XE):XT:=λs=>(f s).bind CT
section
variable {X:Cx}{a b c:bS}{tw:Fj}{fa fb:XE}{ga gb:XT}{pos:gy}
def WY(h:Kz X a fa)(j:(∀whole,qF a X.env whole=(do let v <-whole;q9 a.pos;holding [v] (truthy v)))|>Pi):FY X a (xB fa):=
 NJ.imp (Zhj h j) λU H Q ⟨b,s,c,f,env,e,k⟩=>⟨b,s,.Iv c,f,env,So e,λv d l g i n=>⟨c,i.dO.1,k d g⟩⟩
def Ow:∀U H Q,Hn K (xB fa) U H Q->KG (NF K fa) U H Q:=λU H Q ⟨a,s,c,b,env,e,k⟩=>⟨a,s,.Iv c,b,env,So e,λv d g f i n=>⟨c,i.dO.1,k d f⟩⟩
def Pn(i:∀U H Q,t' U H Q->t U H Q):∀U H Q,KG t' U H Q->KG t U H Q:=λU H Q h=>i U H _ h
def Rx(i:FL X (dz op) r)(f:K2 X.K r g)(d:Kz X a fa)(e:Kz X b fb)(c:dj op b=aC):FY X (.Compare a [op] [b] pos) (xB (DA g fa fb)):=
 NJ.imp (Zc3 i d e c) λU H Q h=>Pn (yV f) U H Q (Ow U H Q h)
def xP(c:Kz X a fa)(d:Kz X b fb):FY X (.Compare a [.Lt] [b] pos) (xB (DA Ah fa fb)):=Rx P' (Q6 _) c d (Uu _)
def XH(c:Kz X a fa)(d:Kz X b fb):FY X (.Compare a [.Gt] [b] pos) (xB (DA KY fa fb)):=Rx Zgg (Q6 _) c d (Uu _)
def D3(a b:XT):XT:=λs=>(a s).bind λc=>if c=aD then b s else aA aC
def HK(a b:XT):XT:=λs=>(a s).bind λc=>if c=aD then aA aD else b s
def HR(a:XT):XT:=λs=>(a s).map not
def Zdx:∀U H Q,Hn K (D3 ga gb) U H Q->EN (Hn K ga) (Hn K gb) U H Q:=by
 ext U H Q ⟨a,s,c,b,env,e,k⟩;delta D3 at e
 cases q:ga s with
 | none=>rw[q] at e;cases e
 | some d=>
  rw[q] at e;show⟨a,s,d,b,env,q,λg s1=>?_⟩
  cases d with
  | true=>
   apply⟨a,s,c,λp hp=>MX.mut s1 (b p hp),env.mono s1,e,λf s2=>k f (s1.trans s2)⟩
  | false=>
   cases e;apply k g s1
def Zio:∀U H Q,Hn K (HK ga gb) U H Q->ν (Hn K ga) (Hn K gb) U H Q:=by
 ext U H Q ⟨a,s,c,b,env,e,k⟩;delta HK at e
 cases q:ga s with
 | none=>rw[q] at e;cases e
 | some d=>
  rw[q] at e;show⟨a,s,d,b,env,q,λg s1=>?_⟩
  cases d with
  | true=>
   cases e;apply k g s1
  | false=>
   apply⟨a,s,c,λp hp=>MX.mut s1 (b p hp),env.mono s1,e,λf s2=>k f (s1.trans s2)⟩
def WD(b:FY X a ga):KH X (.BoolOp .And [a] pos) ga:=Zcw b
def Po(b:FY X a ga):KH X (.BoolOp .Or [a] pos) ga:=Zhk b
def Ux(c:FY X a ga)(d:KH X (.BoolOp .And (b::tw) pos) gb):KH X (.BoolOp .And (a::b::tw) pos) (D3 ga gb):=PW.imp (Zhl c d) Zdx
def Pp(c:FY X a ga)(d:KH X (.BoolOp .Or (b::tw) pos) gb):KH X (.BoolOp .Or (a::b::tw) pos) (HK ga gb):=PW.imp (Zkv c d) Zio
def Vw(g:FY X a ga):FY X (.UnaryOp .Not a pos) (HR ga):=NJ.imp (Zhm g)<|by
 ext U H Q ⟨b,s,c,f,env,e,k⟩;delta HR at e
 cases q:ga s with
 | none=>rw[q] at e;cases e
 | some d=>rw[q] at e;cases e;apply⟨b,s,d,f,env,q,k⟩
def uH(r:Kz X a fa)(o:(∀whole,qF a X.env whole=(do let v <-whole;q9 a.pos;holding [v] (truthy v)))|>Pi):FY X a (Jx fa):=
 NJ.imp (ht r o) λU H Q ⟨f,s,c,h,env,e,k⟩=>by
 delta Jx at e
 cases q:fa s with
 | none=>rw[q] at e;cases e
 | some l=>
  rw[q] at e;dsimp[aY] at e;show⟨f,s,l,h,env,q,λv g u m i n=>⟨c,?_,k g m⟩⟩
  cases l with
  | IB=>rw[i.i0.1];cases e;rfl
  | Iv b=>rw[i.dO.1];cases e;rfl
  | int j=>rw[i.int_inv.1];cases e;rfl
  | str y=>
   rw[i.str_inv.1];dsimp[CT] at e;split at e
   ·cases e;apply⟨by assumption,rfl⟩
   ·cases e
  | lst l=>
   let⟨p,xs,t,rfl,hp,d,_⟩:=i.lst_inv;cases e;show .inl ⟨xs,BZ.of hp,?_⟩;let:=d.len;cases xs<;>cases l<;>simp at this ⊢
  | cst l=>
   let⟨p,xs,rfl,hp,d⟩:=i.fS;cases e;show .inl ⟨xs,hp.sq,?_⟩;let:=d.len;cases xs<;>cases l<;>simp at this ⊢
  | tup l=>
   let⟨p,xs,rfl,hp,d⟩:=i.b_;cases e;show .inr (.inl ⟨xs,DJ.of hp,?_⟩);let:=d.len;cases xs<;>cases l<;>simp at this ⊢
  | ty n=>cases e
  | exc C=>cases e
  | Bs C l=>cases e
  | nv C l=>cases e
  | IK ks l=>cases e
  | E6 ks l=>cases e
end
section
variable {X:Cx}{a b c:bS}{tw:Fj}{fa fb:XE}{gc:XT}{pos:gy}
def DW(a b:XE):XE:=λs=>(xB a s).bind λc=>if c=aD then b s else aA (.Iv aC)
def Ke(a b:XE):XE:=λs=>(xB a s).bind λc=>if c=aD then aA (.Iv aD) else b s
def EC(a:XE):XE:=λs=>(xB a s).map λc=>.Iv !c
def BM(c:XT)(a b:XE):XE:=λs=>(c s).bind λk=>if k=aD then a s else b s
def Ry(h:Kz X a fa):Kz X (.BoolOp op [a] pos) fa:=Zhn h
def Vx(n:Kz X a fa)(o:Kz X (.BoolOp .And (b::tw) pos) fb):Kz X (.BoolOp .And (a::b::tw) pos) (DW fa fb):=DC.imp (Zho n o)<|by
 ext U H Q ⟨f,s,l,g,env,e,k⟩;delta DW at e
 cases q:xB fa s with
 | none=>rw[q] at e;cases e
 | some d=>
  rw[q] at e;show⟨f,s,.Iv d,g,env,So q,λv t u s1 j _=>⟨d,j.dO.1,?_⟩⟩
  cases d with
  | true=>
   apply⟨f,s,l,λp hp=>MX.mut s1 (g p hp),env.mono s1,e,λh m c s2 i r=>k h m c (s1.trans s2) i r⟩
  | false=>
   cases e;apply k _ t [] s1 (Is.Iv aC) λp hp=>by simp at hp
def Ziq(g:Kz X a fa):Kz X (.UnaryOp .Not a pos) (EC fa):=DC.imp (Zhp g)<|by
 ext U H Q ⟨b,s,l,c,env,e,k⟩;delta EC at e
 cases q:xB fa s with
 | none=>rw[q] at e;cases e
 | some d=>
  rw[q] at e;cases e;apply⟨b,s,.Iv d,c,env,So q,λv h i s1 f _=>⟨d,f.dO.1,k _ h [] s1 (Is.Iv _) λp hp=>by simp at hp⟩⟩
def gg(o:FY X c gc)(r:Kz X a fa)(t:Kz X b fb):Kz X (.IfExp c a b pos) (BM gc fa fb):=DC.imp (x1 o r t)<|by
 ext U H Q ⟨g,s,l,j,env,e,k⟩;delta BM at e
 cases q:gc s with
 | none=>rw[q] at e;cases e
 | some d=>
  rw[q] at e;show⟨g,s,d,j,env,q,λu s1=>?_⟩
  cases d with
  | true=>
   apply⟨g,s,l,λp hp=>MX.mut s1 (j p hp),env.mono s1,e,λh m f s2 i n=>k h m f (s1.trans s2) i n⟩
  | false=>
   apply⟨g,s,l,λp hp=>MX.mut s1 (j p hp),env.mono s1,e,λh m f s2 i n=>k h m f (s1.trans s2) i n⟩
end
section
variable {X:Cx}{a b c:bS}{fa fb fc:XE}{pos:gy}
def EJ(neg:Bool):PV->Option PV
 | .IB=>aA (.Iv !neg)
 | _=>aA (.Iv neg)
def A8:PV->Bool
 | .IB=>aD
 | _=>aC
def Pr(i:Is K H l v Ir):decide (v=V.IB)=A8 l:=by
 cases l with
 | IB=>rw[i.i0.1];rfl
 | Iv b=>rw[i.dO.1];rfl
 | int j=>rw[i.int_inv.1];rfl
 | str y=>rw[i.str_inv.1];rfl
 | ty n=>rw[i.sD.1];rfl
 | exc C=>let⟨⟨e,o,x,C,rfl,_⟩,_⟩:=i;rfl
 | Bs C l=>let⟨⟨e,o,x,C,m,h,u,z,rfl,_⟩,_⟩:=i;rfl
 | nv C l=>let⟨u,x,⟨f,g,c,q,e,d,k,Bi,rfl,_⟩,_⟩:=i;rfl
 | lst l=>let⟨p,xs,a,rfl,_⟩:=i.lst_inv;rfl
 | cst l=>let⟨p,xs,rfl,_⟩:=i.fS;rfl
 | tup l=>let⟨p,xs,rfl,_⟩:=i.b_;rfl
 | IK ks l=>let⟨p,xs,a,rfl,_⟩:=i.p_;rfl
 | E6 ks l=>let⟨p,xs,a,rfl,_⟩:=i.nu;rfl
def K1(neg:Bool)(a:XE):XE:=λs=>(a s).bind (EJ neg)
def Zdz:∀U H Q,NF K (K1 aC fa) U H Q->J1 (NF K fa) U H Q:=by
 ext U H Q ⟨b,s,l,c,env,e,k⟩;delta K1 at e
 cases q:fa s with
 | none=>rw[q] at e;cases e
 | some m=>
  rw[q] at e;dsimp[aY] at e;show⟨b,s,m,c,env,q,λv a f s1 d _=>?_⟩;change Q _ a;rw[Pr d];have:l = .Iv (A8 m):=by cases m<;>cases e<;>rfl
  subst this;apply k _ a [] s1 (Is.Iv _) λp hp=>by simp at hp
def YU:∀U H Q,NF K (K1 aD fa) U H Q->GP (NF K fa) U H Q:=by
 ext U H Q ⟨b,s,l,c,env,e,k⟩;delta K1 at e
 cases q:fa s with
 | none=>rw[q] at e;cases e
 | some m=>
  rw[q] at e;show⟨b,s,m,c,env,q,λv a f s1 d _=>?_⟩;change Q _ a;rw[Pr d];have:l = .Iv (!A8 m):=by cases m<;>cases e<;>rfl
  subst this;apply k _ a [] s1 (Is.Iv _) λp hp=>by simp at hp
def Zd0(b:Kz X a fa):Kz X (.Compare a [.IsNot] [.Constant .none j pos'] pos) (K1 aD fa):=DC.imp (Zhi (uZ b)) YU
def yN:∀U H Q,Hn K (xB fa) U H Q->Cq (NF K fa) U H Q:=λU H Q ⟨a,s,c,b,env,e,k⟩=>⟨a,s,.Iv c,b,env,So e,λv d g f i n=>⟨c,i.dO.1,k d f⟩⟩
def yY(i:∀U H Q,t' U H Q->t U H Q):∀U H Q,Cq t' U H Q->Cq t U H Q:=λU H Q h=>i U H _ h
def Zir(b:Kz X a fa):FY X (.Compare a [.Is] [.Constant .none j pos'] pos) (xB (K1 aC fa)):=NJ.imp (YS (Zhh b)) λU H Q h=>yY Zdz U H Q (yN U H Q h)
def uX(b:Kz X a fa):FY X (.Compare a [.IsNot] [.Constant .none j pos'] pos) (xB (K1 aD fa)):=NJ.imp (YS (uZ b)) λU H Q h=>yY YU U H Q (yN U H Q h)
def HL:PV->Option PV
 | .int i=>aA (.int (-i))
 | _=>aB
def NR(g:PV->Option PV)(a:XE):XE:=λs=>(a s).bind g
def uY(f:Kz X a fa):Kz X (.UnaryOp .USub a pos) (NR HL fa):=DC.imp (Zk6 Zh2 f)<|by
 ext U H Q ⟨b,s,l,c,env,e,k⟩;delta NR at e
 cases q:fa s with
 | none=>rw[q] at e;cases e
 | some m=>
  rw[q] at e;dsimp[aY] at e;delta HL at e;split at e
  ·cases e;apply⟨b,s,_,c,env,q,λv g h s1 d _=>⟨_,d.int_inv.1,k _ g [] s1 (Is.int _) λp hp=>by simp at hp⟩⟩
  ·cases e
end
variable {K:aH}
def HE:List XE->ZG->Option (List PV)
 | [],_=>aA []
 | f::fs,s=>(f s).bind λx=>(HE fs s).map (x::·)
def Pu(h:HE (f::fs) s=aA ls):∃x r,f s=aA x/\HE fs s=aA r/\ls=x::r:=by
 delta HE at h
 cases q:f s with
 | none=>rw[q] at h;cases h
 | some x=>cases Bx:HE fs s with
  | none=>rw[q,Bx] at h;cases h
  | some r=>rw[q,Bx] at h;cases h;apply⟨x,r,rfl,rfl,rfl⟩
def X4:∀{fs:List XE}{s:ZG}{ls:List PV},HE fs s=aA ls->la ls=la fs
 | [],_,_,h=>by cases h;rfl
 | f::fs,s,ls,h=>by let⟨x,r,_,a,rfl⟩:=Pu h;rw[bB,bB,X4 a]
def CM(K:aH)(fs:List XE):De:=λU H Q=>∃(Rm:H_) (s:ZG) (ls:List PV),(∀p,Rm p->DK (H p))/\c7 K Rm H s U/\HE fs s=aA ls/\∀vs H' Ir,MX H H'->KA K H' ls vs Ir->(∀p∈Ir,¬Rm p)->Q vs H'
def GS(K:aH)(fs:List XE):De:=λU H Q=>∃(s:ZG) (ls:List PV),c7 K (λ_=>False) H s U/\HE fs s=aA ls/\∀vs H' Ir,MX H H'->KA K H' ls vs Ir->Ir.Nodup->(∀p∈Ir,H p=aB/\DK (H' p))->Q vs H'
def Na(X:Cx)(Fc:Fj)(fs:List XE):Prop:=M8 X Fc (CM X.K fs)
def Gy(X:Cx)(Fc:Fj)(fs:List XE):Prop:=M8 X Fc (GS X.K fs)
section
variable {X:Cx}{e:bS}{Fc:Fj}{f:XE}{fs:List XE}{pos:gy}{k:Nat}
def M8.imp(h:M8 X Fc t)(i:∀U H Q,t' U H Q->t U H Q):M8 X Fc t':=λpos a s U H Q I q=>h pos a s U H Q I (i U H Q q)
def Xc:Na X [] []:=M8.imp Yc<|by
 ext U H Q ⟨a,s,ls,b,env,e,k⟩;cases e;apply k [] H [] (MX.refl H) KA.nil λp hp=>by simp at hp
def ZM(q:Kz X e f)(r:Na X Fc fs)(hs:aL (e::Fc) X.env=(aC,eval e X.env)::aL Fc X.env|>On):Na X (e::Fc) (f::fs):=M8.imp (ZA q r hs)<|by
 ext U H Q ⟨a,s,ls,b,env,e,k⟩;let⟨i,o,n,m,rfl⟩:=Pu e;show⟨a,s,i,b,env,n,λx u f1 s1 j c=>⟨a,s,o,λp hp=>MX.mut s1 (b p hp),env.mono s1,m,λxs l g s2 d t=>?_⟩⟩;show k _ l (f1++g) (s1.trans s2) (KA.cons (j.mono s2) d) λp hp=>?_;rcases ag.mp hp with h | h
 ·apply c p h
 ·apply t p h
def YG:Gy X [] []:=M8.imp Yc<|by
 ext U H Q ⟨s,ls,env,e,k⟩;cases e;apply k [] H [] (MX.refl H) KA.nil cC λp hp=>by simp at hp
def YX(d:M3 X e f)(w:Gy X Fc fs)(hs:aL (e::Fc) X.env=(aC,eval e X.env)::aL Fc X.env|>On):Gy X (e::Fc) (f::fs):=M8.imp (ZA d w hs)<|by
 ext U H Q ⟨s,ls,env,e,k⟩;let⟨l,u,t,r,rfl⟩:=Pu e;show⟨s,l,env,t,λx y f1 s1 m q c=>⟨s,u,env.mono s1,r,λxs o j s2 i n g=>?_⟩⟩;show k _ o (f1++j) (s1.trans s2) (KA.cons (m.mono s2) i) ?_ λp hp=>?_
 ·show dt.mpr ⟨q,n,λa d b v z=>?_⟩;subst z;apply YZ (c a d).2 (g a v).1
 ·rcases ag.mp hp with h | h
  ·apply⟨(c p h).1,MX.mut s2 (c p h).2⟩
  ·apply⟨MX.off s1 (g p h).1,(g p h).2⟩
def DU(fs:List XE):XE:=λs=>(HE fs s).map .tup
def FV(fs:List XE):XE:=λs=>(HE fs s).map .lst
def map_some(h:o.map g=aA b):∃a,o=aA a/\b=g a:=by
 cases o with
 | none=>cases h
 | some a=>cases h;apply⟨a,rfl,rfl⟩
def YT(h:Na X Fc fs)(i:la fs<=1000|>Op):Kz X (.Tuple Fc k pos) (DU fs):=DC.imp (XU h)<|by
 ext U H Q ⟨c,s,l,f,env,e,q⟩;let⟨ls,b,rfl⟩:=map_some e;show⟨c,s,ls,f,env,b,λvs j g s1 a d=>⟨?_,λp hp=>?_⟩⟩
 ·rw[a.len,X4 b];apply eK (lt_size ())
 ·apply q _ _ g (s1.trans (MX.new hp _)) (Is.tup a_ (a.mono (MX.new hp _))) d
def W0(h:Na X Fc fs)(k:la fs<=1000|>Op):Kz X (.List Fc pos) (FV fs):=DC.imp (bb h)<|by
 ext U H Q ⟨g,s,l,c,env,e,q⟩;let⟨ls,f,rfl⟩:=map_some e;show⟨g,s,ls,c,env,f,λvs m j s1 d i=>⟨?_,λp hp=>?_⟩⟩
 ·rw[d.len,X4 f];apply eK (lt_size ())
 ·show q _ _ (p::j) (s1.trans (MX.new hp _)) (Is.lst a_ (d.mono (MX.new hp _))) λa b z=>?_;rcases aW.mp b with rfl | b
  ·apply YZ (MX.mut s1 (c a z)) hp
  ·apply i a b z
def Xw(h:Gy X Fc fs)(j:la fs<=1000|>Op):M3 X (.List Fc pos) (FV fs):=DC.imp (bb h)<|by
 ext U H Q ⟨s,l,env,e,q⟩;let⟨ls,f,rfl⟩:=map_some e;show⟨s,ls,env,f,λvs k i s1 d g c=>⟨?_,λp hp=>?_⟩⟩
 ·rw[d.len,X4 f];apply eK (lt_size ())
 ·show q _ _ (p::i) (s1.trans (MX.new hp _)) (Is.lst a_ (d.mono (MX.new hp _))) (au.mpr ⟨λz=>YZ (c p z).2 hp,g⟩) λa b=>?_;rcases aW.mp b with rfl | b
  ·apply⟨MX.off s1 hp,by rw[a_];apply cE⟩
  ·apply⟨(c a b).1,MX.mut (MX.new hp _) (c a b).2⟩
def Pw:M3 X (.Dict [] [] pos) (DB (.E6 [] [])):=DC.imp hk<|by
 ext U H Q ⟨s,l,env,e,q⟩ p hp;cases e;apply q _ _ [p] (MX.new hp _) (Is.E6 a_ rfl KA.nil) ⋯ λa b=>by rw[aO.mp b];apply⟨hp,by rw[a_];apply cE⟩
end
def DS(K:aH)(D:List PV->Option PV)(n:Nat):By:=λvs H Q _=>vs.length=n/\∃ls Ir l,KA K H ls vs Ir/\D ls=aA l/\∀v H' fq,MX H H'->Is K H' l v fq->fq.Nodup->(∀p∈fq,H p=aB/\DK (H' p))->Q v H'
def BO(D:List PV->Option PV)(fs:List XE):XE:=λs=>(HE fs s).bind D
def Zc(h:o.bind g=aA b):∃a,o=aA a/\g a=aA b:=by
 cases o with
 | none=>cases h
 | some a=>apply⟨a,rfl,h⟩
section
variable {X:Cx}{x:bH}{ps:Kn}{k:Nat}{e:bS}{Fc:Fj}{fs:List XE}{p pos:gy}
def Oc(C:BL X.prog X.w X.K X.mg X.base x ps (DS X.K D n) k)(y:MN k X.A)(w:Gl X x)(b:Na X (e::Fc) fs)(u:la fs=n|>On)
  (d:(x==("__debug__" : bH))=aC|>Op) (t:aL (e::Fc) X.env=(aC,eval e X.env)::aL Fc X.env|>On) (c:(cQ pos (aL Fc X.env)).any (·.1)=aC|>On) :
  M3 X (.Call (.Name x p) (e::Fc) [] pos) (BO D fs):=DC.imp (Zii C y w b d t c) λU H Q ⟨s,l,env,e,q⟩=>by
 let⟨ls,g,m⟩:=Zc e;show⟨λ_=>False,s,ls,λ_ z=>z.elim,env,g,λvs A B s1 f E=>?_⟩;change DS X.K D n (vs++[]) A Q E0;rw[ck];apply⟨by rw[f.len,X4 g,u],ls,B,l,f,m,λv r i s2 j o h=>q v r i (s1.trans s2) j o λa b=>⟨MX.off s1 (h a b).1,(h a b).2⟩⟩
end
def Ee(K:aH)(r:List V->Hp->IG->Prop)(g:List PV->Option PV):Prop:=∀(H:Hp)(vs:List V)(ls:List PV)(l:PV)(Ir:Gc),KA K H ls vs Ir->g ls=aA l->∀Q:IG,
 (∀v H' fq,MX H H'->Is K H' l v fq->(∀p∈fq,p∈Ir\/H p=aB)->Q v H')->r vs H Q
def Gf(K:aH)(r:List V->Hp->IG->Prop)(g:List PV->Option PV):Prop:=∀(H:Hp)(vs:List V)(ls:List PV)(l:PV)(Ir:Gc),KA K H ls vs Ir->g ls=aA l->∀Q:IG,
 (∀v H' fq,MX H H'->Is K H' l v fq->fq.Nodup->(∀p∈fq,H p=aB/\DK (H' p))->Q v H')->r vs H Q
def Zgm(o:Ee K r g):∀U H Q,NF K (BO g fs) U H Q->JG r (CM K fs) U H Q:=by
 ext U H Q ⟨c,s,l,a,env,e,k⟩;let⟨ls,n,i⟩:=Zc e;show⟨c,s,ls,a,env,n,λvs t u s1 j d=>o t vs ls l u j i Q λv m b s2 f q=>k v m b (s1.trans s2) f λp hp z=>?_⟩;rcases q p hp with h | h
 ·apply d p h z
 ·apply YZ (MX.mut s1 (a p z)) h
def Zgn(m:Gf K r g):∀U H Q,AG K (BO g fs) U H Q->JG r (CM K fs) U H Q:=by ext U H Q ⟨s,l,env,e,k⟩;let⟨ls,j,d⟩:=Zc e;apply⟨λ_=>False,s,ls,λ_ z=>z.elim,env,j,λvs n o s1 f q=>m n vs ls l o f d Q λv i b s2 c h a=>k v i b (s1.trans s2) c h λp hp=>⟨MX.off s1 (a p hp).1,(a p hp).2⟩⟩
section
variable {X:Cx}{x:bH}{k:Nat}{e:bS}{Fc:Fj}{fs:List XE}{p pos:gy}{id T:Dg}{r:List V->Hp->IG->Prop}{g:List PV->Option PV}
def Y0(i:Ag X (.builtin id) r)(k:Ee X.K r g)(j:Gl X x)(c:X.mg x=aB)(l:dq x=aA (.builtin id))(f:Na X (e::Fc) fs)(h:x≠"__name__"|>Op)(a:(x==("__debug__" : bH))=aC|>Op)
  (d:aL (e::Fc) X.env=(aC,eval e X.env)::aL Fc X.env|>On) (b:(cQ pos (aL Fc X.env)).any (·.1)=aC|>On):Kz X (.Call (.Name x p) (e::Fc) [] pos) (BO g fs):=
 DC.imp (Pa i j c l f h a d b) (Zgm k)
def tx(i:Ag X (.builtin id) r)(k:Gf X.K r g)(j:Gl X x)(c:X.mg x=aB)(l:dq x=aA (.builtin id))(f:Na X (e::Fc) fs)(h:x≠"__name__"|>Op)(a:(x==("__debug__" : bH))=aC|>Op)
  (d:aL (e::Fc) X.env=(aC,eval e X.env)::aL Fc X.env|>On) (b:(cQ pos (aL Fc X.env)).any (·.1)=aC|>On):M3 X (.Call (.Name x p) (e::Fc) [] pos) (BO g fs):=
 DC.imp (Pa i j c l f h a d b) (Zgn k)
def Ys(i:Ag X (.type T) r)(k:Ee X.K r g)(j:Gl X x)(c:X.mg x=aB)(l:dq x=aA (.type T))(f:Na X (e::Fc) fs)(h:x≠"__name__"|>Op)(a:(x==("__debug__" : bH))=aC|>Op)
  (d:aL (e::Fc) X.env=(aC,eval e X.env)::aL Fc X.env|>On) (b:(cQ pos (aL Fc X.env)).any (·.1)=aC|>On):Kz X (.Call (.Name x p) (e::Fc) [] pos) (BO g fs):=
 DC.imp (Px i j c l f h a d b) (Zgm k)
def WZ(i:Ag X (.type T) r)(k:Gf X.K r g)(j:Gl X x)(c:X.mg x=aB)(l:dq x=aA (.type T))(f:Na X (e::Fc) fs)(h:x≠"__name__"|>Op)(a:(x==("__debug__" : bH))=aC|>Op)
  (d:aL (e::Fc) X.env=(aC,eval e X.env)::aL Fc X.env|>On) (b:(cQ pos (aL Fc X.env)).any (·.1)=aC|>On):M3 X (.Call (.Name x p) (e::Fc) [] pos) (BO g fs):=
 DC.imp (Px i j c l f h a d b) (Zgn k)
end
def KA.cb(h:KA K H [l] vs Ir):∃v,vs=[v]/\Is K H l v Ir:=by let⟨x,r,f1,c,rfl,a,b,rfl⟩:=h.inv;rw[b.1,b.2,ck];apply⟨x,rfl,a⟩
def KA.j'(h:KA K H [l,m] vs Ir):∃v w f1 d,vs=[v,w]/\Is K H l v f1/\Is K H m w d/\Ir=f1++d:=by let⟨x,r,f1,d,rfl,a,b,rfl⟩:=h.inv;let⟨y,rfl,c⟩:=b.cb;apply⟨x,y,f1,d,rfl,a,c,rfl⟩
def N1:PV->Option (List PV)
 | .lst l=>aA l
 | .cst l=>aA l
 | .tup l=>aA l
 | _=>aB
def U3(h:Is K H l v Ir)(e:N1 l=aA m):∃p xs c,v = .ref p/\(BZ K H p xs\/DJ K H p xs)/\KA K H m xs c/\∀q∈c,q∈Ir:=by
 cases l with
 | lst l=>
  cases e;let⟨p,xs,c,rfl,hp,b,rfl⟩:=h.lst_inv;apply⟨p,xs,c,rfl,.inl (BZ.of hp),b,λq a=>aR _ a⟩
 | cst l=>
  cases e;let⟨p,xs,rfl,hp,b⟩:=h.fS;apply⟨p,xs,Ir,rfl,.inl hp.sq,b,λq a=>a⟩
 | tup l=>
  cases e;let⟨p,xs,rfl,hp,b⟩:=h.b_;apply⟨p,xs,Ir,rfl,.inr (DJ.of hp),b,λq a=>a⟩
 | _=>cases e
def M5:List PV->Option PV
 | [.str z]=>if z.length<=sizeLine then aA (.int z.length) else aB
 | [l]=>(N1 l).map λm=>.int m.length
 | _=>aB
def Zit:Ee K (λxs H Q=>∃x n,xs=[x]/\CV K x H n/\Q (.int n) H) M5:=λH vs ls l d h e Q k=>by
 delta M5 at e;split at e
 ·split at e
  ·cases e;let⟨v,rfl,i⟩:=h.cb;apply⟨v,_,rfl,by rw[i.str_inv.1];apply⟨by assumption,rfl⟩,k _ H [] (MX.refl H) (Is.int _) λp hp=>by simp at hp⟩
  ·cases e
 ·let⟨m,a,rfl⟩:=map_some e;let⟨v,rfl,i⟩:=h.cb;let⟨p,xs,c,rfl,hp,b,_⟩:=U3 i a;show⟨_,xs.length,rfl,?_,?_⟩
  ·rcases hp with hp | hp
   ·apply .inl ⟨xs,hp,rfl⟩
   ·apply .inr ⟨xs,hp,rfl⟩
  ·rw[b.len];apply k _ H [] (MX.refl H) (Is.int _) λp hp=>by simp at hp
 ·cases e
def Jf:List PV->Option PV
 | [l]=>(N1 l).map .tup
 | _=>aB
def Wh:Ee K (G8 K) Jf:=λH vs ls l g h e Q k=>by
 delta Jf at e;split at e
 ·let⟨m,d,rfl⟩:=map_some e;let⟨v,rfl,i⟩:=h.cb;rename_i n
  cases n with
  | tup l=>
   cases d;let⟨p,xs,rfl,hp,f⟩:=id i.b_;apply⟨p,xs,rfl,.inr ⟨DJ.of hp,k _ H g (MX.refl H) i λa c=>.inl c⟩⟩
  | lst l=>
   cases d;let⟨p,xs,j,rfl,hp,f,rfl⟩:=i.lst_inv;apply⟨p,xs,rfl,.inl ⟨BZ.of hp,λq b=>k _ _ j (MX.new b _) (Is.tup a_ (f.mono (MX.new b _))) λa c=>.inl (aR _ c)⟩⟩
  | cst l=>
   cases d;let⟨p,xs,rfl,hp,f⟩:=i.fS;apply⟨p,xs,rfl,.inl ⟨hp.sq,λq b=>k _ _ g (MX.new b _) (Is.tup a_ (f.mono (MX.new b _))) λa c=>.inl c⟩⟩
  | _=>cases d
 ·cases e
def Cg:List PV->Option PV
 | [l]=>(N1 l).bind λm=>if BW m=aD then aA (.lst m) else aB
 | _=>aB
def Wr:Gf K (G9 K) Cg:=λH vs ls l n h e Q k=>by
 delta Cg at e;split at e
 ·let⟨m,f,b⟩:=Zc e;split at b
  ·cases b;let⟨v,rfl,i⟩:=h.cb;let⟨p,xs,j,rfl,hp,d,hs⟩:=U3 i f;let:=KA.pure _ _ _ (by assumption) d;subst this;show⟨p,xs,rfl,hp,λq c=>k _ _ [q] (MX.new c _) (Is.lst a_ (d.mono (MX.new c _))) ⋯ λa g=>?_⟩;rw[aO.mp g];apply⟨c,by rw[a_];apply cE⟩
  ·cases b
 ·cases e
def F2:List PV->Option (List Int)
 | []=>aA []
 | .int i::r=>(F2 r).map (i::·)
 | _=>aB
def Yl:∀l:List Int,F2 (iL l)=aA l
 | []=>rfl
 | i::r=>by change(F2 (iL r)).map (i::·)=_;rw[Yl r];rfl
def Z9:∀{m:List PV}{l:E1},F2 m=aA l->m=iL l
 | [],l,h=>by cases h;rfl
 | .int i::r,l,h=>by let⟨a,e,rfl⟩:=map_some (show(F2 r).map (i::·)=aA l from h);rw[Z9 e];rfl
 | .IB::_,_,h=>by cases h
 | .Iv _::_,_,h=>by cases h
 | .str _::_,_,h=>by cases h
 | .ty _::_,_,h=>by cases h
 | .exc _::_,_,h=>by cases h
 | .Bs _ _::_,_,h=>by cases h
 | .nv _ _::_,_,h=>by cases h
 | .tup _::_,_,h=>by cases h
 | .lst _::_,_,h=>by cases h
 | .cst _::_,_,h=>by cases h
 | .IK _ _::_,_,h=>by cases h
 | .E6 _ _::_,_,h=>by cases h
abbrev bL(l:I8):List PV:=l.map PV.Iv
def AR:List PV->Option (List Bool)
 | []=>aA []
 | .Iv i::r=>(AR r).map (i::·)
 | _=>aB
def TJ:∀l:List Bool,AR (bL l)=aA l
 | []=>rfl
 | i::r=>by change(AR (bL r)).map (i::·)=_;rw[TJ r];rfl
def X5:∀{m:List PV}{l:I8},AR m=aA l->m=bL l
 | [],l,h=>by cases h;rfl
 | .Iv i::r,l,h=>by let⟨a,e,rfl⟩:=map_some (show(AR r).map (i::·)=aA l from h);rw[X5 e];rfl
 | .IB::_,_,h=>by cases h
 | .int _::_,_,h=>by cases h
 | .str _::_,_,h=>by cases h
 | .ty _::_,_,h=>by cases h
 | .exc _::_,_,h=>by cases h
 | .Bs _ _::_,_,h=>by cases h
 | .nv _ _::_,_,h=>by cases h
 | .tup _::_,_,h=>by cases h
 | .lst _::_,_,h=>by cases h
 | .cst _::_,_,h=>by cases h
 | .IK _ _::_,_,h=>by cases h
 | .E6 _ _::_,_,h=>by cases h
def KA.bL:∀{l:I8}{xs:List V}{Ir:Gc},KA K H (_v.bL l) xs Ir->xs=l.map V.Iv/\Ir=[]
 | [],xs,Ir,h=>by simpa only[_v.bL,kJ,KA] using h
 | i::l,xs,Ir,h=>by let⟨x,r,f1,c,rfl,b,a,rfl⟩:=KA.inv (show KA K H (PV.Iv i::_v.bL l) xs Ir from h);let⟨rfl,rfl⟩:=b.dO;let⟨rfl,rfl⟩:=a.bL;apply⟨rfl,rfl⟩
def Yz(h:BZ K H p xs\/DJ K H p xs):∃b,Nd b K H p xs:=by
 rcases h with h | h
 ·apply⟨aD,h⟩
 ·apply⟨aC,h⟩
def Ni:List PV->Option PV
 | [l]=>(N1 l).bind λm=>(F2 m).map λns=>.int ns.sum
 | _=>aB
def K4:List PV->Option PV
 | [l]=>(N1 l).bind λm=>(AR m).map λbs=>.Iv (bs.all id)
 | _=>aB
def Zv:Ee K (λxs H Q=>∃(b:Bool) (p:aM) (ns:E1),xs=[.ref p]/\Nd b K H p (ns.map V.int)/\Q (.int ns.sum) H) Ni:=λH vs ls l o h e Q k=>by
 delta Ni at e;split at e
 ·let⟨m,d,c⟩:=Zc e;let⟨ns,f,rfl⟩:=map_some c;let⟨v,rfl,i⟩:=h.cb;let⟨p,xs,n,rfl,hp,j,hs⟩:=U3 i d;let a:=Z9 f;subst a;let⟨rfl,rfl⟩:=j.iL;let⟨b,g⟩:=Yz hp;apply⟨b,p,ns,rfl,g,k _ H [] (MX.refl H) (Is.int _) λp hp=>by simp at hp⟩
 ·cases e
def ZI:Ee K (λxs H Q=>∃(b:Bool) (p:aM) (bs:I8),xs=[.ref p]/\Nd b K H p (bs.map V.Iv)/\Q (.Iv (bs.all id)) H) K4:=λH vs ls l o h e Q k=>by
 delta K4 at e;split at e
 ·let⟨m,d,c⟩:=Zc e;let⟨ns,f,rfl⟩:=map_some c;let⟨v,rfl,i⟩:=h.cb;let⟨p,xs,n,rfl,hp,j,hs⟩:=U3 i d;let a:=X5 f;subst a;let⟨rfl,rfl⟩:=j.bL;let⟨b,g⟩:=Yz hp;apply⟨b,p,ns,rfl,g,k _ H [] (MX.refl H) (Is.Iv _) λp hp=>by simp at hp⟩
 ·cases e
def Jo:List PV->Option PV
 | [.int i,.int j]=>aA (.int (if j<i then j else i))
 | _=>aB
def F5:List PV->Option PV
 | [.int i,.int j]=>aA (.int (if j>i then j else i))
 | _=>aB
def En:List PV->Option PV
 | [.int i]=>aA (.int i)
 | [.Iv c]=>aA (.int (if c then 1 else 0))
 | _=>aB
def QE:Ee K (λxs H Q=>∃i j,xs=[.int i,.int j]/\Q (.int (if j<i then j else i)) H) Jo:=λH vs ls l d h e Q k=>by
 delta Jo at e;split at e
 ·cases e;let⟨v,w,f1,c,rfl,a,b,rfl⟩:=h.j';apply⟨_,_,by rw[a.int_inv.1,b.int_inv.1],k _ H [] (MX.refl H) (Is.int _) λp hp=>by simp at hp⟩
 ·cases e
def Zd1:Ee K (λxs H Q=>∃i j,xs=[.int i,.int j]/\Q (.int (if j>i then j else i)) H) F5:=λH vs ls l d h e Q k=>by
 delta F5 at e;split at e
 ·cases e;let⟨v,w,f1,c,rfl,a,b,rfl⟩:=h.j';apply⟨_,_,by rw[a.int_inv.1,b.int_inv.1],k _ H [] (MX.refl H) (Is.int _) λp hp=>by simp at hp⟩
 ·cases e
def Se:Ee K (λxs H Q=>(∃i,xs=[.int i]/\Q (.int i) H)\/∃k,xs=[.Iv k]/\Q (.int (if k then 1 else 0)) H) En:=λH vs ls l b h e Q k=>by
 delta En at e;split at e
 ·cases e;let⟨v,rfl,a⟩:=h.cb;apply .inl ⟨_,by rw[a.int_inv.1],k _ H [] (MX.refl H) (Is.int _) λp hp=>by simp at hp⟩
 ·cases e;let⟨v,rfl,a⟩:=h.cb;apply .inr ⟨_,by rw[a.dO.1],k _ H [] (MX.refl H) (Is.int _) λp hp=>by simp at hp⟩
 ·cases e
section
variable {X:Cx}{e:bS}{Fc:Fj}{fs:List XE}{p pos:gy}
noncomputable def tyP:PV->Option String
 | .int _=>aA "int"
 | .Iv _=>aA "bool"
 | .tup _=>aA "tuple"
 | .lst _=>aA "list"
 | .str _=>aA "str"
 | _=>aB
def Az:List PV->Option PV
 | [a,.ty t]=>(tyP a).bind λu=>if t=u then aA (.Iv aD) else if u = "int"/\t = "bool" then aA (.Iv aC) else aB
 | _=>aB
def S5:bT K (.type "bool") (.type "bool")=aA aD:=rfl
def Ziu(e:tyP a=aA u)(h:Is K H a v f):IZ K H v (.type u)/\bT K (.type u) (.type u)=aA aD:=by
 cases a<;>first
  | apply nomatch (show aB=aA u from e)
  | cases e
 ·let⟨rfl,_⟩:=h.dO;apply⟨IZ.Iv _,S5⟩
 ·let⟨rfl,_⟩:=h.int_inv;apply⟨IZ.int _,Rg⟩
 ·let⟨rfl,_⟩:=h.str_inv;apply⟨IZ.str _,xJ⟩
 ·let⟨q,xs,rfl,hp,_⟩:=h.b_;apply⟨IZ.tup hp,UZ⟩
 ·let⟨q,xs,b,rfl,hp,_⟩:=h.lst_inv;apply⟨IZ.lst hp,ZX⟩
def QI:Ee K (λxs H Q=>∃x T t b,xs=[x,.ty T]/\IZ K H x t/\bT K t (.type T)=aA b/\Q (.Iv b) H) Az:=λH vs ls l m h e Q k=>by
 let d:∀b:Bool,l = .Iv b->Q (.Iv b) H:=λb z=>by subst z;apply k _ H [] (MX.refl H) (Is.Iv _) λp hp=>by simp at hp
 delta Az at e;split at e
 ·let⟨u,g,c⟩:=Zc e;let⟨v,w,f1,j,rfl,a,b,rfl⟩:=h.j';let⟨f,i⟩:=Ziu g a;split at c
  ·rename_i z;subst z;cases c;apply⟨_,_,_,_,by rw[b.sD.1],f,i,d _ rfl⟩
  ·split at c
   ·rename_i z;let⟨rfl,rfl⟩:=z;cases c;apply⟨_,_,_,_,by rw[b.sD.1],f,S6,d _ rfl⟩
   ·cases c
 ·cases e
def S'(d:Gl X x)(a:X.mg x=aB)(e:dq x=aA (.type n))(c:x≠"__name__"|>Op)(b:(x==("__debug__" : bH))=aC|>Op):Kz X (.Name x pos) (DB (.ty n)):=
 yP (Zcv d a e (v:=.ty n) rfl c b) λ_=>Is.ty n
end
variable {K:aH}
open Classical in
instance:DecidableEq PV:=λa b=>propDecidable (a=b)
def K0:Nat->PV->PV->Bool
 | _+1,.IB,.IB=>aD
 | _+1,.Iv _,.Iv _=>aD
 | _+1,.int _,.int _=>aD
 | _+1,.str _,.str _=>aD
 | n+1,.tup l,.tup m=>(l.zip m).all λz=>K0 n z.1 z.2
 | n+1,.lst l,.lst m=>(l.zip m).all λz=>K0 n z.1 z.2
 | _,_,_=>aC
def Sq(h:((a::l).zip (b::m)).all p=aD):p (a,b)=aD/\(l.zip m).all p=aD:=by rw[gA,kq,aX] at h;apply h
def KA.p4(c:∀a b v fa fb,K0 n a b=aD->Is K H a v fa->Is K H b v fb->a=b):∀{l m:List PV}{xs:List V}{fa fb:Gc},(l.zip m).all (λz=>K0 n z.1 z.2)=aD->KA K H l xs fa->KA K H m xs fb->l=m
 | [],m,xs,fa,fb,_,h,h'=>by
  dsimp[KA] at h;rw[h.1] at h';let:=h'.len
  cases m with
  | nil=>rfl
  | cons _ _=>simp at this
 | a::l,m,xs,fa,fb,Fq,h,h'=>by
  let⟨x,r,f1,k,rfl,i,g,rfl⟩:=h.inv
  cases m with
  | nil=>have:=h'.len;simp at this
  | cons b m=>
   let⟨p,o,j,q,e,f,d,rfl⟩:=h'.inv;cases e;let⟨c1,c2⟩:=Sq Fq;rw[c a b x f1 j c1 i f,KA.p4 c c2 g d]
def Is.p4:∀(n:Nat)(a b:PV)(v:V)(fa fb:Gc),K0 n a b=aD->Is K H a v fa->Is K H b v fb->a=b
 | 0,a,b,v,fa,fb,Fq,_,_=>nomatch (show aC=aD from Fq)
 | n+1,a,b,v,fa,fb,Fq,Ff,IF=>by
  cases a<;>cases b<;>first
   | apply nomatch (show aC=aD from Fq)
   | skip
  ·rfl
  ·rw[Ff.dO.1] at IF;let:=IF.dO.1;cases this;rfl
  ·rw[Ff.int_inv.1] at IF;let:=IF.int_inv.1;cases this;rfl
  ·rw[Ff.str_inv.1] at IF;let:=IF.str_inv.1;cases this;rfl
  ·let⟨p,xs,rfl,hp,f⟩:=Ff.b_;let⟨h,ys,e,c,d⟩:=IF.b_;cases e;rw[hp] at c;cases c;rw[KA.p4 (Is.p4 n) Fq f d]
  ·let⟨p,xs,i,rfl,hp,f,_⟩:=Ff.lst_inv;let⟨h,ys,g,e,c,d,_⟩:=IF.lst_inv;cases e;rw[hp] at c;cases c;rw[KA.p4 (Is.p4 n) Fq f d]
section
variable {X:Cx}{Iu:MI}{U:NO}{H:Hp}{s:aN}{A:bX}
def WC(i:∀a b x y fa fb u w,K0 n a b=aD->Is K H a x fa->Is K H b y fb->RelV x u->RelV y w->∃r,oG A s u w r/\(r=aD↔a=b)) :
  ∀{l m:List PV}{xs ys:List V}{fa fb:Gc}{us ws:E4},(l.zip m).all (λz=>K0 n z.1 z.2)=aD->KA K H l xs fa->KA K H m ys fb->Bj xs us->Bj ys ws->
  ∃e:Nat->Bool,(∀j (c:j<la us) (d:j<la ws),oG A s us[j] ws[j] (e j))/\((aQ (min (la us) (la ws))).all e=aD↔l.take (min (la us) (la ws))=m.take (min (la us) (la ws)))
 | [],m,xs,ys,fa,fb,us,ws,_,h,_,r,_=>by dsimp[KA] at h;let⟨rfl,_⟩:=h;cases r;apply⟨λ_=>aD,λj c=>by simp at c,⋯⟩
 | a::l,[],xs,ys,fa,fb,us,ws,_,_,h,_,r=>by dsimp[KA] at h;let⟨rfl,_⟩:=h;cases r;apply⟨λ_=>aD,λj c d=>by simp at d,⋯⟩
 | a::l,b::m,xs,ys,fa,fb,us,ws,Fq,h,h',r,IW=>by
  let⟨x,G,f1,E,rfl,c,d,rfl⟩:=h.inv;let⟨y,I,D,F,rfl,o,C,rfl⟩:=h'.inv;let⟨c1,c2⟩:=Sq Fq
  cases r with
  | cons q v=>cases IW with
   | cons MR BE=>
    let⟨t,p,f⟩:=i a b x y f1 D _ _ c1 c o q MR;let⟨e,B,g⟩:=WC i c2 d C v BE;show⟨λj=>match j with | 0=>t | k+1=>e k,λj c d=>?_,?_⟩
    ·cases j with
     | zero=>apply p
     | succ k=>apply B k (~~~c) (~~~d)
    ·dsimp[bB,Nat.succ_min_succ,iU,kq,mC,aX,List.take_succ_cons,List.cons.injEq];apply and_congr f g
def KA.vk(h:KA K H l xs fa)(h':KA K H m ys fb)(r:Bj xs us)(c:Bj ys ws) :
  (l.take (min us.length ws.length)=m.take (min us.length ws.length)/\us.length=ws.length)↔l=m:=by
 let f:=h.len;let e:=h'.len;let g:=r.length;let d:=c.length;constructor
 ·ext⟨a,b⟩;rw[cK (),cK ()] at a;apply a
 ·ext a;subst a;apply⟨rfl,()⟩
def CY(A:bX)(s:aN)(u w:aG)(r:Bool):Prop:=SeqAt.RcAt A s u w r/\SeqAt.RcNeAt A s u w !r
def Py(I:Inv X Iu U H s):∀(n:Nat)(A:bX)(a b:PV)(x y:V)(l fb:Gc)(u w:aG),A.units+2*n+2<fu->K0 n a b=aD->Is K H a x l->Is K H b y fb->RelV x u->RelV y w->
  (∃r,oG A s u w r/\(r=aD↔a=b))/\∃r,CY A s u w r/\(r=aD↔a=b)
 | 0,A,a,b,x,y,l,fb,u,w,Ft,Fq,_,_,_,_=>nomatch (show aC=aD from Fq)
 | n+1,A,a,b,x,y,l,fb,u,w,Ft,Fq,Ff,IF,ru,FJ=>by
  cases a<;>cases b<;>first
   | apply nomatch (show aC=aD from Fq)
   | skip
  ·rw[Ff.i0.1] at ru;rw[IF.i0.1] at FJ;cases ru;cases FJ;apply⟨⟨aD,oV _,⋯⟩,aD,⟨SeqAt.RcAt.none_none,SeqAt.RcNeAt.none_none⟩,⋯⟩
  ·rw[Ff.dO.1] at ru;rw[IF.dO.1] at FJ;cases ru;cases FJ;apply⟨⟨_,lN _ _,⋯⟩,_,⟨SeqAt.RcAt.bool_bool _ _,SeqAt.RcNeAt.bool_bool _ _⟩,⋯⟩
  ·rw[Ff.int_inv.1] at ru;rw[IF.int_inv.1] at FJ;let⟨t,rfl⟩:=ru;let⟨t',rfl⟩:=FJ;apply⟨⟨_,oG.int_int _ _ _ _,⋯⟩,_,⟨SeqAt.RcAt.int_int _ _ _ _,SeqAt.RcNeAt.int_int _ _ _ _⟩,⋯⟩
  ·rw[Ff.str_inv.1] at ru;rw[IF.str_inv.1] at FJ;let⟨t,rfl⟩:=ru;let⟨t',rfl⟩:=FJ;apply⟨⟨_,oG.str_str _ _ _ _,⋯⟩,_,⟨SeqAt.RcAt.str_str _ _ _ _,SeqAt.RcNeAt.str_str _ _ _ _⟩,⋯⟩
  ·rename_i l1 l2;let⟨p,xs,rfl,hp,F⟩:=id Ff.b_;let⟨C,ys,rfl,v,i⟩:=id IF.b_;cases ru;cases FJ;let⟨B,E,q,_⟩:=I.tuple (DJ.of hp);let⟨ws,h,m,_⟩:=I.tuple (DJ.of v);let⟨f,D,k⟩:=WC (A:=A.in1) (λa b x y l fb u w c L J M G=>(Py I n A.in1 a b x y l fb u w (by change A.units+1+2*n+2<fu;lia) c L J M G).1) Fq F i E h;let Q:=SeqAt.RcAt.tuples (A:=A) (e:=f) (show s.heap.IsTuple p B.toArray from q) (show s.heap.IsTuple C ws.toArray from m) () (λj z o=>D j (~~~z) (~~~o));let S:=SeqAt.RcNeAt.tuples (A:=A) (e:=f) (show s.heap.IsTuple p B.toArray from q) (show s.heap.IsTuple C ws.toArray from m) () (λj z o=>D j (~~~z) (~~~o));let g:(((aQ (min B.toArray.size ws.toArray.size)).all f&&B.toArray.size==ws.toArray.size)=aD)↔PV.tup l1=PV.tup l2:=by dsimp[aU,aX,beq_iff_eq,PV.tup.injEq];rw[k];apply KA.vk F i E h
   show⟨?_,_,⟨Q,S⟩,g⟩;by_cases e:p=C
   ·subst e;apply⟨aD,oV _,by simp[Is.p4 (n+1) _ _ _ _ _ Fq Ff IF]⟩
   ·apply⟨_,qI e Q,g⟩
  ·rename_i l1 l2;let⟨p,xs,T,rfl,hp,F,_⟩:=id Ff.lst_inv;let⟨C,ys,R,rfl,v,i,_⟩:=id IF.lst_inv;cases ru;cases FJ;let⟨B,E,q,_⟩:=I.list (BZ.of hp);let⟨ws,h,m,_⟩:=I.list (BZ.of v);let⟨f,D,k⟩:=WC (A:=A.in1) (λa b x y l fb u w c L J M G=>(Py I n A.in1 a b x y l fb u w (by change A.units+1+2*n+2<fu;lia) c L J M G).1) Fq F i E h
   let N:∃r,CY A s (.ref p) (.ref C) r/\(r=aD↔PV.lst l1=PV.lst l2):=by
    let g:=KA.vk F i E h;by_cases d:B.length=ws.length
    ·show⟨_,⟨SeqAt.RcAt.lists (e:=f) q.isList m.isList (~~~d) () (λj z o=>D j (~~~z) (~~~o)),SeqAt.RcNeAt.lists (e:=f) q.isList m.isList (~~~d) () (λj z o=>D j (~~~z) (~~~o))⟩,?_⟩;rw[d,Nat.min_self] at k g;dsimp[aU,PV.lst.injEq];rw[d,k,<-g];simp
    ·show⟨aC,⟨SeqAt.RcAt.lists_lengths q.isList m.isList (~~~d) (),SeqAt.RcNeAt.lists_lengths q.isList m.isList (~~~d) ()⟩,?_⟩;rw[PV.lst.injEq,<-g];simp[d]
   let⟨r,P,O⟩:=N;show⟨?_,r,P,O⟩;by_cases e:p=C
   ·subst e;apply⟨aD,oV _,by simp[Is.p4 (n+1) _ _ _ _ _ Fq Ff IF]⟩
   ·apply⟨r,qI e P.1,O⟩
end
def A'(K:aH)(neg:Bool):Dh:=λx y H Q=>∃a b fa fb,Is K H a x fa/\Is K H b y fb/\K0 8 a b=aD/\∀r:Bool,(r=aD↔a=b)->Q (.Iv (if neg then !r else r)) H
section
variable {X:Cx}
def OC(m:X.A.units+64<fu):FL X (dz .Eq) (A' X.K aC):=by ext l s U H x y v u Q I f e h;let⟨a,b,d,fb,i,j,c,q⟩:=h;let⟨_,r,k,g⟩:=Py I 8 X.A a b x y d fb v u () c i j f e;apply k.1 X.prog X.w X.Bk _ ⟨.Iv r,H,I,rfl,q r g⟩
def W7(m:X.A.units+64<fu):FL X (dz .NotEq) (A' X.K aD):=by ext l s U H x y v u Q I f e h;let⟨a,b,d,fb,i,j,c,q⟩:=h;let⟨_,r,k,g⟩:=Py I 8 X.A a b x y d fb v u () c i j f e;apply k.2 X.prog X.w X.Bk _ ⟨.Iv !r,H,I,rfl,q r g⟩
end
def KD(neg:Bool):PV->PV->Option PV:=λa b=>if K0 8 a b=aD then aA (.Iv (if neg then !decide (a=b) else decide (a=b))) else aB
def PA(c:Bool):K2 K (A' K c) (KD c):=λH x y a b l f fb g h e Q k=>by
 delta KD at e;split at e
 ·cases e;show⟨a,b,f,fb,g,h,by assumption,λr d=>?_⟩
  have:r=decide (a=b):=by
   cases r with
   | true=>apply(decide_eq_true (d.mp rfl)).symm
   | false=>apply(decide_eq_false λz=>bg (d.mpr z)).symm
  subst this;apply k _ H [] (MX.refl H) (Is.Iv _) λp hp=>by simp at hp
 ·cases e
def A_(K:aH)(neg:Bool):Dh:=λx y H Q=>∃a b m fa fb,Is K H a x fa/\Is K H b y fb/\N1 b=aA m/\(m.all λz=>K0 8 z a)=aD/\∀r:Bool,(r=aD↔a∈m)->Q (.Iv (if neg then !r else r)) H
section
variable {X:Cx}{Iu:MI}{U:NO}{H:Hp}{s:aN}
def QJ(I:Inv X Iu U H s)(Y:A.units+18<fu)(S:Is K H a x fa)(L:RelV x u):∀{m:List PV}{xs:List V}{fb:Gc}{i:E4},(m.all λz=>K0 8 z a)=aD->KA K H m xs fb->Bj xs i->
  ∃e:aG->Bool,(∀y∈i,oG A s y u (e y))/\(i.any e=aD↔a∈m):=λ{m xs fb i} C h r=>by
 -- c acb answer
 let c:∀y∈i,∃t:Bool,oG A s y u t/\(t=aD↔∃b,b∈m/\b=a/\∃z f,Is K H b z f/\RelV z y):=λy d=>by let⟨j,n,e⟩:=lM.mp d;let T:=r.length;let l:xs[j]?=aA xs[j]:=aI ();let⟨b,f,p,o,_⟩:=h.get' l;let⟨w,v,FJ⟩:=r.get l;rw[aI n] at v;cases v;rw[e] at FJ;let k:=aw p;let B:=bK.mp C b k;let⟨⟨t,O,N⟩,_⟩:=Py I 8 A b a xs[j] x f fa y u () B o S FJ L;show⟨t,O,N.trans ⟨λz=>⟨b,k,z,xs[j],f,o,FJ⟩,λ⟨G,P,F,z,W,M,R⟩=>?_⟩⟩;let D:=R.inj FJ;subst D;subst F;apply Is.p4 8 b G _ _ _ B o M
 classical
 show⟨λy=>if d:y∈i then(c y d).choose else aC,λy d=>?_,?_⟩
 ·dsimp[dif_pos d];apply(c y d).choose_spec.1
 ·rw[iM];constructor
  ·ext⟨y,d,e⟩;rw[dif_pos d] at e;let⟨b,p,rfl,_⟩:=(c y d).choose_spec.2.mp e;apply p
  ·ext q;let⟨j,n,e⟩:=lM.mp q;let⟨z,f,J,Q,_⟩:=h.get (aI n);let⟨y,d,E⟩:=r.get J;let g:=aw d;show⟨y,g,?_⟩;rw[dif_pos g];apply(c y g).choose_spec.2.mpr ⟨a,q,rfl,z,f,e▸Q,E⟩
end
section
variable {X:Cx}
def Y6(E:X.A.units+64<fu):FL X (dz .In) (A_ X.K aC):=by
 ext D s U H x y v u Q I k r h;let⟨a,b,m,C,fb,n,z,o,j,q⟩:=h;let⟨p,xs,B,rfl,hp,l,_⟩:=U3 z o;cases r;rcases hp with hp | hp
 ·let⟨c,d,t,_⟩:=I.list hp;let⟨e,i,f⟩:=QJ (A:=X.A.in1) I (by change X.A.units+1+18<fu;lia) n k j l d;show SeqAt.in_listAt e t.isList (λw g=>i w (~~~g)) ⟨.Iv _,H,I,rfl,?_⟩;rw[show c.toArray.any e=c.any e by simp];apply q _ f
 ·let⟨c,d,t,_⟩:=I.tuple hp;let⟨e,i,f⟩:=QJ (A:=X.A.in1) I (by change X.A.units+1+18<fu;lia) n k j l d;show SeqAt.in_tupleAt e t (λw g=>i w (~~~g)) ⟨.Iv _,H,I,rfl,?_⟩;rw[show c.toArray.any e=c.any e by simp];apply q _ f
def ug(E:X.A.units+64<fu):FL X (dz .NotIn) (A_ X.K aD):=by
 ext D s U H x y v u Q I k r h;let⟨a,b,m,C,fb,n,z,o,j,q⟩:=h;let⟨p,xs,B,rfl,hp,l,_⟩:=U3 z o;cases r;rcases hp with hp | hp
 ·let⟨c,d,t,_⟩:=I.list hp;let⟨e,i,f⟩:=QJ (A:=X.A.in1) I (by change X.A.units+1+18<fu;lia) n k j l d;show SeqAt.notIn_listAt e t.isList (λw g=>i w (~~~g)) ⟨.Iv _,H,I,rfl,?_⟩;rw[show c.toArray.any e=c.any e by simp];apply q _ f
 ·let⟨c,d,t,_⟩:=I.tuple hp;let⟨e,i,f⟩:=QJ (A:=X.A.in1) I (by change X.A.units+1+18<fu;lia) n k j l d;show SeqAt.notIn_tupleAt e t (λw g=>i w (~~~g)) ⟨.Iv _,H,I,rfl,?_⟩;rw[show c.toArray.any e=c.any e by simp];apply q _ f
end
def Nf(neg:Bool):PV->PV->Option PV:=λa b=>(N1 b).bind λm=>if(m.all λz=>K0 8 z a)=aD then aA (.Iv (if neg then !decide (a∈m) else decide (a∈m))) else aB
def ux(c:Bool):K2 K (A_ K c) (Nf c):=λH x y a b l g fb h i e Q k=>by
 let⟨m,f,e⟩:=Zc e;split at e
 ·cases e;show⟨a,b,m,g,fb,h,i,f,by assumption,λr d=>?_⟩
  have:r=decide (a∈m):=by
   cases r with
   | true=>apply(decide_eq_true (d.mp rfl)).symm
   | false=>apply(decide_eq_false λz=>bg (d.mpr z)).symm
  subst this;apply k _ H [] (MX.refl H) (Is.Iv _) λp hp=>by simp at hp
 ·cases e
variable {K:aH}
mutual
def Is.oi:∀(l:PV)(v:V)(Ir:Gc),Is K H l v Ir->∀p∈Ir,H p≠aB
 | .IB,_,_,h=>by dsimp[Is] at h;rw[h.2];simp
 | .Iv _,_,_,h=>by dsimp[Is] at h;rw[h.2];simp
 | .int _,_,_,h=>by dsimp[Is] at h;rw[h.2];simp
 | .str _,_,_,h=>by dsimp[Is] at h;rw[h.2];simp
 | .ty _,_,_,h=>by dsimp[Is] at h;rw[h.2];simp
 | .exc _,_,_,h=>by dsimp[Is] at h;rw[h.2];simp
 | .Bs _ _,_,_,h=>by dsimp[Is] at h;rw[h.2];simp
 | .nv L l,v,Ir,h=>by dsimp[Is] at h;let⟨u,x,_,_,b⟩:=h;apply Is.oi l x Ir b
 | .tup l,v,Ir,h=>by let⟨p,xs,_,_,b⟩:=h.b_;apply KA.oi l xs Ir b
 | .lst l,v,Ir,h=>by
  let⟨p,xs,c,_,hp,b,rfl⟩:=h.lst_inv;ext q a;rcases aW.mp a with rfl | a
  ·rw[hp];simp
  ·apply KA.oi l xs c b q a
 | .cst l,v,Ir,h=>by let⟨p,xs,_,_,b⟩:=h.fS;apply KA.oi l xs Ir b
 | .IK ks l,v,Ir,h=>by
  let⟨p,d,c,_,hp,_,b,rfl⟩:=h.p_;ext q a;rcases aW.mp a with rfl | a
  ·rcases hp with e | ⟨o,e⟩<;>rw[e]<;>simp
  ·apply KA.oi l _ c b q a
 | .E6 ks l,v,Ir,h=>by
  let⟨p,d,c,_,hp,_,b,rfl⟩:=h.nu;ext q a;rcases aW.mp a with rfl | a
  ·rcases hp with e | ⟨o,e⟩<;>rw[e]<;>simp
  ·apply KA.oi l _ c b q a
def KA.oi:∀(l:List PV)(xs:List V)(Ir:Gc),KA K H l xs Ir->∀p∈Ir,H p≠aB
 | [],_,_,h=>by dsimp[KA] at h;rw[h.2];simp
 | l::ls,xs,Ir,h=>by
  let⟨x,r,f1,b,_,d,c,rfl⟩:=h.inv;ext q a;rcases ag.mp a with a | a
  ·apply Is.oi l x f1 d q a
  ·apply KA.oi ls r b c q a
end
def Ab(Rm:H_)(H H':Hp):Prop:=∀b o,H b=aA o->¬Rm b->H' b=aA o
def MX.ab(s:MX H H'):Ab Rm H H':=λb o h _=>s b o h
def Ab.tk(a:Ab Rm H H')(c:∀p,Rm p->DK (H p)):ua H H':=⟨λb xs h=>a b _ h λz=>by
 let:=c b z
 rw[h] at this;apply this,λb o xs h=>a b _ h λz=>by
 let:=c b z
 rw[h] at this;apply this,λb o x h=>a b _ h λz=>by
 let:=c b z;rw[h] at this;apply this⟩
def Is.ab(a:Ab Rm H H')(b:∀p,Rm p->DK (H p))(n:∀p∈Ir,¬Rm p)(h:Is K H l v Ir):Is K H' l v Ir:=
 Is.IT (a.tk b) l v Ir (λp hp=>Ld.of λo q=>a p o q (n p hp)) h
structure yZ(K:aH)(Rm:H_)(H1:Hp)(J:It)(ls:List PV):Prop where
 stop:∀H',Ab Rm H1 H'->J.stop (la ls) H'
 go:∀H' (i:Nat) l,Ab Rm H1 H'->ls[i]?=aA l->J.go i H'
 BF:∀H' (i:Nat) l x y0,Ab Rm H1 H'->ls[i]?=aA l->J.BF i H' x y0->MX H' y0/\∃Ir,Is K y0 l x Ir/\∀p∈Ir,H1 p≠aB/\¬Rm p
abbrev XL:=ZG->Option (List PV)
def Md(K:aH)(f:XL):TI:=λU H R=>∃(Rm:H_) (s:ZG) (ls:List PV),(∀p,Rm p->DK (H p))/\c7 K Rm H s U/\f s=aA ls/\∀J H1,MX H H1->yZ K Rm H1 J ls->R J H1
def Nj(X:Cx)(IC e:bS)(f:XL):Prop:=Aa X IC e (Md X.K f)
section
variable {X:Cx}{IC e:bS}{Fc:Fj}
def Aa.imp(h:Aa X IC e t)(i:∀U H R,t' U H R->t U H R):Aa X IC e t':=λa s U H R I q=>h a s U H R I (i U H R q)
def LF:PV->Option (List PV)
 | .lst m=>aA m
 | .cst m=>aA m
 | _=>aB
def Af(f:XE):XL:=λs=>(f s).bind LF
def Nk(f:XE):XL:=λs=>match f s with | some (.tup m)=>aA m | _=>aB
def vV(h:LF a=aA m):a = .lst m\/a = .cst m:=by
 delta LF at h;split at h
 ·cases h;apply .inl rfl
 ·cases h;apply .inr rfl
 ·cases h
def t_(h:Nk f s=aA m):f s=aA (.tup m):=by
 delta Nk at h;split at h
 ·cases h;assumption
 ·cases h
def YH(h:Kz X e f):Nj X IC e (Af f):=Aa.imp (Zcy h)<|by
 ext U H R ⟨u,s,ls,z,env,e,k⟩;let⟨l,E,D⟩:=Zc e;show⟨u,s,l,z,env,E,λv j C s1 A w=>?_⟩;let n:=λp hp=>MX.mut s1 (z p hp)
 let c:∀a xs m,v = .ref a->BZ X.K j a xs->(∀b,Ab u j b->BZ X.K b a xs)->KA X.K j ls xs m->(∀p∈m,p∈C)->∃a,v = .ref a/\(∃xs,BZ X.K j a xs)/\R (Me X.K a) j:=by
  ext a xs m rfl d keep g sub;show⟨a,rfl,⟨xs,d⟩,k _ j s1 ⟨λb ab=>⟨xs,keep b ab,by rw[g.len];apply aZ _⟩,λb i l ab t=>?_,λb i l x F ab t y=>?_⟩⟩
  ·let⟨x,f1,r,_,_⟩:=g.get t;apply⟨xs,x,keep b ab,r⟩
  ·let⟨rfl,y⟩:=y;let⟨G,f1,r,B,o⟩:=g.get t;let:=y xs (keep _ ab);rw[r] at this;cases this;let q:=λp hp=>w p (sub p (o p hp));apply⟨MX.refl _,f1,B.ab ab n q,λp hp=>⟨Is.oi _ _ _ B p hp,q p hp⟩⟩
 rcases vV D with rfl | rfl
 ·let⟨a,xs,m,rfl,d,g,rfl⟩:=A.lst_inv;apply c a xs m rfl (BZ.of d) (λb ab=>BZ.of (ab a _ d (w a ah))) g λp hp=>aR _ hp
 ·let⟨a,xs,rfl,d,g⟩:=A.fS;apply c a xs C rfl d.sq (λb ab=>(d.IT (ab.tk n)).sq) g λp hp=>hp
def PT(h:Kz X e f):Nj X IC e (Nk f):=Aa.imp (Zhu h)<|by
 ext U H R ⟨n,s,ls,o,env,e,k⟩;show⟨n,s,.tup ls,o,env,t_ e,λv t B s1 w u=>?_⟩;let⟨a,xs,rfl,r,m⟩:=w.b_;let c:=λp hp=>MX.mut s1 (o p hp);let keep:∀b,Ab n t b->DJ X.K b a xs:=λb ab=>DJ.of ((ab.tk c).tup a xs r);show⟨a,rfl,⟨xs,DJ.of r⟩,k _ t s1 ⟨λb ab=>⟨xs,keep b ab,by rw[m.len];apply aZ _⟩,λb i l ab j=>?_,λb i l x z ab j y=>?_⟩⟩
 ·let⟨x,f1,g,_,_⟩:=m.get j;apply⟨xs,x,keep b ab,g⟩
 ·let⟨rfl,y⟩:=y;let⟨A,f1,g,q,sub⟩:=m.get j;let:=y xs (keep _ ab);rw[g] at this;cases this;let d:=λp hp=>u p (sub p hp);apply⟨MX.refl _,f1,q.ab ab c d,λp hp=>⟨Is.oi _ _ _ q p hp,d p hp⟩⟩
def K5(n:Nat):List PV:=(aQ n).map λ(i:Nat)=>PV.int (i:Int)
def D7(lo:Int)(n:Nat):List PV:=(aQ n).map λ(i:Nat)=>PV.int (lo+(i:Int))
def Ai(fs:List XE):XL:=λs=>match HE fs s with | some [.int j]=>if -1000000<=j/\j<=1000000 then aA (K5 j.toNat) else aB | _=>aB
def Lp(fs:List XE):XL:=λs=>match HE fs s with | some [.int i,.int j]=>if -1000000<=i/\i<=1000000/\-1000000<=j/\j<=1000000 then aA (D7 i (j-i).toNat) else aB | _=>aB
def vp(lo:Int)(n:Nat):yZ K Rm H1 (Cn lo n) (D7 lo n):=by
 show⟨λc _=>by delta D7;rw[aK,b8];apply aZ n,λc i l _ a=>?_,λc i l x d _ a y=>?_⟩
 ·let:=(aS.mp a).1;delta D7 at this;rw[aK,b8] at this;apply this
 ·let⟨rfl,rfl⟩:=y;let b:=(aS.mp a).1;delta D7 at b a;rw[aK,b8] at b;rw[af,fm b] at a;cases a;apply⟨MX.refl _,[],Is.int _,λp hp=>by simp at hp⟩
def Zd2(n:Nat):K5 n=D7 0 n:=by apply((az));ext i _;rw[qr]
def lb(l:Gl X "range")(c:X.mg "range" = aB)(h:Na X [a] fs)(hs:aL [a] X.env=[(aC,eval a X.env)]|>On):Nj X IC (.Call (.Name "range" p) [a] [] pos) (Ai fs):=
 Aa.imp (hg l c h hs) λU H R ⟨b,s,ls,d,env,e,k⟩=>by
 delta Ai at e;split at e
 ·split at e
  ·cases e;rename_i j g n;show⟨b,s,_,d,env,g,λvs m o s1 f _=>?_⟩;let⟨v,rfl,i⟩:=f.cb;show⟨j,by rw[i.int_inv.1],(),(),k _ m s1 ?_⟩;rw[Zd2];apply vp _ _
  ·cases e
 ·cases e
def e3(q:Gl X "range")(f:X.mg "range" = aB)(o:Na X [a,b] fs)(hs:aL [a,b] X.env=[(aC,eval a X.env),(aC,eval b X.env)]|>On)(c:aL [b] X.env=[(aC,eval b X.env)]|>On):Nj X IC (.Call (.Name "range" p) [a,b] [] pos) (Lp fs):=
 Aa.imp (l_ q f o hs c) λU H R ⟨d,s,ls,h,env,e,k⟩=>by
 delta Lp at e;split at e
 ·split at e
  ·cases e;rename_i i j n u;show⟨d,s,_,h,env,n,λvs r x s1 l _=>?_⟩;let⟨v,w,f1,t,rfl,m,g,_⟩:=l.j';apply⟨i,j,by rw[m.int_inv.1,g.int_inv.1],⟨(),(),(),()⟩,k _ r s1 (vp _ _)⟩
  ·cases e
 ·cases e
def K7(m:List PV):List PV:=m.zipIdx.map λz=>.tup [.int (z.2:Nat),z.1]
def Lo(m n:List PV):List PV:=(m.zip n).map λz=>.tup [z.1,z.2]
def yW{i:Nat}{l:PV}(h:(K7 m)[i]?=aA l):∃a,m[i]?=aA a/\l = .tup [.int (i:Nat),a]:=by
 delta K7 at h;rw[af,List.getElem?_zipIdx] at h
 cases q:m[i]? with
 | none=>rw[q] at h;cases h
 | some a=>rw[q] at h;cases h;apply⟨a,rfl,⋯⟩
def VA(m:List PV):(K7 m).length=la m:=by delta K7;rw[aK,List.length_zipIdx]
def Zr{i:Nat}{l:PV}(h:(Lo m n)[i]?=aA l):∃a b,m[i]?=aA a/\n[i]?=aA b/\l = .tup [a,b]:=by
 delta Lo at h;rw[af] at h
 cases q:(m.zip n)[i]? with
 | none=>rw[q] at h;cases h
 | some z=>
  rw[q] at h;cases h;let⟨c,d⟩:=mV.mp q;apply⟨z.1,z.2,c,d,rfl⟩
def ZJ(m n:List PV):(Lo m n).length=min (la m) (la n):=by delta Lo;rw[aK,List.length_zip]
def B8:Bool->PV->Option (List PV)
 | true,.lst l=>aA l
 | true,.cst l=>aA l
 | false,.tup l=>aA l
 | _,_=>aB
def PO(h:Is K H l v Ir)(e:B8 b l=aA m):∃p xs g,v = .ref p/\KA K H m xs g/\(∀q∈g,q∈Ir)/\∀(a:H_) d,Ab a H d->(∀p,a p->DK (H p))->(∀p∈Ir,¬a p)->Nd b K d p xs:=by
 cases b with
 | true=>cases l with
  | lst l=>
   cases e;let⟨p,xs,g,rfl,hp,f,rfl⟩:=h.lst_inv;apply⟨p,xs,g,rfl,f,λq c=>aR _ c,λa d ab _ n=>BZ.of (ab p _ hp (n p ah))⟩
  | cst l=>
   cases e;let⟨p,xs,rfl,hp,f⟩:=h.fS;apply⟨p,xs,Ir,rfl,f,λq c=>c,λa d ab i _=>(hp.IT (ab.tk i)).sq⟩
  | _=>cases e
 | false=>cases l with
  | tup l=>
   cases e;let⟨p,xs,rfl,hp,f⟩:=h.b_;apply⟨p,xs,Ir,rfl,f,λq c=>c,λa d ab i _=>DJ.of ((ab.tk i).tup p xs hp)⟩
  | _=>cases e
def Ay(b:Bool)(fs:List XE):XL:=λs=>match HE fs s with | some [l]=>(B8 b l).map K7 | _=>aB
def L5(KC b2:Bool)(fs:List XE):XL:=λs=>match HE fs s with | some [l,r]=>(B8 KC l).bind λm=>(B8 b2 r).map λn=>Lo m n | _=>aB
def Sr{k:Nat}{g:gy}(b:Bool){a:bS}{fs:List XE}{p pos:gy}(N:Gl X "enumerate")(E:X.mg "enumerate" = aB)(M:Na X [a] fs)(hs:aL [a] X.env=[(aC,eval a X.env)]|>On) :
  Nj X (.Tuple elts k g) (.Call (.Name "enumerate" p) [a] [] pos) (Ay b fs):=Aa.imp (Zdl b N E M hs) λU H R ⟨w,s,ls,B,env,e,k⟩=>by
 delta Ay at e;split at e
 ·rename_i l L;let⟨m,I,rfl⟩:=map_some e;show⟨w,s,_,B,env,L,λvs t Q s1 G A=>?_⟩;let⟨v,rfl,i⟩:=G.cb;let f:=λp hp=>MX.mut s1 (B p hp);let⟨a,xs,O,rfl,u,sub,keep⟩:=PO i I;let j:=λd ab=>keep w d ab f A;show⟨a,rfl,⟨xs,j t (MX.ab (MX.refl t))⟩,k _ t s1 ⟨λd ab=>⟨xs,j d ab,by rw[VA,u.len]⟩,λd i l ab r=>?_,λd i l x J ab r y=>?_⟩⟩
  ·let⟨c,n,rfl⟩:=yW r;let⟨x,f1,o,_,_⟩:=u.get n;apply⟨xs,x,j d ab,o⟩
  ·let⟨c,n,rfl⟩:=yW r;let⟨P,f1,o,D,F⟩:=u.get n;let⟨q,z,C,rfl,rfl,y⟩:=y;let:=y xs (j _ ab);rw[o] at this;cases this;let h:=λp hp=>A p (sub p (F p hp));show⟨MX.new C _,f1,Is.tup a_ ?_,λp hp=>⟨Is.oi _ _ _ D p hp,h p hp⟩⟩;apply KA.cons (Is.int _) (KA.one ((D.ab ab f h).mono (MX.new C _)))
 ·cases e
def Ziz{k:Nat}{t:gy}(KC b2:Bool){a b:bS}{fs:List XE}{p pos:gy}(IL:Gl X "zip")(hm:X.mg "zip" = aB)(Ff:Na X [a,b] fs)
  (hs:aL [a,b] X.env=[(aC,eval a X.env),(aC,eval b X.env)]|>On) (S:aL [b] X.env=[(aC,eval b X.env)]|>On) :
  Nj X (.Tuple elts k t) (.Call (.Name "zip" p) [a,b] [] pos) (L5 KC b2 fs):=Aa.imp (Zig KC b2 IL hm Ff hs S) λU H R ⟨G,s,ls,T,env,e,k⟩=>by
 delta L5 at e;split at e
 ·rename_i l r he;let⟨m,Ko,e⟩:=Zc e;let⟨n,e2,rfl⟩:=map_some e;show⟨G,s,_,T,env,he,λvs D Ir s1 i1 W=>?_⟩;let⟨v,w,g1,g2,rfl,BG,iw,rfl⟩:=i1.j';let h:=λp hp=>MX.mut s1 (T p hp);let C:=λp hp=>W p (aj _ hp);let A:=λp hp=>W p (bA _ hp);let⟨a1,xs,fq,rfl,L,sub,keep⟩:=PO BG Ko;let⟨a2,ys,fr,rfl,N,u,o⟩:=PO iw e2;let F:=λf ab=>keep G f ab h C;let g:=λf ab=>o G f ab h A;show⟨a1,a2,rfl,⟨xs,F D (MX.ab (MX.refl D))⟩,⟨ys,g D (MX.ab (MX.refl D))⟩,k _ D s1 ⟨λf ab=>⟨xs,ys,F f ab,g f ab,?_⟩,λf i l ab M=>?_,λf i l x y0 ab M y=>?_⟩⟩
  ·rw[ZJ,L.len,N.len]
   lia
  ·let⟨c,d,I,j,rfl⟩:=Zr M;let⟨x,f1,J,_,_⟩:=L.get I;let⟨y,Z,P,_,_⟩:=N.get j;apply⟨xs,ys,x,y,F f ab,g f ab,J,P⟩
  ·let⟨c,d,I,j,rfl⟩:=Zr M;let⟨x',f1,J,Y,sb⟩:=L.get I;let⟨y',Z,P,iy,O⟩:=N.get j;let⟨q,z,aah,Q,rfl,rfl,y1,y2⟩:=y;let:=y1 xs (F _ ab);rw[J] at this;cases this;let:=y2 ys (g _ ab);rw[P] at this;cases this;let E:=λp hp=>C p (sub p (sb p hp));let B:=λp hp=>A p (u p (O p hp));show⟨MX.new Q _,f1++Z,Is.tup a_ ?_,λp hp=>?_⟩
   ·apply KA.cons ((Y.ab ab h E).mono (MX.new Q _)) (KA.one ((iy.ab ab h B).mono (MX.new Q _)))
   ·rcases ag.mp hp with hp | hp
    ·apply⟨Is.oi _ _ _ Y p hp,E p hp⟩
    ·apply⟨Is.oi _ _ _ iy p hp,B p hp⟩
 ·cases e
end
inductive oo where
 | one (i:Nat) | many (is:Iw)
noncomputable def oo.slots:oo->List Nat
 | .one i=>[i]
 | .many is=>is
def HP:List Nat->List PV->ZG->ZG
 | i::is,l::ls,s=>HP is ls (s.set i (aA l))
 | _,_,s=>s
def Eb:List Nat->List V->NO->NO
 | i::is,l::ls,s=>Eb is ls (s.set i (aA l))
 | _,_,s=>s
def NQ:oo->PV->ZG->Option ZG
 | .one i,l,s=>aA (s.set i (aA l))
 | .many is,.tup ls,s=>if ls.length=is.length then aA (HP is ls s) else aB
 | _,_,_=>aB
def HS:List Nat->aab
 | []=>CW
 | i::is=>C0 (H9 i) (HS is)
def HW(K:aH):oo->FC
 | .one i=>H9 i
 | .many is=>J2 K is.length (HS is)
def Pz:∀{is:Iw}{vs:List V}{U:NO}{H:Hp}{Q:NO->Hp->Prop},vs.length=la is->Q (Eb is vs U) H->HS is vs U H Q
 | [],[],_,_,_,_,q=>⟨rfl,q⟩
 | [],_::_,_,_,_,h,_=>by simp at h
 | _::_,[],_,_,_,h,_=>by simp at h
 | i::is,v::vs,U,H,Q,h,q=>⟨v,vs,rfl,Pz (is:=is) (vs:=vs) (~~~h) q⟩
def Xt(h:Is K H l v Ir)(e:NQ T l s=aA Kl) :
  ∃ls vs fs,Kl=HP T.slots ls s/\KA K H ls vs fs/\ls.length=T.slots.length/\(∀p∈fs,p∈Ir)/\∀U (Q:NO->Hp->Prop),Q (Eb T.slots vs U) H->HW K T v U H Q:=by
 cases T with
 | one i=>
  cases e;apply⟨[l],[v],Ir,rfl,KA.one h,rfl,λp hp=>hp,λU Q q=>q⟩
 | many is=>
  cases l with
  | tup ls=>
   let e:(if ls.length=is.length then aA (_v.HP is ls s) else aB)=aA Kl:=e;split at e
   ·cases e;let⟨p,xs,rfl,hp,a⟩:=h.b_;apply⟨ls,xs,Ir,rfl,a,by assumption,λp hp=>hp,λU Q q=>⟨p,xs,rfl,DJ.of hp,by rw[a.len];assumption,Pz (by rw[a.len];assumption) q⟩⟩
   ·cases e
  | _=>cases e
def VB:∀{is:Iw}{vs:List V}{U:NO}{n:Nat},(∀i∈is,i<n)->(Eb is vs U).drop n=U.drop n
 | [],_,_,_,_=>rfl
 | _::_,[],_,_,_=>rfl
 | i::is,v::vs,U,n,h=>by change(Eb is vs (U.set i (aA v))).drop n=_;rw[VB (λj a=>h j (aR _ a))];let:=h i ah;rw[List.drop_set,Be this]
def c7.set(h:c7 K Rm H s U)(m:s.length=U.length)(k:Is K H l v Ir)(n:∀p∈Ir,¬Rm p):c7 K Rm H (s.set i (aA l)) (U.set i (aA v)):=⟨λj a e=>by
 rw[bw] at e;by_cases b:i=j
 ·subst b;rw[Be rfl] at e;split at e
  ·cases e;apply⟨v,Ir,by rw[bw,Be rfl,Be ()],k,n⟩
  ·cases e
 ·rw[Fb b] at e;let⟨w,f,g,d,c⟩:=h.is j a e;apply⟨w,f,by rw[bw,Fb b];apply g,d,c⟩⟩
theorem c7.HP:∀{is:Iw}{ls:List PV}{vs:List V}{fs:Gc}{s:ZG}{U:NO},c7 K Rm H s U->la s=U.length->KA K H ls vs fs->(∀p∈fs,¬Rm p)->c7 K Rm H (_v.HP is ls s) (Eb is vs U)
 | [],_,_,_,_,_,h,_,_,_=>by delta _v.HP Eb;apply h
 | i::is,[],vs,fs,s,U,h,_,E5,_=>by dsimp[KA] at E5;rw[E5.1];apply h
 | i::is,l::ls,vs,fs,s,U,h,Fg,E5,n=>by let⟨x,r,f1,c,rfl,b,a,rfl⟩:=E5.inv;change c7 K Rm H (_v.HP is ls (s.set i (aA l))) (Eb is r (U.set i (aA x)));apply c7.HP (h.set Fg b λp hp=>n p (aj _ hp)) (by rw[cq,cq];apply Fg) a λp hp=>n p (bA _ hp)
def F3(n:Nat)(Bm:Iw)(s:ZG):ZG:=ak n aB++Bm.map (λi=>(s[i]?).join)
def K6(T:oo)(ft:XT)(fe:XE)(s0:ZG):List PV->Option (List PV)
 | []=>aA []
 | l::r=>(NQ T l s0).bind λs1=>(ft s1).bind λc=>if c=aD then(fe s1).bind λy=>(K6 T ft fe s0 r).map (y::·) else K6 T ft fe s0 r
def HC(n:Nat)(Bm:Iw)(fi:XL)(T:oo)(ft:XT)(fe:XE):XE:=λs=>(fi s).bind λls=>if ls.length<=10000 then(K6 T ft fe (F3 n Bm s) ls).map .lst else aB
def Ac:XT:=λ_=>aA aD
def U4(h:o.join=aA a):o=aA (aA a):=by
 cases o with
 | none=>cases h
 | some b=>cases b with
  | none=>cases h
  | some c=>cases h;rfl
def c7.comp(h:c7 K Rm H s U):c7 K Rm H (F3 n Bm s) (DQ n Bm U):=⟨λi l e=>by
 delta F3 at e;delta DQ;by_cases d:i<n
 ·rw[bM (~~~d),c0,Be d] at e;cases e
 ·rw[bc (~~~d),cP,af] at e;rw[bc (~~~d),cP,af]
  cases q:Bm[i-n]? with
  | none=>rw[q] at e;cases e
  | some j=>
   rw[q] at e;let e:=U4 (bG e);let⟨v,f,a,b,c⟩:=h.is j l e;apply⟨v,f,by change aA ((U[j]?).join)=_;rw[a];rfl,b,c⟩⟩
def U6(n:Nat)(a:Iw)(s:ZG)(U:NO):(F3 n a s).length=(DQ n a U).length:=by delta F3 DQ;simp
def PB(h:K6 T ft fe s0 (l::r)=aA ys):∃s1 c,NQ T l s0=aA s1/\ft s1=aA c/\((c=aD/\∃y a,fe s1=aA y/\K6 T ft fe s0 r=aA a/\ys=y::a)\/(c=aC/\K6 T ft fe s0 r=aA ys)):=by
 let⟨s1,e,h⟩:=Zc h;let⟨c,d,h⟩:=Zc h;show⟨s1,c,e,d,?_⟩
 cases c with
 | true=>
  let⟨y,f,h⟩:=Zc h;let⟨a,b,rfl⟩:=map_some h;apply .inl ⟨rfl,y,a,f,b,rfl⟩
 | false=>
  apply .inr ⟨rfl,h⟩
def PD{l:List α}{i:Nat}{a:α}{r:List α}(h:l.drop i=a::r):l[i]?=aA a/\l.drop (i+1)=r:=by
 constructor
 ·let:=congrArg (λz=>z[0]?) h;simpa [qH] using this
 ·rw[<-List.drop_drop,h];rfl
section
variable {n:Nat}{Bm:Iw}{fi:XL}{T:oo}{ft:XT}{fe:XE}
def Zd3(hT:∀i∈T.slots,i<n):∀U H Q,NF K (HC n Bm fi T ft fe) U H Q->NL n Bm (Md K fi) (HW K T) (Hn K ft) (NF K fe) U H Q:=by
 ext U H Q ⟨j,s,L,N,env,e,k⟩;let⟨ls,Ko,e⟩:=Zc e;split at e
 case isFalse=>cases e
 rename_i hlen;let⟨ys,e2,rfl⟩:=map_some e;show⟨j,s,ls,N,env,Ko,λJ Y s1 f=>?_⟩;let hd1:=λp hp=>MX.mut s1 (N p hp)
 show⟨λi m vs u=>m=ls.length-i/\i<=ls.length/\MX Y u/\∃g tw o,ys=g++tw/\g.length<=i/\K6 T ft fe (F3 n Bm s) (ls.drop i)=aA tw/\KA K u g vs o/\∀p∈o,¬j p,
  ⟨ls.length,⋯,dH _,MX.refl Y,[],ys,[],rfl,aZ _,e2,KA.nil,λp hp=>by simp at hp⟩,?_⟩
 ext i m vs u ⟨rfl,E5,b,g,tw,o,rfl,A,G,I,Z⟩;show⟨by rw[I.len];apply eK (lt_size ()),?_⟩
 cases q:ls.drop i with
 | nil=>
  let P:i=ls.length:=by let:=congrArg fK q;simp at this;lia
  subst P;rw[q] at G;cases G;show .inl ⟨f.stop u (MX.ab b),λp hp=>k _ _ (p::o) (s1.trans (b.trans (MX.new hp _))) ?_ λa Ff z=>?_⟩
  ·rw[ck];apply Is.lst a_ (I.mono (MX.new hp _))
  ·rcases aW.mp Ff with rfl | Ff
   ·apply YZ (MX.mut (s1.trans b) (N a z)) hp
   ·apply Z a Ff z
 | cons l r=>
  let⟨R,hr⟩:=PD q;let D:=(aS.mp R).1;rw[q] at G;let⟨sb,c,eb,et,S⟩:=PB G
  show .inr ⟨f.go u i l (MX.ab b) R,λF W=>MX Y W/\∃wa ni uh,g++tw=wa++ni/\wa.length<=i+1/\K6 T ft fe (F3 n Bm s) (ls.drop (i+1))=aA ni/\KA K W wa F uh/\∀p∈uh,¬j p,
   λF W h'=>⟨ls.length-(i+1),(),rfl,D,h'.1,h'.2⟩,λx H2 y=>?_⟩
  let⟨s2,fx,O,IA⟩:=f.BF u i l x H2 (MX.ab b) R y;let w:=λp hp=>MX.mut (b.trans s2) (hd1 p hp);let⟨Iv,bv,bf,rfl,bi,_,C,B⟩:=Xt O eb;let E:c7 K j H2 (F3 n Bm s) (DQ n Bm U):=(env.mono (s1.trans (b.trans s2))).comp;let d:=E.HP (is:=T.slots) (U6 n Bm s U) bi λp hp=>(IA p (C p hp)).2;show B _ _ ⟨VB hT,j,_,c,w,d,et,λH3 t=>?_⟩;let X:=λp hp=>MX.mut t (w p hp);rcases S with⟨rfl,y',zs,ey,M,rfl⟩ | ⟨rfl,M⟩
  ·show Zlo ?_;show⟨j,_,y',X,d.mono t,ey,λv H4 f4 s4 i4 n4=>?_⟩;show⟨b.trans (s2.trans (t.trans s4)),g++[y'],zs,o++f4,by rw[gn];rfl,by rw[aq];simp;apply A,by rw[hr];apply M,(I.mono (s2.trans (t.trans s4))).append (KA.one i4),λp hp=>?_⟩;rcases ag.mp hp with h | h
   ·apply Z p h
   ·apply n4 p h
  ·show Zln ?_;apply⟨b.trans (s2.trans t),g,tw,o,rfl,qt A,by rw[hr];apply M,I.mono (s2.trans t),Z⟩
def pB(hT:∀i∈T.slots,i<n):∀U H Q,AG K (HC n Bm fi T ft fe) U H Q->NL n Bm (Md K fi) (HW K T) (Hn K ft) (AG K fe) U H Q:=by
 ext U H Q ⟨s,L,env,e,k⟩;let⟨ls,Ko,e⟩:=Zc e;split at e
 case isFalse=>cases e
 rename_i hlen;let⟨ys,e2,rfl⟩:=map_some e;let hd:∀(H:Hp) p,(λ_=>False:H_) p->DK (H p):=λ_ _ z=>z.elim;show⟨λ_=>False,s,ls,hd H,env,Ko,λJ F s1 o=>?_⟩
 show⟨λi m vs w=>m=ls.length-i/\i<=ls.length/\MX F w/\∃u tw t,ys=u++tw/\u.length<=i/\K6 T ft fe (F3 n Bm s) (ls.drop i)=aA tw/\KA K w u vs t/\t.Nodup/\∀p∈t,F p=aB/\DK (w p),
  ⟨ls.length,⋯,dH _,MX.refl F,[],ys,[],rfl,aZ _,e2,KA.nil,cC,λp hp=>by simp at hp⟩,?_⟩
 ext i m vs w ⟨rfl,E5,d,u,tw,t,rfl,B,M,O,dv,g⟩;show⟨by rw[O.len];apply eK (lt_size ()),?_⟩
 cases q:ls.drop i with
 | nil=>
  let W:i=ls.length:=by let:=congrArg fK q;simp at this;lia
  subst W;rw[q] at M;cases M;show .inl ⟨o.stop w (MX.ab d),λp hp=>k _ _ (p::t) (s1.trans (d.trans (MX.new hp _))) ?_ (au.mpr ⟨λz=>YZ (g p z).2 hp,dv⟩) λa A=>?_⟩
  ·rw[ck];apply Is.lst a_ (O.mono (MX.new hp _))
  ·rcases aW.mp A with rfl | A
   ·apply⟨MX.off (s1.trans d) hp,by rw[a_];apply cE⟩
   ·apply⟨MX.off s1 (g a A).1,MX.mut (MX.new hp _) (g a A).2⟩
 | cons l r=>
  let⟨X,hr⟩:=PD q;let E:=(aS.mp X).1;rw[q] at M;let⟨sb,c,eb,et,Y⟩:=PB M
  show .inr ⟨o.go w i l (MX.ab d) X,λI N=>MX F N/\∃wa ni uh,u++tw=wa++ni/\wa.length<=i+1/\K6 T ft fe (F3 n Bm s) (ls.drop (i+1))=aA ni/\KA K N wa I uh/\uh.Nodup/\∀p∈uh,F p=aB/\DK (N p),
   λI N h'=>⟨ls.length-(i+1),(),rfl,E,h'.1,h'.2⟩,λx R y=>?_⟩
  let⟨s2,fx,S,IA⟩:=o.BF w i l x R (MX.ab d) X y;let⟨Iv,bv,bf,rfl,bi,_,D,C⟩:=Xt S eb;let G:c7 K (λ_=>False) R (F3 n Bm s) (DQ n Bm U):=(env.mono (s1.trans (d.trans s2))).comp;let j:=G.HP (is:=T.slots) (U6 n Bm s U) bi λp hp=>(IA p (D p hp)).2;show C _ _ ⟨VB hT,λ_=>False,_,c,hd R,j,et,λH3 f=>?_⟩;rcases Y with⟨rfl,y',zs,ey,P,rfl⟩ | ⟨rfl,P⟩
  ·show Zlo ?_;show⟨_,y',j.mono f,ey,λv H4 f4 s4 i4 d4 Z=>?_⟩;show⟨d.trans (s2.trans (f.trans s4)),u++[y'],zs,t++f4,by rw[gn];rfl,by rw[aq];simp;apply B,by rw[hr];apply P,(O.mono (s2.trans (f.trans s4))).append (KA.one i4),dt.mpr ⟨dv,d4,λa A b IF z=>?_⟩,λp hp=>?_⟩
   ·subst z;apply YZ (MX.mut (s2.trans f) (g a A).2) (Z a IF).1
   ·rcases ag.mp hp with h | h
    ·apply⟨(g p h).1,MX.mut (s2.trans (f.trans s4)) (g p h).2⟩
    ·apply⟨MX.off (d.trans (s2.trans f)) (Z p h).1,(Z p h).2⟩
  ·show Zln ?_;apply⟨d.trans (s2.trans f),u,tw,t,rfl,qt B,by rw[hr];apply P,O.mono (s2.trans f),dv,λp hp=>⟨(g p hp).1,MX.mut (s2.trans f) (g p hp).2⟩⟩
end
def N6(X:Cx)(ifs:Fj)(f:XT):Prop:=BK X ifs (Hn X.K f)
section
variable {X:Cx}{IC elt iter c:bS}{ifs:Fj}{scope:jd}{pos:gy}{fi:XL}{T:oo}{ft:XT}{fe:XE}
def U5:N6 X [] Ac:=by ext a s U H Q I ⟨b,d,c,f,env,e,k⟩;cases e;apply Zdh a s U H Q I (k H (MX.refl H))
def QL(h:FY X c ft):N6 X [c] ft:=Zdi h
def eX(own fr:Kn)(c:Iw)(b:X.calm=aD)(h:Nj X IC iter fi)(S:HZ X.N X.env.scope scope own fr c=aD)
  (e:∀cl C s H a,Aj (B1 X (own++fr) scope cl C s H a) IC (HW X.K T)) (g:∀cl C s H a,N6 (B1 X (own++fr) scope cl C s H a) ifs ft) (d:∀cl C s H a,Kz (B1 X (own++fr) scope cl C s H a) elt fe)
  (f:(∀i∈T.slots,i<la own)|>Op) (hs:(∀x,cY iter X.env x=pure x)|>Pi):Kz X (.ListComp elt [⟨IC,iter,ifs,0⟩] scope pos) (HC (la own) c fi T ft fe):=
 DC.imp (X1 own fr c b h S e (λcl C s H a=>(show BK (B1 X (own++fr) scope cl C s H a) ifs (Hn X.K ft) from g cl C s H a)) (λcl C s H a=>(show DC (B1 X (own++fr) scope cl C s H a) elt (NF X.K fe) from d cl C s H a)) hs) (Zd3 f)
def QM(own fr:Kn)(c:Iw)(b:X.calm=aD)(h:Nj X IC iter fi)(S:HZ X.N X.env.scope scope own fr c=aD)
  (e:∀cl C s H a,Aj (B1 X (own++fr) scope cl C s H a) IC (HW X.K T)) (g:∀cl C s H a,N6 (B1 X (own++fr) scope cl C s H a) ifs ft) (d:∀cl C s H a,M3 (B1 X (own++fr) scope cl C s H a) elt fe)
  (f:(∀i∈T.slots,i<la own)|>Op) (hs:(∀x,cY iter X.env x=pure x)|>Pi):M3 X (.ListComp elt [⟨IC,iter,ifs,0⟩] scope pos) (HC (la own) c fi T ft fe):=
 DC.imp (X1 own fr c b h S e (λcl C s H a=>(show BK (B1 X (own++fr) scope cl C s H a) ifs (Hn X.K ft) from g cl C s H a)) (λcl C s H a=>(show DC (B1 X (own++fr) scope cl C s H a) elt (AG X.K fe) from d cl C s H a)) hs) (pB f)
end
def Ao(xs:List PV)(lo E5:IY):List PV:=(xs.drop (_b.DF (la xs) 0 lo)).take (_b.DF (la xs) (la xs) E5-_b.DF (la xs) 0 lo)
def KA.cut(lo e:IY)(h:KA K H l xs Ir):∃f1,KA K H (Ao l lo e) (DL xs lo e) f1/\∀p∈f1,p∈Ir:=by delta Ao DL;rw[h.len];let⟨f1,a,b⟩:=h.drop (_b.DF l.length 0 lo);let⟨f,c,d⟩:=a.take (_b.DF l.length l.length e-_b.DF l.length 0 lo);apply⟨f,c,λp hp=>b p (d p hp)⟩
abbrev XO:=ZG->Option (Option Int)
def GW(K:aH)(f:XO):Bn:=λU H Q=>∃(Rm:H_) (s:ZG) (i:IY),(∀p,Rm p->DK (H p))/\c7 K Rm H s U/\f s=aA i/\∀H',MX H H'->Q i H'
def Gn(X:Cx)(e:Option bS)(f:XO):Prop:=Ez X e (GW X.K f)
def F9:XO:=λ_=>aA aB
def Lr(f:XE):XO:=λs=>match f s with | some (.int i)=>aA (aA i) | _=>aB
def Ca(x:PV)(lo E5:IY):Option PV:=match x with | .lst l=>aA (.lst (Ao l lo E5)) | .cst l=>aA (.lst (Ao l lo E5)) | _=>aB
def F4(x:PV)(lo E5:IY):Option PV:=match x with | .tup l=>if _b.DF l.length 0 lo=0/\_b.DF l.length l.length E5=l.length then aB else aA (.tup (Ao l lo E5)) | _=>aB
def Ho(g:PV->Option Int->Option Int->Option PV)(a:XE)(lo E5:XO):XE:=λs=>(a s).bind λx=>(lo s).bind λl=>(E5 s).bind λu=>g x l u
def v'(lo b:IY)(h:BW l=aD):BW (Ao l lo b)=aD:=by rw[X8,bK] at *;ext x a;apply h x (gL (eD a))
section
variable {X:Cx}{e:bS}{lo E5:Option bS}{p2 pos:gy}{fa:XE}{Dd fh:XO}
def Ss:Gn X aB F9:=by ext a s U H Q I ⟨b,c,i,d,env,e,k⟩;cases e;apply Zc8 a s U H Q I (k H (MX.refl H))
def VC(h:Kz X e fa):Gn X (aA e) (Lr fa):=by
 ext g s U H Q I ⟨a,b,i,f,env,e,k⟩;delta Lr at e;split at e
 ·cases e;rename_i j c;apply Zc9 h g s U H Q I ⟨a,b,.int j,f,env,c,λv d m l i n=>⟨j,i.int_inv.1,k d l⟩⟩
 ·cases e
def oL(B:Kz X e fa)(u:Gn X lo Dd)(A:Gn X j fh):Kz X (.Subscript e (.Slice lo j aB p2) pos) (Ho Ca fa Dd fh):=DC.imp (lq Zdc B u A)<|by
 ext U H Q ⟨m,s,l,i,env,e,k⟩;let⟨x,w,e⟩:=Zc e;let⟨a,t,e⟩:=Zc e;let⟨b,y,e⟩:=Zc e;show⟨m,s,x,i,env,w,λv F G s1 o n=>⟨m,s,a,λp hp=>MX.mut s1 (i p hp),env.mono s1,t,λE s2=>⟨m,s,b,λp hp=>MX.mut (s1.trans s2) (i p hp),env.mono (s1.trans s2),y,λD h=>?_⟩⟩⟩
 cases x with
 | lst l=>
  cases e;let⟨p,xs,C,rfl,hp,j,rfl⟩:=(o.mono (s2.trans h)).lst_inv;let⟨f1,c,d⟩:=j.cut a b;show⟨p,xs,rfl,BZ.of hp,λq f=>k _ _ (q::f1) (s1.trans (s2.trans (h.trans (MX.new f _)))) (Is.lst a_ (c.mono (MX.new f _))) λr g z=>?_⟩;rcases aW.mp g with rfl | g
  ·apply YZ (MX.mut (s1.trans (s2.trans h)) (i r z)) f
  ·apply n r (aR _ (d r g)) z
 | cst l=>
  cases e;let⟨p,xs,rfl,hp,j⟩:=(o.mono (s2.trans h)).fS;let⟨f1,c,d⟩:=j.cut a b;show⟨p,xs,rfl,hp.sq,λq f=>k _ _ (q::f1) (s1.trans (s2.trans (h.trans (MX.new f _)))) (Is.lst a_ (c.mono (MX.new f _))) λr g z=>?_⟩;rcases aW.mp g with rfl | g
  ·apply YZ (MX.mut (s1.trans (s2.trans h)) (i r z)) f
  ·apply n r (d r g) z
 | _=>cases e
def Vd(A:Kz X e fa)(t:Gn X lo Dd)(z:Gn X f fh):Kz X (.Subscript e (.Slice lo f aB p2) pos) (Ho F4 fa Dd fh):=DC.imp (lq Zh5 A t z)<|by
 ext U H Q ⟨g,s,l,i,env,e,k⟩;let⟨x,w,e⟩:=Zc e;let⟨a,o,e⟩:=Zc e;let⟨b,y,e⟩:=Zc e;show⟨g,s,x,i,env,w,λv E F s1 u n=>⟨g,s,a,λp hp=>MX.mut s1 (i p hp),env.mono s1,o,λD s2=>⟨g,s,b,λp hp=>MX.mut (s1.trans s2) (i p hp),env.mono (s1.trans s2),y,λC j=>?_⟩⟩⟩
 cases x with
 | tup l=>
  delta F4 at e;simp only at e;split at e
  ·cases e
  ·rename_i h;cases e;let⟨p,xs,rfl,hp,f⟩:=(u.mono (s2.trans j)).b_;let⟨f1,c,d⟩:=f.cut a b;show⟨p,xs,rfl,DJ.of hp,by rw[f.len];apply h,λq m=>k _ _ f1 (s1.trans (s2.trans (j.trans (MX.new m _)))) (Is.tup a_ (c.mono (MX.new m _))) λr B=>n r (d r B)⟩
 | _=>cases e
end
variable {K:aH}
structure Rel(K:aH)(O:Iw)(H0:Hp)(bD:L3)(s:ZG)(U:NO)(H:Hp):Prop where
 same:MX H0 H
 len:la s=U.length
 is:∀(i:Nat) l,s[i]?=aA (aA l)->∃v,U[i]?=aA (aA v)/\Is K H l v (bD i)
 uK:∀(i:Nat),(∀l,s[i]?≠aA (aA l))->bD i=[]
 E3:∀i∈O,(bD i).Nodup
 own:∀i∈O,∀p∈bD i,H0 p=aB/\DK (H p)
 p5:∀i∈O,∀j,j≠i->∀p∈bD i,p∉bD j
def Lh(O:Iw)(bD:L3)(p:aM):Prop:=∃i∈O,p∈bD i
def D9(O:Iw)(s:ZG):ZG:=O.foldl (λs i=>s.set i aB) s
def PF:∀{O:Iw}{s:ZG}{i:Nat}{l:PV},(D9 O s)[i]?=aA (aA l)->i∉O/\s[i]?=aA (aA l)
 | [],s,i,l,h=>⟨⋯,h⟩
 | o::O,s,i,l,h=>by
  let⟨b,a⟩:=PF (O:=O) (s:=s.set o aB) h;rw[bw] at a;by_cases e:o=i
  ·rw[Be e] at a;split at a<;>cases a
  ·rw[Fb e] at a;apply⟨by dsimp[aW,not_or];apply⟨λz=>e z.symm,b⟩,a⟩
section
variable {O:Iw}{H0 H H':Hp}{bD:L3}{s:ZG}{U:NO}
def Rel.at(r:Rel K O H0 bD s U H)(i:Nat)(hp:p∈bD i):∃l v,s[i]?=aA (aA l)/\U[i]?=aA (aA v)/\Is K H l v (bD i):=by
 cases q:s[i]? with
 | none=>rw[r.uK i (λl z=>by rw[q] at z;cases z)] at hp;simp at hp
 | some o=>cases o with
  | none=>rw[r.uK i (λl z=>by rw[q] at z;cases z)] at hp;simp at hp
  | some l=>
   let⟨v,a,b⟩:=r.is i l q;apply⟨l,v,rfl,a,b⟩
def Rel.oi(r:Rel K O H0 bD s U H)(i:Nat):∀p∈bD i,H p≠aB:=λp hp=>by let⟨l,v,_,_,b⟩:=r.at i hp;apply Is.oi _ _ _ b p hp
def Rel.env(r:Rel K O H0 bD s U H):c7 K (λ_=>False) H s U:=⟨λi l e=>by
 let⟨v,a,b⟩:=r.is i l e;apply⟨v,_,a,b,λ_ _ z=>z⟩⟩
def Rel.zV(r:Rel K O H0 bD s U H):c7 K (Lh O bD) H (D9 O s) U:=⟨λi l e=>by
 let⟨n,e⟩:=PF e;let⟨v,a,b⟩:=r.is i l e;apply⟨v,_,a,b,λp hp ⟨j,d,c⟩=>r.p5 j d i (λz=>n (z▸d)) p c hp⟩⟩
def Rel.w4(r:Rel K O H0 bD s U H):∀p,Lh O bD p->DK (H p):=λp ⟨i,a,hp⟩=>(r.own i a p hp).2
def Rel.grow(r:Rel K O H0 bD s U H)(e:MX H H'):Rel K O H0 bD s U H':=
 ⟨r.same.trans e,r.len,λi l q=>by let⟨v,a,b⟩:=r.is i l q;apply⟨v,a,b.mono e⟩,r.uK,r.E3,λi c p hp=>⟨(r.own i c p hp).1,MX.mut e (r.own i c p hp).2⟩,r.p5⟩
def Rel.less(r:Rel K O F bD s U H)(e:MX H0 F):Rel K O H0 bD s U H:=
 ⟨e.trans r.same,r.len,r.is,r.uK,r.E3,λi a p hp=>⟨MX.off e (r.own i a p hp).1,(r.own i a p hp).2⟩,r.p5⟩
open Classical in
def DR(H:Hp)(Rm:H_):Hp:=λb=>if Rm b then aB else H b
def zd:MX (DR H Rm) H:=λb o h=>by
 delta DR at h;split at h
 ·cases h
 ·apply h
def Rel.frame(r:Rel K O H0 bD s U H):Rel K O (DR H (Lh O bD)) bD s U H:=
 ⟨zd,r.len,r.is,r.uK,r.E3,λi a p hp=>⟨by delta DR;rw[Be ⟨i,a,hp⟩],(r.own i a p hp).2⟩,r.p5⟩
def Rel.under(r:Rel K O H0 bD s U H):MX H0 (DR H (Lh O bD)):=λb o h=>by delta DR;rw[Fb (λ⟨i,a,hp⟩=>by rw[(r.own i a b hp).1] at h;cases h)];apply r.same b o h
open Classical in
def Ja(bD:L3)(n:Nat)(i:Nat)(Ir:Gc):Nat->List aM:=λj=>if j=i/\i<n then Ir else bD j
def Z0(h:j≠i):Ja bD n i Ir j=bD j:=by delta Ja;rw[Fb (λz=>h z.1)]
def UO(h:i<n):Ja bD n i Ir i=Ir:=by delta Ja;rw[Be ⟨rfl,h⟩]
def Rel.set(r:Rel K O H0 bD s U H)(u:Is K H l v Ir)(n:i∈O->Ir.Nodup/\∀p∈Ir,H0 p=aB/\DK (H p))
  (m:∀j,j≠i->(j∈O\/i∈O)->∀p∈Ir,p∉bD j):Rel K O H0 (Ja bD (la s) i Ir) (s.set i (aA l)) (U.set i (aA v)) H:=by
 by_cases c:i<la s
 ·let d:Ja bD (la s) i Ir i=Ir:=UO c;show⟨r.same,by rw[cq,cq];apply r.len,λj a e=>?_,λj h=>?_,λj b=>?_,λj b p hp=>?_,λj b k g p hp=>?_⟩
  ·rw[bw] at e;by_cases b:i=j
   ·subst b;rw[Be rfl,Be c] at e;cases e;rw[d];apply⟨v,by rw[bw,Be rfl,Be (by rw[<-r.len];apply c)],u⟩
   ·rw[Fb b] at e;let⟨w,q,o⟩:=r.is j a e;rw[Z0 (bN b)];apply⟨w,by rw[bw,Fb b];apply q,o⟩
  ·by_cases b:i=j
   ·subst b;apply absurd (by rw[bw,Be rfl,Be c]) (h l)
   ·rw[Z0 (bN b)];apply r.uK j λa z=>h a (by rw[bw,Fb b];apply z)
  ·by_cases e:j=i
   ·subst e;rw[d];apply(n b).1
   ·rw[Z0 e];apply r.E3 j b
  ·by_cases e:j=i
   ·subst e;rw[d] at hp;apply(n b).2 p hp
   ·rw[Z0 e] at hp;apply r.own j b p hp
  ·by_cases e:j=i
   ·subst e;rw[d] at hp;rw[Z0 g];apply m k g (.inr b) p hp
   ·rw[Z0 e] at hp;by_cases f:k=i
    ·subst f;rw[d];apply λz=>m j e (.inl b) p z hp
    ·rw[Z0 f];apply r.p5 j b k g p hp
 ·let d:s.set i (aA l)=s:=my (by omega);let f:U.set i (aA v)=U:=my (by rw[<-r.len];omega);let t:Ja bD (la s) i Ir=bD:=by funext j;delta Ja;rw[Fb (λz=>c z.2)]
  rw[d,f,t];apply r
def Rel.pF(r:Rel K O H0 bD s U H)(n:i∈O)(hp:p∈bD i)(B:U[i]?=aA (aA v))(f:i<la s)
  (h':Is K (upd H p o) l' v uh) (C:uh.Nodup) (A:∀q∈uh,H0 q=aB/\DK (upd H p o q)) (t:∀j,j≠i->∀q∈uh,q∉bD j) (G:DK (aA o)):Rel K O H0 (Ja bD (la s) i uh) (s.set i (aA l')) U (upd H p o):=by
 let g:=(r.own i n p hp).2;let F:=(r.own i n p hp).1;let l:Ja bD (la s) i uh i=uh:=UO f
 let tk:ua H (upd H p o):=⟨λb xs h=>by
  rw[a0 (λz=>by rw[z] at h;rw[h] at g;apply g)];apply h,λb o xs h=>by
  rw[a0 (λz=>by rw[z] at h;rw[h] at g;apply g)];apply h,λb o x h=>by
  rw[a0 (λz=>by rw[z] at h;rw[h] at g;apply g)];apply h⟩
 show⟨λb u h=>by rw[a0 (Zh h F)];apply r.same b u h,by rw[cq];apply r.len,λj a e=>?_,λj h=>?_,λj c=>?_,λj c q d=>?_,λj c k m q d=>?_⟩
 ·rw[bw] at e;by_cases c:i=j
  ·subst c;rw[Be rfl,Be f] at e;cases e;rw[l];apply⟨v,B,h'⟩
  ·rw[Fb c] at e;let⟨w,E,D⟩:=r.is j a e;rw[Z0 (bN c)];show⟨w,E,Is.IT tk _ _ _ (λq d=>Ld.of λu I=>?_) D⟩;let ne:q≠p:=λz=>r.p5 i n j (bN c) p hp (z▸d);rw[a0 ne];apply I
 ·by_cases c:i=j
  ·subst c;apply absurd (by rw[bw,Be rfl,Be f]) (h l')
  ·rw[Z0 (bN c)];apply r.uK j λa z=>h a (by rw[bw,Fb c];apply z)
 ·by_cases e:j=i
  ·subst e;rw[l];apply C
  ·rw[Z0 e];apply r.E3 j c
 ·by_cases e:j=i
  ·subst e;rw[l] at d;apply A q d
  ·rw[Z0 e] at d;show⟨(r.own j c q d).1,?_⟩;let ne:q≠p:=λz=>r.p5 j c i (bN e) q d (z▸hp);rw[a0 ne];apply(r.own j c q d).2
 ·by_cases e:j=i
  ·subst e;rw[l] at d;rw[Z0 m];apply t k m q d
  ·rw[Z0 e] at d;by_cases y:k=i
   ·subst y;rw[l];apply λz=>t j e q z d
   ·rw[Z0 y];apply r.p5 j c k m q d
end
def NH(a b:Gc):Prop:=a=b\/a=[]
def NH.refl(a:Gc):NH a a:=.inl rfl
def NH.trans(h:NH a b)(k:NH b c):NH a c:=by
 rcases h with rfl | h
 ·apply k
 ·apply .inr h
inductive D6 where
 | IA (s:ZG) | E7 (l:PV) | MM (s:ZG) | Bi (s:ZG)
abbrev XS:=ZG->Option D6
def AH(K:aH)(O W:Iw)(H0:Hp)(bD:L3)(U:NO)(D:B5):D6->Prop
 | .IA Kl=>∀u0 Fe H',Rel K O H0 u0 Kl Fe H'->(∀j,j∉W->Fe[j]?=U[j]?/\NH (u0 j) (bD j))->D.IA Fe H'
 | .MM Kl=>∀u0 Fe H',Rel K O H0 u0 Kl Fe H'->(∀j,j∉W->Fe[j]?=U[j]?/\NH (u0 j) (bD j))->D.MM Fe H'
 | .Bi Kl=>∀u0 Fe H',Rel K O H0 u0 Kl Fe H'->(∀j,j∉W->Fe[j]?=U[j]?/\NH (u0 j) (bD j))->D.Bi Fe H'
 | .E7 l=>∀v Ir H',MX H0 H'->Is K H' l v Ir->Ir.Nodup->(∀p∈Ir,H0 p=aB/\DK (H' p))->D.E7 v H'
def NW(K:aH)(O W:Iw)(f:XS):Di:=λD U H=>∃H0 bD s out,Rel K O H0 bD s U H/\f s=aA out/\AH K O W H0 bD U D out
def DO(X:Cx)(O W:Iw)(st:cJ)(f:XS):Prop:=Df X st (NW X.K O W f)
def Ls(X:Cx)(O W:Iw)(st:L_)(f:XS):Prop:=KJ X st (NW X.K O W f)
def AH.same(h:AH K O W' H0 bD U D out)(k:∀j,j∉W'->U1[j]?=U[j]?/\NH (zU j) (bD j))(hs:∀j,j∉W'->j∉W):AH K O W H0 zU U1 D out:=by
 cases out with
 | IA Kl=>apply λd b c r q=>h d b c r λj a=>⟨(q j (hs j a)).1.trans (k j a).1,(q j (hs j a)).2.trans (k j a).2⟩
 | MM Kl=>apply λd b c r q=>h d b c r λj a=>⟨(q j (hs j a)).1.trans (k j a).1,(q j (hs j a)).2.trans (k j a).2⟩
 | Bi Kl=>apply λd b c r q=>h d b c r λj a=>⟨(q j (hs j a)).1.trans (k j a).1,(q j (hs j a)).2.trans (k j a).2⟩
 | E7 l=>apply h
def AH.less(h:AH K O W H0 bD U D out)(e:MX H0 F):AH K O W F bD U D out:=by
 cases out with
 | IA Kl=>apply λc b a r q=>h c b a (r.less e) q
 | MM Kl=>apply λc b a r q=>h c b a (r.less e) q
 | Bi Kl=>apply λc b a r q=>h c b a (r.less e) q
 | E7 l=>apply λv g a f i d n=>h v g a (e.trans f) i d λp hp=>⟨MX.off e (n p hp).1,(n p hp).2⟩
def KI:XS:=λs=>aA (.IA s)
def BS(f g:XS):XS:=λs=>(f s).bind λo=>match o with | .IA Kl=>g Kl | r=>aA r
def HB(c:XT)(f g:XS):XS:=λs=>(c s).bind λk=>if k=aD then f s else g s
def Hv(f:XE):XS:=λs=>(f s).map .E7
def Hs(i:Nat)(f:XE):XS:=λs=>(f s).map λl=>.IA (s.set i (aA l))
section
variable {X:Cx}{O W W1 W2:Iw}{st:cJ}{tw:L_}{f g:XS}{pos:gy}
def Df.imp(h:Df X st t)(i:∀D U H,t' D U H->t D U H):Df X st t':=λa s U H D I q=>h a s U H D I (i D U H q)
def KJ.imp(h:KJ X tw t)(i:∀D U H,t' D U H->t D U H):KJ X tw t':=λa s U H D I q=>h a s U H D I (i D U H q)
def mi:∀D U H,NW K O W KI D U H->C1 D U H:=by ext D U H ⟨b,bD,s,a,r,e,k⟩;cases e;apply k bD U H r λj _=>⟨rfl,NH.refl _⟩
def ZP:Ls X O [] [] KI:=KJ.imp Zcx mi
def Zf(h:DO X O W st f):Ls X O W [st] f:=rz h
def Zd(y:DO X O W1 st f)(w:Ls X O W2 tw g):Ls X O (W1++W2) (st::tw) (BS f g):=KJ.imp (Q8 y w)<|by
 ext D U H ⟨q,bD,s,h,r,e,k⟩;let⟨t,x,e⟩:=Zc e;let a:∀j,j∉W1++W2->j∉W1:=λj b z=>b (aj _ z);let c:∀j,j∉W1++W2->j∉W2:=λj b z=>b (bA _ z);show⟨q,bD,s,t,r,x,?_⟩
 cases t with
 | IA s1=>
  ext d U1 A v u;apply⟨q,d,s1,h,v,e,k.same (λj b=>u j (a j b)) c⟩
 | MM s1=>cases e;apply λm p i o n=>k m p i o λj b=>n j (a j b)
 | Bi s1=>cases e;apply λm p i o n=>k m p i o λj b=>n j (a j b)
 | E7 l=>cases e;apply k
def YQ(n:FY X c fc)(p:Ls X O W1 a f)(q:Ls X O W2 b g):DO X O (W1++W2) (.If c a b pos) (HB fc f g):=Df.imp (Zgb n p q)<|by
 ext D U H ⟨m,bD,s,d,r,e,k⟩;let⟨c,o,e⟩:=Zc e;let i:∀j,j∉W1++W2->j∉W1:=λj l z=>l (aj _ z);let h:∀j,j∉W1++W2->j∉W2:=λj l z=>l (bA _ z);show⟨λ_=>False,s,c,λ_ z=>z.elim,r.env,o,λt s1=>?_⟩
 cases c with
 | true=>
  apply⟨m,bD,s,d,r.grow s1,e,k.same (λj _=>⟨rfl,NH.refl _⟩) i⟩
 | false=>
  apply⟨m,bD,s,d,r.grow s1,e,k.same (λj _=>⟨rfl,NH.refl _⟩) h⟩
def Zs(g:M3 X e fe):DO X O [] (.Return (aA e) pos) (Hv fe):=Df.imp (PE g)<|by ext D U H ⟨j,bD,s,a,r,e,k⟩;let⟨l,f,rfl⟩:=map_some e;apply⟨s,l,r.env,f,λv b h c i d n=>k v h b (r.same.trans c) i d λp hp=>⟨MX.off r.same (n p hp).1,(n p hp).2⟩⟩
def WK(f:DC X e (KU i))(c:i∈O|>Op):DO X O [] (.Return (aA e) pos) (Hv (Dz i)):=Df.imp (PE f)<|by ext D U H ⟨h,bD,s,d,r,e,k⟩;let⟨l,g,rfl⟩:=map_some e;let⟨v,a,b⟩:=r.is i l (Rw g);apply⟨v,a,k v _ H r.same b (r.E3 i c) (r.own i c)⟩
def p'(g:∀U H Q,AG K fe U H Q->t U H Q):∀D U H,NW K O [i] (Hs i fe) D U H->Ht t (H9 i) D U H:=by
 ext D U H ⟨m,bD,s,a,r,e,k⟩;let⟨l,h,rfl⟩:=map_some e;show g U H _ ⟨s,l,r.env,h,λv c o f is d n=>?_⟩;show k _ _ c ((r.grow f).set is (λ_=>⟨d,λp hp=>⟨MX.off r.same (n p hp).1,(n p hp).2⟩⟩) λj _ _ p hp z=>r.oi j p z (n p hp).1) λj b=>?_;have:j≠i:=by simpa using b
 apply⟨by rw[bw,Fb (bN this)],.inl (Z0 this)⟩
def Y9(a:X.N.Nodup)(f:X.N[i]?=aA x)(c:BP X.env.scope x)(b:M3 X e fe)(hs:iH e (aA (.Name x pos')) pos.line X.env=pure aC|>On)(d:X.fn x=aD\/X.env.scope.names.lookup x=aA .local|>Pv) :
  DO X O [i] (.Assign [.Name x pos'] e pos) (Hs i fe):=Df.imp (Zhs a f c b hs d) (p' λ_ _ _ h=>h)
end
def KR(T:oo)(fb:XS):List PV->ZG->Option D6
 | [],s=>aA (.IA s)
 | l::r,s=>(NQ T l s).bind λs1=>(fb s1).bind λo=>match o with | .IA s2=>KR T fb r s2 | .Bi s2=>KR T fb r s2 | .MM s2=>aA (.IA s2) | .E7 v=>aA (.E7 v)
def FP(O:Iw)(fi:XL)(T:oo)(fb:XS):XS:=λs=>(fi (D9 O s)).bind λls=>KR T fb ls s
theorem Rel.HP:∀{is:Iw}{ls:List PV}{vs:List V}{fs:Gc}{bD:L3}{s:ZG}{U:NO},Rel K O H0 bD s U H->KA K H ls vs fs->la ls=la is->(∀i∈is,i∉O)->(∀i∈O,∀p∈bD i,p∉fs)->
  ∃h,Rel K O H0 h (_v.HP is ls s) (Eb is vs U) H/\∀j,j∉is->(Eb is vs U)[j]?=U[j]?/\NH (h j) (bD j)
 | [],ls,vs,fs,bD,s,U,r,_,_,_,_=>⟨bD,by delta _v.HP Eb;apply r,λj _=>⟨by delta Eb;rfl,NH.refl _⟩⟩
 | i::is,[],vs,fs,bD,s,U,r,_,Fg,_,_=>by simp at Fg
 | i::is,l::ls,vs,fs,bD,s,U,r,E5,Fg,hO,hd=>by
  let⟨x,t,f1,u,rfl,o,n,rfl⟩:=E5.inv;let g:=hO i ah
  let m:=r.set (i:=i) o (λz=>absurd z g) λj f c p hp z=>by
   rcases c with c | c
   ·apply hd j c p z (aj _ hp)
   ·apply absurd c g
  let⟨h,k,q⟩:=Rel.HP (is:=is) m n (~~~Fg) (λj f=>hO j (aR _ f)) λj f p hp z=>by let d:j≠i:=λe=>g (by rw[<-e];apply f);rw[Z0 d] at hp;apply hd j f p hp (bA _ z)
  show⟨h,k,λj f=>?_⟩;let d:j≠i:=λe=>f (e▸ah);let⟨a,b⟩:=q j (λz=>f (aR _ z));apply⟨a.trans (by rw[bw,Fb (bN d)]),b.trans (.inl (Z0 d))⟩
section
variable {O W:Iw}{T:oo}{fb:XS}
def PH(r:Rel K O (DR H1 (Lh O bD)) bD s U H1)(w:yZ K (Lh O bD) H1 J ls)(e:KR T fb ls s=aA out)(Z:∀i∈T.slots,i∉O)
  (k:AH K O (T.slots++W) (DR H1 (Lh O bD)) bD U D out):B_ (HW K T) (NW K O W fb) D U J H1:=by
 let u:∀j,j∉T.slots++W->j∉T.slots:=λj a z=>a (aj _ z);let c:∀j,j∉T.slots++W->j∉W:=λj a z=>a (bA _ z)
 show⟨λi m F A=>m=ls.length-i/\i<=ls.length/\∃I N,Rel K O (DR H1 (Lh O bD)) I N F A/\KR T fb (ls.drop i) N=aA out/\∀j,j∉T.slots++W->F[j]?=U[j]?/\NH (I j) (bD j),
  ⟨ls.length,⋯,dH _,bD,s,r,e,λj _=>⟨rfl,NH.refl _⟩⟩,?_⟩
 ext i m F A ⟨rfl,E5,I,N,M,f,Q⟩;let ab:=λb o h n=>M.same b o (by delta DR;rw[Fb n];apply h)
 cases q:ls.drop i with
 | nil=>
  let P:i=ls.length:=by let:=congrArg fK q;simp at this;omega
  subst P;rw[q] at f;cases f;apply .inl ⟨w.stop A ab,k I F A M Q⟩
 | cons l Dj=>
  let⟨R,Y⟩:=PD q;let G:=(aS.mp R).1;rw[q] at f;let⟨sb,eb,f⟩:=Zc f;let⟨o,eo,f⟩:=Zc f
  show .inr ⟨w.go A i l ab R,λNB L=>∃uI s2,Rel K O (DR H1 (Lh O bD)) uI s2 NB L/\KR T fb (ls.drop (i+1)) s2=aA out/\∀j,j∉T.slots++W->NB[j]?=U[j]?/\NH (uI j) (bD j),
   λNB L ID=>⟨ls.length-(i+1),by omega,rfl,G,ID⟩,λx L y=>?_⟩
  let⟨s2,fx,Bm,IA⟩:=w.BF A i l x L ab R y;let⟨Iv,bv,bf,rfl,bi,H,B,E⟩:=Xt Bm eb;let⟨g,abq,X⟩:=Rel.HP (M.grow s2) bi H Z λj a p hp z=>by let⟨n1,n2⟩:=IA p (B p z);let:=(M.own j a p hp).1;delta DR at this;rw[Fb n2] at this;apply n1 this
  show E _ _ ⟨_,g,_,o,abq,eo,?_⟩;let keep:∀j,j∉T.slots++W->(Eb T.slots bv F)[j]?=U[j]?/\NH (g j) (bD j):=λj a=>⟨(X j (u j a)).1.trans (Q j a).1,(X j (u j a)).2.trans (Q j a).2⟩
  cases o with
  | IA s4=>apply λd U4 S C t=>⟨d,s4,C,by rw[Y];apply f,λj a=>⟨(t j (c j a)).1.trans (keep j a).1,(t j (c j a)).2.trans (keep j a).2⟩⟩
  | Bi s4=>apply λd U4 S C t=>⟨d,s4,C,by rw[Y];apply f,λj a=>⟨(t j (c j a)).1.trans (keep j a).1,(t j (c j a)).2.trans (keep j a).2⟩⟩
  | MM s4=>
   cases f;apply λd U4 S C t=>k d U4 S C λj a=>⟨(t j (c j a)).1.trans (keep j a).1,(t j (c j a)).2.trans (keep j a).2⟩
  | E7 v=>
   cases f;apply k
end
section
variable {X:Cx}{O W:Iw}{IC iter:bS}{body:L_}{fi:XL}{T:oo}{fb:XS}{pos:gy}
def Zi1(hp:pT (model X.prog X.w) X.A X.env X.Bk)(c:X.calm=aD)(j:Nj X IC iter fi)(g:Aj X IC (HW X.K T))(h:Ls X O W body fb)(d:(∀i∈T.slots,i∉O)|>Op)
  (hs:(∀x,cY iter X.env x=pure x)|>Pi):DO X O (T.slots++W) (.For IC iter body [] pos) (FP O fi T fb):=Df.imp (SP hp c j g h hs) λD U H ⟨l,bD,s,b,r,e,k⟩=>by
 let⟨ls,f,e⟩:=Zc e;show⟨Lh O bD,D9 O s,ls,r.w4,r.zV,f,λJ m s1 a=>?_⟩;apply PH (r.grow s1).frame a e d (k.less (r.grow s1).under)
end
def Lk(c:XT)(fb:XS):Nat->ZG->Option D6
 | 0,_=>aB
 | n+1,s=>(c s).bind λk=>if k=aD then(fb s).bind λo=>match o with | .IA s2=>Lk c fb n s2 | .Bi s2=>Lk c fb n s2 | .MM s2=>aA (.IA s2) | .E7 v=>aA (.E7 v) else aA (.IA s)
def UA:∀{n:Nat}{s:ZG}{o:D6},Lk c fb n s=aA o->Lk c fb (n+1) s=aA o
 | 0,_,_,h=>by cases h
 | n+1,s,o,h=>by
  delta Lk at h ⊢;let⟨k,d,h⟩:=Zc h;rw[d]
  cases k with
  | false=>apply h
  | true=>
   rw[Be rfl] at h;let⟨a,b,h⟩:=Zc h;dsimp[aY,if_true,b]
   cases a with
   | IA s2=>apply UA h
   | Bi s2=>apply UA h
   | MM s2=>apply h
   | E7 v=>apply h
def TH(h:Lk c fb n s=aA o)(a:n<=m):Lk c fb m s=aA o:=by
 induction m with
 | zero=>
  have:n=0:=by omega
  subst this;apply h
 | succ m E2=>
  by_cases e:n=m+1
  ·subst e;apply h
  ·apply UA (E2 (by omega))
open Classical in
def Gd(c:XT)(fb:XS):XS:=λs=>if h:∃n,(Lk c fb n s).isSome=aD then Lk c fb h.choose s else aB
def hl(h:Lk c fb n s=aA o):Gd c fb s=aA o:=by
 let a:∃n,(Lk c fb n s).isSome=aD:=⟨n,by rw[h];rfl⟩;delta Gd;rw[dif_pos a];let⟨d,e⟩:=dk.mp a.choose_spec;rw[e];rcases Nat.le_total n a.choose with b | b
 ·rw[TH h b] at e;apply e.symm
 ·rw[TH e b] at h;apply h
section
variable {X:Cx}{O W:Iw}{c:bS}{body:L_}{fc:XT}{fb:XS}{pos:gy}
def Zk(hp:pT (model X.prog X.w) X.A X.env X.Bk)(B:FY X c fc)(I:Ls X O W body fb):DO X O W (.While c body [] pos) (Gd fc fb):=Df.imp (tr hp B I)<|by
 ext D U H ⟨w,bD,s,i,r,e,k⟩;delta Gd at e;split at e
 case isFalse=>cases e
 rename_i E;generalize E.choose=n at e;show⟨λm u A=>∃p l,Rel X.K O w p l u A/\Lk fc fb m l=aA i/\∀j,j∉W->u[j]?=U[j]?/\NH (p j) (bD j),⟨n,bD,s,r,e,λj _=>⟨rfl,NH.refl _⟩⟩,?_⟩;ext m u A ⟨p,l,y,f,h⟩
 cases m with
 | zero=>cases f
 | succ m=>
  let⟨b,G,f⟩:=Zc f;show⟨λ_=>False,l,b,λ_ z=>z.elim,y.env,G,λt s2=>?_⟩
  cases b with
  | false=>
   cases f;apply k p u t (y.grow s2) h
  | true=>
   let⟨o,C,f⟩:=Zc f;show⟨λNB t=>∃uI s2,Rel X.K O w uI s2 NB t/\Lk fc fb m s2=aA i/\∀j,j∉W->NB[j]?=U[j]?/\NH (uI j) (bD j),λNB t F=>⟨m,iK m,F⟩,w,p,l,o,y.grow s2,C,?_⟩
   cases o with
   | IA s4=>apply λa U4 x q g=>⟨a,s4,q,f,λj d=>⟨(g j d).1.trans (h j d).1,(g j d).2.trans (h j d).2⟩⟩
   | Bi s4=>apply λa U4 x q g=>⟨a,s4,q,f,λj d=>⟨(g j d).1.trans (h j d).1,(g j d).2.trans (h j d).2⟩⟩
   | MM s4=>
    cases f;apply λa U4 x q g=>k a U4 x q λj d=>⟨(g j d).1.trans (h j d).1,(g j d).2.trans (h j d).2⟩
   | E7 v=>cases f;apply k
end
variable {K:aH}
section
variable {O:Iw}{H0 H H':Hp}{bD:L3}{s:ZG}{U:NO}
def Rel.lB(r:Rel K O H0 bD s U H)(g:i∈O)(e:s[i]?=aA (aA (.lst m))):∃p xs c,U[i]?=aA (aA (.ref p))/\H p=aA (.lst xs)/\KA K H m xs c/\bD i=p::c:=by let⟨v,a,b⟩:=r.is i _ e;let⟨p,xs,c,rfl,hp,d,f⟩:=b.lst_inv;apply⟨p,xs,c,a,hp,d,f⟩
def Rel.xD(r:Rel K O H0 bD s U H)(j:i∈O)(e:s[i]?=aA (aA (.E6 ks m))):∃p Bg c,U[i]?=aA (aA (.ref p))/\H p=aA (.E6 Bg)/\Bg.map (·.1)=ks/\KA K H m (Bg.map (·.2)) c/\bD i=p::c:=by
 let⟨v,a,b⟩:=r.is i _ e;let⟨p,xs,c,rfl,hp,h,g,d⟩:=b.nu;show⟨p,xs,c,a,?_,h,g,d⟩;let f:=(r.own i j p (by rw[d];apply ah)).2;rcases hp with hp | ⟨o,hp⟩
 ·apply hp
 ·rw[hp] at f;apply f.elim
def Rel.xE(r:Rel K O H0 bD s U H)(j:i∈O)(e:s[i]?=aA (aA (.IK ks m))):∃p Bg c,U[i]?=aA (aA (.ref p))/\H p=aA (.IK Bg)/\Bg.map (·.1)=ks/\KA K H m (Bg.map (·.2)) c/\bD i=p::c:=by
 let⟨v,a,b⟩:=r.is i _ e;let⟨p,xs,c,rfl,hp,h,g,d⟩:=b.p_;show⟨p,xs,c,a,?_,h,g,d⟩;let f:=(r.own i j p (by rw[d];apply ah)).2;rcases hp with hp | ⟨o,hp⟩
 ·apply hp
 ·rw[hp] at f;apply f.elim
def U7{l:List α}{i:Nat}{a:α}(h:l[i]?=aA a):i<la l:=(aS.mp h).1
def Jl.uc(a:DK (H p)):ua H (_l.upd H p o):=⟨λb xs h=>by
 rw[a0 (λz=>by rw[z] at h;rw[h] at a;apply a)];apply h,λb o xs h=>by
 rw[a0 (λz=>by rw[z] at h;rw[h] at a;apply a)];apply h,λb o x h=>by
 rw[a0 (λz=>by rw[z] at h;rw[h] at a;apply a)];apply h⟩
def Ld.a0(ne:q≠p):Ld H (_l.upd H p o) q:=Ld.of λu a=>by rw[_l.a0 ne];apply a
def Rel.nk(r:Rel K O H0 bD s U H)(c:i∈O){m o:List PV}(e:s[i]?=aA (aA (.lst m))){p:aM}{g b:Gc}{d:List V}(f:bD i=p::g)(t:U[i]?=aA (aA (.ref p)))
  (h':KA K H o d b) (n:(p::b).Nodup) (l:∀q∈b,q∈g\/((H0 q=aB/\DK (H q))/\∀j,q∉bD j)):Rel K O H0 (Ja bD (la s) i (p::b)) (s.set i (aA (.lst o))) U (_l.upd H p (.lst d)):=by
 let hp:p∈bD i:=by rw[f];apply ah
 let u:=(r.own i c p hp).2;let np:=(au.mp n).1;show r.pF c hp t (U7 e) (Is.lst a_ (KA.IT (Jl.uc u) _ _ _ (λq a=>Ld.a0 λz=>np (z▸a)) h')) n (λq a=>?_) (λj k q a z=>?_) cE
 ·rcases aW.mp a with rfl | a
  ·apply⟨(r.own i c q hp).1,by rw[a_];apply cE⟩
  ·let ne:q≠p:=λz=>np (z▸a);rw[_l.a0 ne];rcases l q a with h | h
   ·apply r.own i c q (by rw[f];apply aR _ h)
   ·apply h.1
 ·rcases aW.mp a with rfl | a
  ·apply r.p5 i c j k q hp z
  ·rcases l q a with h | h
   ·apply r.p5 i c j k q (by rw[f];apply aR _ h) z
   ·apply h.2 j z
end
def Lu(s:ZG)(i:Nat):Option (List PV):=match s[i]? with | some (aA (.lst m))=>aA m | _=>aB
def D8:PV->Option Int
 | .int k=>aA k
 | _=>aB
def A6:PV->Option (List PV)
 | .lst k=>aA k
 | _=>aB
def Ve(h:Lu s i=aA m):s[i]?=aA (aA (.lst m)):=by
 delta Lu at h;split at h
 ·cases h;assumption
 ·cases h
def UC(h:D8 a=aA k):a = .int k:=by
 delta D8 at h;split at h
 ·cases h;rfl
 ·cases h
def yT(h:A6 a=aA k):a = .lst k:=by
 delta A6 at h;split at h
 ·cases h;rfl
 ·cases h
def NN(c:Bool):Option Unit:=if c=aD then aA .unit else aB
def VD(h:NN c=aA u):c=aD:=by
 delta NN at h;split at h
 ·assumption
 ·cases h
def Ln(i:Nat)(f:XE):XS:=λs=>(f s).bind λl=>(Lu s i).bind λm=>(NN (decide (m.length<=10000))).bind λ_=>aA (.IA (s.set i (aA (.lst (m++[l])))))
def Es(i:Nat)(f:XE):XS:=λs=>(f s).bind λl=>(A6 l).bind λn=>(Lu s i).bind λm=>(NN (decide (m.length+n.length<=10000))).bind λ_=>aA (.IA (s.set i (aA (.lst (m++n)))))
def N9(i:Nat)(fk:XE)(f:XE):XS:=λs=>(fk s).bind λk=>(f s).bind λl=>(D8 k).bind λk=>(Lu s i).bind λm=>(NN (BW m&&HA l&&decide (0<=k/\k<=1000000/\m.length<=10000))).bind λ_=>aA (.IA (s.set i (aA (.lst (m.take k.toNat++l::m.drop k.toNat)))))
def JC(i:Nat)(fk:XE)(f:XE):XS:=λs=>(f s).bind λl=>(fk s).bind λk=>(D8 k).bind λk=>(Lu s i).bind λm=>(NN (BW m&&HA l)).bind λ_=>(Kw m.length k).map λj=>.IA (s.set i (aA (.lst (m.set j l))))
section
variable {X:Cx}{O:Iw}{i:Nat}{st:cJ}{f fk:XE}
def x_(h:H p=aA (.lst xs)):CD K "list" (.ref p) H:=.inl ⟨rfl,_,BZ.of h⟩
def R9{s:ZG}{U:NO}{bD:L3}{b:Gc}:∀j,j∉[i]->U[j]?=U[j]?/\NH (Ja bD (la s) i b j) (bD j):=λj a=>⟨rfl,.inl (Z0 (~~~a))⟩
def Y3(h:Df X st (NA (Ex X.K "list" FR (KU i) (As (AG X.K f) M6))))(o:i∈O|>Op):DO X O [i] st (Ln i f):=Df.imp h<|by
 ext D U H ⟨L,bD,s,x,r,e,k⟩;let⟨l,F,e⟩:=Zc e;let⟨m,c,e⟩:=Zc e;let⟨_,B,e⟩:=Zc e;let c:=Ve c;let w:=of_decide_eq_true (VD B);cases e;let⟨p,xs,J,u,hp,t,d⟩:=r.lB o c;show⟨.ref p,u,x_ hp,s,l,r.env,F,λy M N s2 C E n=>?_⟩;show⟨p,xs,y,rfl,rfl,s2 _ _ hp,by rw[t.len];apply lt_size (by omega),?_⟩;let A:=r.grow s2;let fr:=λq g j z=>r.oi j q z (n q g).1;show k _ _ _ (A.nk o c d u ((t.mono s2).append (KA.one C)) ?_ λq g=>?_) R9
 ·let v:=r.E3 i o;rw[d] at v;apply dt.mpr ⟨v,E,λa G b I z=>fr b I i (by rw[d,<-z];apply G)⟩
 ·rcases ag.mp g with h | h
  ·apply .inl h
  ·apply .inr ⟨⟨MX.off r.same (n q h).1,(n q h).2⟩,fr q h⟩
def Vy(h:Df X st (NA (Ex X.K "list" FT (KU i) (As (AG X.K f) M6))))(v:i∈O|>Op):DO X O [i] st (Es i f):=Df.imp h<|by
 ext D U H ⟨R,bD,s,F,r,e,k⟩;let⟨l,C,e⟩:=Zc e;let⟨n,M,e⟩:=Zc e;let⟨m,c,e⟩:=Zc e;let⟨_,J,e⟩:=Zc e;rw[yT M] at C;let c:=Ve c;let E:=of_decide_eq_true (VD J);cases e;let⟨p,xs,Q,x,hp,w,d⟩:=r.lB v c;show⟨.ref p,x,x_ hp,s,_,r.env,C,λy S T s2 L N u=>?_⟩;let⟨b,I,fb,rfl,t,B,rfl⟩:=L.lst_inv;let o:=t;show⟨p,b,xs,I,rfl,rfl,s2 _ _ hp,o,by rw[w.len,B.len];apply eK (lt_size (by omega)),?_⟩;let G:=r.grow s2;let fr:=λq g j z=>r.oi j q z (u q (aR _ g)).1;show k _ _ _ (G.nk v c d x ((w.mono s2).append B) ?_ λq g=>?_) R9
 ·let A:=r.E3 i v;rw[d] at A;apply dt.mpr ⟨A,(au.mp N).2,λa P b t z=>fr b t i (by rw[d,<-z];apply P)⟩
 ·rcases ag.mp g with h | h
  ·apply .inl h
  ·apply .inr ⟨⟨MX.off r.same (u q (aR _ h)).1,(u q (aR _ h)).2⟩,fr q h⟩
def KA.g_(h:KA K H l xs Ir)(hp:BW l=aD):KA K H l xs []:=by let:=KA.pure _ _ _ hp h;subst this;apply h
def S_(n:Nat)(h:BW l=aD):BW (l.take n)=aD:=by rw[X8,bK] at *;apply λx a=>h x (eD a)
def T_(n:Nat)(h:BW l=aD):BW (l.drop n)=aD:=by rw[X8,bK] at *;apply λx a=>h x (gL a)
def hn(h:Df X st (NA (Ex X.K "list" F1 (KU i) (As (NF X.K fk) (As (NF X.K f) M6)))))(A:i∈O|>Op):DO X O [i] st (N9 i fk f):=Df.imp h<|by ext D U H ⟨L,bD,s,B,r,e,k⟩;let⟨N,t,e⟩:=Zc e;let⟨l,I,e⟩:=Zc e;let⟨g,ek,e⟩:=Zc e;let⟨m,c,e⟩:=Zc e;let⟨_,C,e⟩:=Zc e;rw[UC ek] at t;let c:=Ve c;let u:=VD C;dsimp[aX,decide_eq_true_eq] at u;let⟨⟨d,pl⟩,k0,k1,x⟩:=u;cases e;let⟨p,xs,J,v,hp,o,F⟩:=r.lB A c;show⟨.ref p,v,x_ hp,λ_=>False,s,_,λ_ z=>z.elim,r.env,t,λz S R s1 E _=>⟨λ_=>False,s,l,λ_ z=>z.elim,r.env.mono s1,I,λy P Q s2 w _=>?_⟩⟩;let a:=s1.trans s2;let⟨rfl,_⟩:=E.int_inv;let:=Is.pure _ _ _ pl w;subst this;show⟨p,xs,g,y,rfl,rfl,a _ _ hp,k0,by omega,by rw[o.len];apply lt_size (by omega),?_⟩;let b:=(o.mono a).g_ d;let⟨f1,n,_⟩:=b.take g.toNat;let⟨M,j,_⟩:=b.drop g.toNat;let n:=n.g_ (S_ _ d);let j:=j.g_ (T_ _ d);apply k _ _ _ ((r.grow a).nk A c F v (n.append (KA.cons w j)) ⋯ λq G=>by simp at G) R9
def vu(h:Df X st (Ht (NF X.K f) (D_ (KU i) (NF X.K fk) B4)))(u:i∈O|>Op):DO X O [i] st (JC i fk f):=Df.imp h<|by ext D U H ⟨I,bD,s,v,r,e,k⟩;let⟨l,w,e⟩:=Zc e;let⟨L,t,e⟩:=Zc e;let⟨F,ek,e⟩:=Zc e;let⟨m,b,e⟩:=Zc e;let⟨_,x,e⟩:=Zc e;rw[UC ek] at t;let b:=Ve b;let d:=VD x;dsimp[aX] at d;let⟨o,pl⟩:=d;let⟨j,B,rfl⟩:=map_some e;let⟨p,xs,G,g,hp,c,C⟩:=r.lB u b;show⟨λ_=>False,s,l,λ_ z=>z.elim,r.env,w,λy P J s1 n _=>?_⟩;show⟨.ref p,g,λ_=>False,s,_,λ_ z=>z.elim,r.env.mono s1,t,λz M N s2 A _=>?_⟩;let a:=s1.trans s2;let⟨rfl,_⟩:=A.int_inv;let:=Is.pure _ _ _ pl n;subst this;show⟨p,xs,F,j,rfl,rfl,a _ _ hp,by rw[c.len];apply B,?_⟩;apply k _ _ _ ((r.grow a).nk u b C g (KA.vG j o pl ((c.mono a).g_ o) (n.mono s2)) ⋯ λq E=>by simp at E) R9
end
def KA.uD:∀{m:List PV}{xs:List V}{fq:Gc}{j:Nat}{n n':List PV}{q:aM},KA K H m xs fq->m[j]?=aA (.lst n)->xs[j]?=aA (.ref q)->fq.Nodup->DK (H q)->BW n=aD->KA K (_l.upd H q (.lst o)) n' o []->
  KA K (_l.upd H q (.lst o)) (m.set j (.lst n')) xs fq
 | [],_,_,_,_,_,_,_,e,_,_,_,_,_=>by simp at e
 | a::m,xs,fq,0,n,n',q,h,e,ex,E3,mu,Dp,h'=>by let⟨x,r,f1,l,rfl,k,d,rfl⟩:=h.inv;simp at e ex;subst e ex;let⟨w,s,A,e,hp,b,rfl⟩:=k.lst_inv;cases e;let:=KA.pure _ _ _ Dp b;subst this;let f:q∉l:=(au.mp E3).1;apply KA.cons (Is.lst a_ h') (KA.IT (Jl.uc mu) _ _ _ (λz b=>Ld.a0 λe=>f (e▸b)) d)
 | a::m,xs,fq,j+1,n,n',q,h,e,ex,E3,mu,Dp,h'=>by let⟨x,r,f1,l,rfl,k,d,rfl⟩:=h.inv;simp at e ex;let⟨t,g,i⟩:=dt.mp E3;let⟨y,B,p,v,c⟩:=d.get e;rw[ex] at p;cases p;let⟨w,s,A,u,_,_,rfl⟩:=v.lst_inv;cases u;let f:q∉f1:=λz=>i q z q (c q ah) rfl;apply KA.cons (Is.IT (Jl.uc mu) _ _ _ (λz b=>Ld.a0 λe=>f (e▸b)) k) (KA.uD d e ex g mu Dp h')
def Cm(i:Nat)(fa fb:XE)(f:XE):XS:=λs=>(f s).bind λl=>(fa s).bind λa=>(fb s).bind λb=>(D8 a).bind λa=>(D8 b).bind λb=>(Lu s i).bind λm=>(Kw m.length a).bind λj=>(m[j]?).bind λr=>(A6 r).bind λn=>
 (NN (BW n&&HA l)).bind λ_=>(Kw n.length b).map λc=>.IA (s.set i (aA (.lst (m.set j (.lst (n.set c l))))))
def Pq{O:Iw}{i:Nat}{st:cJ}{f T fb:XE}(h:Df X st (Ht (NF X.K f) (D_ (LI (JJ X.K) (KU i) (NF X.K T)) (NF X.K fb) B4)))(x:i∈O|>Op):DO X O [i] st (Cm i T fb f):=Df.imp h<|by
 ext D U H ⟨H0,bD,s,out,r,e,k⟩;let⟨l,e0,e⟩:=Zc e;let⟨a,Y,e⟩:=Zc e;let⟨b,e2,e⟩:=Zc e;let⟨ai,ea,e⟩:=Zc e;let⟨bi,eb,e⟩:=Zc e;let⟨m,F,e⟩:=Zc e;let⟨j,aap,e⟩:=Zc e;let⟨FJ,J,e⟩:=Zc e;let⟨n,er,e⟩:=Zc e;let⟨_,eg,e⟩:=Zc e;rw[UC ea] at Y;rw[UC eb] at e2;rw[yT er] at J;let F:=Ve F;let S:=VD eg;dsimp[aX] at S;let⟨P,pl⟩:=S;let⟨c,Hi,rfl⟩:=map_some e;let⟨p,xs,fq,IU,hp,Q,A⟩:=r.lB x F;show⟨λ_=>False,s,l,λ_ z=>z.elim,r.env,e0,λy H1 fy s1 i1 _=>?_⟩;show⟨.ref p,IU,λ_=>False,s,_,λ_ z=>z.elim,r.env.mono s1,Y,λz H2 fz s2 i2 _=>?_⟩;let⟨rfl,_⟩:=i2.int_inv;let u:=s1.trans s2;let⟨q,f1,t,iq,v⟩:=(Q.mono u).get J;let⟨o,L,fz',rfl,N,W,rfl⟩:=id iq.lst_inv;show⟨p,xs,ai,.ref o,rfl,rfl,BZ.of (u _ _ hp),?_,λ_=>False,s,_,λ_ z=>z.elim,r.env.mono u,e2,λw H3 fw I i3 _=>?_⟩
 ·delta HG;rw[Q.len,aap];apply t
 let⟨rfl,_⟩:=i3.int_inv;let d:=u.trans I;let R:=r.grow d;let E:o∈bD i:=by rw[A];apply aR _ (v o ah)
 let Z:=(R.own i x o E).2;let C:=I _ _ N;let:=Is.pure _ _ _ pl i1;subst this;show⟨o,L,bi,c,rfl,rfl,C,by rw[W.len];apply Hi,?_⟩;let G:=r.E3 i x;rw[A] at G;let M:o≠p:=λz=>(au.mp G).1 (z▸v o ah);let g:KA X.K (_l.upd H3 o (.lst (L.set c y))) (n.set c l) (L.set c y) []:=KA.IT (Jl.uc Z) _ _ _ (λq t=>by simp at t) (KA.vG c P pl ((W.mono I).g_ P) (i1.mono (s2.trans I)));let B:=KA.uD (Q.mono d) J t (au.mp G).2 Z P g;show k _ _ _ (R.pF x E IU (U7 F) (Is.lst (by rw[_l.a0 (bN M)];apply d _ _ hp) B) G (λq t=>?_) (λj hj q t z=>r.p5 i x j hj q (by rw[A];apply t) z) cE) R9;show⟨(r.own i x q (by rw[A];apply t)).1,?_⟩;by_cases e:q=o
 ·subst e;rw[a_];apply cE
 ·rw[_l.a0 e];apply(R.own i x q (by rw[A];apply t)).2
variable {K:aH}
def Jb:PV->Option MJ
 | .int i=>aA (.inl i)
 | .str x=>aA (.inr x)
 | _=>aB
def Ec:List PV->Option (List MJ)
 | []=>aA []
 | a::r=>(Jb a).bind λk=>(Ec r).map (k::·)
def Jc:PV->Option (List MJ)
 | .tup l=>Ec l
 | _=>aB
def JU:MJ->PV
 | .inl i=>.int i
 | .inr x=>.str x
def yb(e:Jb a=aA k)(h:Is K H a v Ir):v=FH k/\Ir=[]:=by
 cases a with
 | int i=>cases e;apply h.int_inv
 | str x=>cases e;apply h.str_inv
 | _=>cases e
def yU:∀{l:List PV}{ks:List MJ}{xs:List V}{Ir:Gc},Ec l=aA ks->KA K H l xs Ir->xs=ks.map FH/\Ir=[]
 | [],ks,xs,Ir,e,h=>by cases e;simpa only[kJ,KA] using h
 | a::r,ks,xs,Ir,e,h=>by let⟨k,d,e⟩:=Zc (show(Jb a).bind (λk=>(Ec r).map (k::·))=aA ks from e);let⟨j,b,rfl⟩:=map_some e;let⟨x,g,f1,i,rfl,f,c,rfl⟩:=h.inv;let⟨rfl,rfl⟩:=yb d f;let⟨rfl,rfl⟩:=yU b c;apply⟨rfl,rfl⟩
def Xp(e:Jc a=aA k)(h:Is K H a v Ir):∃b,v = .ref b/\H b=aA (.tup (k.map FH)):=by
 cases a with
 | tup l=>
  let⟨p,xs,rfl,hp,c⟩:=h.b_;let⟨rfl,_⟩:=yU (e) c;apply⟨p,rfl,hp⟩
 | _=>cases e
def Zl0(k:MJ):Is K H (JU k) (FH k) []:=by
 cases k with
 | inl i=>apply Is.int i
 | inr x=>apply Is.str x
def nL:∀(ks:List MJ),KA K H (ks.map JU) (ks.map FH) []
 | []=>KA.nil
 | k::r=>KA.cons (f1:=[]) (Zl0 k) (nL r)
section
variable {κ:Type} [DecidableEq κ]
def HM(ks:List κ)(vs:List PV)(k:κ):Option PV:=((ks.zip vs).find? λz=>decide (z.1=k)).map (·.2)
def Et(ks:List κ)(k:κ):List κ:=if k∈ks then ks else ks++[k]
def Gh(ks:List κ)(vs:List PV)(k:κ)(v:PV):List PV:=if k∈ks then(ks.zip vs).map λz=>if z.1=k then v else z.2 else vs++[v]
def PN:∀{Bg:List (κ×V)}{l:List PV}{fq:Gc}(k:κ),KA K H l (Bg.map (·.2)) fq->
  (HM (Bg.map (·.1)) l k=aB/\K8 Bg k=aB)\/∃a x f,HM (Bg.map (·.1)) l k=aA a/\K8 Bg k=aA x/\Is K H a x f/\∀p∈f,p∈fq
 | [],l,fq,k,h=>.inl ⟨by delta HM;simp,rfl⟩
 | Hd::r,[],fq,k,h=>by let:=h.len;simp at this
 | Hd::r,a::l,fq,k,h=>by
  let⟨x,n,f1,o,e,m,i,rfl⟩:=h.inv;cases e;by_cases c:Hd.1=k
  ·show .inr ⟨a,Hd.2,f1,?_,Si c,m,λp hp=>aj _ hp⟩;delta HM;rw[aa,gA,ie];simp[c]
  ·let j:HM ((Hd::r).map (·.1)) (a::l) k=HM (r.map (·.1)) l k:=by delta HM;rw[aa,gA,ie];simp[c]
   rw[j,Sj c];rcases PN (l:=l) k i with z | ⟨b,y,f,z1,z2,d,g⟩
   ·apply .inl z
   ·apply .inr ⟨b,y,f,z1,z2,d,λp hp=>bA _ (g p hp)⟩
def mv{a:List (κ×V)}{k:κ}:(a.any λb=>decide (b.1=k))=aD↔k∈a.map (·.1):=⋯
def Uq{a:List (κ×V)}{k:κ}{x:V}:(HU a k x).map (·.1)=Et (a.map (·.1)) k:=by
 delta HU Et;by_cases h:k∈a.map (·.1)
 ·rw[Be (mv.mpr h),Be h,bR];apply((az));ext z _;change(if z.1=k then(z.1,x) else z).1=z.1;split<;>rfl
 ·rw[Fb (λz=>h (mv.mp z)),Fb h,bO];rfl
def TR{H:Hp}{d:List (κ×V)}{l:List PV}{k:κ}{a:PV}{x:V}(h:KA K H l (d.map (·.2)) [])(hp:BW l=aD)(j:Is K H a x [])(p:HA a=aD):KA K H (Gh (d.map (·.1)) l k a) ((HU d k x).map (·.2)) []:=by
 delta HU Gh;by_cases c:k∈d.map (·.1)
 ·rw[Be (mv.mpr c),Be c];clear c
  induction d generalizing l with
  | nil=>
   let:=h.len
   cases l with
   | nil=>apply KA.nil
   | cons _ _=>simp at this
  | cons Hd r f=>
   cases l with
   | nil=>have:=h.len;simp at this
   | cons b l=>
    let⟨y,m,f1,n,e,i,g,o⟩:=h.inv;cases e;dsimp[BW,aX] at hp;let z1:=Is.pure _ _ _ hp.1 i;let z2:=KA.pure _ _ _ hp.2 g;subst z1 z2;let f:=f g hp.2;rw[aa,gA,aa,aa];by_cases e:Hd.1=k
    ·rw[Be e,Be e];apply KA.cons j f
    ·rw[Fb e,Fb e];apply KA.cons i f
 ·rw[Fb (λz=>c (mv.mp z)),Fb c,bO];apply h.append (KA.one j)
end
def Ed:PV->PV->Option PV
 | .IK ks vs,k=>(Jb k).bind λk=>HM ks vs k
 | .E6 ks vs,k=>(Jc k).bind λk=>HM ks vs k
 | _,_=>aB
def JL:PV->PV->Option Bool
 | .IK ks vs,k=>(Jb k).map λk=>(HM ks vs k).isSome
 | .E6 ks vs,k=>(Jc k).map λk=>(HM ks vs k).isSome
 | _,_=>aB
def RK(s:Is K H d x fd)(t:Is K H k y fk)(e:JL d k=aA b):∃a o,x = .ref a/\DM H a y o/\o.isSome=b/\((Ed d k=aB/\o=aB)\/∃c v f,Ed d k=aA c/\o=aA v/\Is K H c v f/\∀p∈f,p∈fd):=by
 cases d with
 | IK ks vs=>
  let⟨g,i,rfl⟩:=map_some (e);let⟨p,h,u,rfl,hp,rfl,j,rfl⟩:=s.p_;let⟨rfl,_⟩:=yb i t;show⟨p,K8 h g,rfl,.inl ⟨h,g,hp,rfl,rfl⟩,?_,?_⟩
  ·rcases PN g j with⟨z1,z2⟩ | ⟨a,v,f,z1,z2,_⟩<;>rw[z1,z2]<;>rfl
  ·change(Ed (.IK _ vs) k=aB/\_)\/_;let l:Ed (.IK (h.map (·.1)) vs) k=HM (h.map (·.1)) vs g:=by change(Jb k).bind _=_;rw[i];rfl
   rw[l];rcases PN g j with z | ⟨a,v,f,z1,z2,m,n⟩
   ·apply .inl z
   ·apply .inr ⟨a,v,f,z1,z2,m,λq r=>aR _ (n q r)⟩
 | E6 ks vs=>
  let⟨g,i,rfl⟩:=map_some (e);let⟨p,h,u,rfl,hp,rfl,j,rfl⟩:=s.nu;let⟨b,rfl,w⟩:=Xp i t;show⟨p,K8 h g,rfl,.inr ⟨h,g,b,hp,rfl,w,rfl⟩,?_,?_⟩
  ·rcases PN g j with⟨z1,z2⟩ | ⟨a,v,f,z1,z2,_⟩<;>rw[z1,z2]<;>rfl
  ·let l:Ed (.E6 (h.map (·.1)) vs) k=HM (h.map (·.1)) vs g:=by change(Jc k).bind _=_;rw[i];rfl
   rw[l];rcases PN g j with z | ⟨a,v,f,z1,z2,m,n⟩
   ·apply .inl z
   ·apply .inr ⟨a,v,f,z1,z2,m,λq r=>aR _ (n q r)⟩
 | _=>cases e
def Zd4(h:Ed d k=aA c):JL d k=aA aD:=by
 cases d with
 | IK ks vs=>
  let⟨b,e,a⟩:=Zc (h);change(Jb k).map _=_;rw[e];change aA ((HM ks vs b).isSome)=_;rw[a];rfl
 | E6 ks vs=>
  let⟨b,e,a⟩:=Zc (h);change(Jc k).map _=_;rw[e];change aA ((HM ks vs b).isSome)=_;rw[a];rfl
 | _=>cases h
section
variable {X:Cx}{o i e f:bS}{fd fk fx:XE}{pos apos IQ:gy}
def vl:∀U H Q,NF K (DA Ed fd fk) U H Q->GN (NF K fd) (NF K fk) U H Q:=by
 ext U H Q ⟨g,s,l,h,env,e,k⟩;let⟨d,o,w,q,b⟩:=Vc e;show⟨g,s,d,h,env,w,λx D f1 s1 r i=>⟨g,s,o,λp hp=>MX.mut s1 (h p hp),env.mono s1,q,λy t B s2 j C=>?_⟩⟩;let⟨a,A,rfl,m,_,f⟩:=RK (r.mono s2) j (Zd4 b);rcases f with⟨z,_⟩ | ⟨c,v,fv,z1,rfl,n,u⟩
 ·rw[z] at b;cases b
 ·rw[z1] at b;cases b;apply⟨a,v,rfl,m,k v t fv (s1.trans s2) n λp hp=>i p (u p hp)⟩
def Uv(a:X.A.units+1<fu)(b:Kz X o fd)(c:Kz X i fk)(hs:B' i:=by apply λ_ _=>rfl):Kz X (.Subscript o i pos) (DA Ed fd fk):=DC.imp (Zdg a b c hs) vl
def EA(neg:Bool)(fk fd:XE):XE:=λs=>(fk s).bind λk=>(fd s).bind λd=>(JL d k).map λb=>.Iv (if neg then !b else b)
def U_:∀U H Q,NF K (EA aD fk fd) U H Q->FZ (NF K fk) (NF K fd) U H Q:=by ext U H Q ⟨c,s,l,f,env,e,k⟩;let⟨j,q,e⟩:=Zc e;let⟨d,m,e⟩:=Zc e;let⟨b,r,rfl⟩:=map_some e;show⟨c,s,j,f,env,q,λy w f1 s1 n t=>⟨c,s,d,λp hp=>MX.mut s1 (f p hp),env.mono s1,m,λx o u s2 h v=>?_⟩⟩;let⟨a,g,rfl,i,rfl,_⟩:=RK h (n.mono s2) r;apply⟨a,g,rfl,i,k _ o [] (s1.trans s2) (Is.Iv _) λp hp=>by simp at hp⟩
def tA(b:X.A.units+1<fu)(d:Kz X i fk)(c:Kz X o fd)(a:dj .NotIn o=aC|>Re):FY X (.Compare i [.NotIn] [o] pos) (xB (EA aD fk fd)):=NJ.imp (YS (bE b d c) a) λU H Q h=>yY U_ U H Q (yN U H Q h)
end
def JI(d k v:PV):Option PV:=match d with
 | .E6 ks vs=>(NN (BW vs&&HA v&&decide (ks.length<=10000))).bind λ_=>(Jc k).map λk=>.E6 (Et ks k) (Gh ks vs k v)
 | .IK ks vs=>(NN (BW vs&&HA v&&decide (ks.length<=10000))).bind λ_=>(Jb k).map λk=>.IK (Et ks k) (Gh ks vs k v)
 | _=>aB
def Je(i:Nat)(fk fv:XE):XS:=λs=>(fv s).bind λv=>(fk s).bind λk=>((s[i]?).join).bind λd=>(JI d k v).map λd=>.IA (s.set i (aA d))
def QN{O:Iw}{i:Nat}{st:cJ}{N fv:XE}(h:Df X st (_l.Je (KU i) (NF X.K N) (NF X.K fv)))(l:i∈O|>Op):DO X O [i] st (Je i N fv):=Df.imp h<|by
 ext D U H ⟨H0,bD,s,S,r,e,k⟩;let⟨v,R,e⟩:=Zc e;let⟨P,Q,e⟩:=Zc e;let⟨d,t,e⟩:=Zc e;let⟨aa9,m,rfl⟩:=map_some e;let t:=U4 t
 cases d with
 | E6 ks vs=>
  let⟨_,F,m⟩:=Zc (m);let w:=VD F;dsimp[aX,decide_eq_true_eq] at w;let⟨⟨o,pl⟩,g⟩:=w;let⟨I,L,rfl⟩:=map_some m;let⟨p,M,T,A,hp,rfl,u,C⟩:=r.xD l t;show⟨λ_=>False,s,v,λ_ z=>z.elim,r.env,R,λy H1 W s1 B _=>⟨.ref p,A,λ_=>False,s,P,λ_ z=>z.elim,r.env.mono s1,Q,λz Y fz s2 G _=>?_⟩⟩;let a:=s1.trans s2;let⟨b,rfl,Z⟩:=Xp L G;let z1:=Is.pure _ _ _ pl B;subst z1;let n:=(u.mono a).g_ o;let z2:=KA.pure _ _ _ o u;subst z2;let x:=r.grow a;let c:p∈bD i:=by rw[C];apply ah
  let J:=(x.own i l p c).2;show⟨p,_,rfl,.inr ⟨M,I,b,a _ _ hp,rfl,Z,by rw[<-aK (·.1)];apply lt_size g,rfl⟩,?_⟩;show k _ _ _ (x.pF l c A (U7 t) (Is.E6 a_ Uq (KA.IT (Jl.uc J) _ _ _ (λq f=>by simp at f) (TR n o (B.mono s2) pl))) ⋯ (λq f=>?_) (λj E q f z=>r.p5 i l j E q (by rw[C];apply f) z) cE) R9;rw[aO.mp f];apply⟨(r.own i l p c).1,by rw[a_];apply cE⟩
 | IK ks vs=>
  let⟨_,F,m⟩:=Zc (m);let w:=VD F;dsimp[aX,decide_eq_true_eq] at w;let⟨⟨o,pl⟩,g⟩:=w;let⟨I,L,rfl⟩:=map_some m;let⟨p,M,T,A,hp,rfl,u,C⟩:=r.xE l t;show⟨λ_=>False,s,v,λ_ z=>z.elim,r.env,R,λy H1 W s1 B _=>⟨.ref p,A,λ_=>False,s,P,λ_ z=>z.elim,r.env.mono s1,Q,λz Y fz s2 G _=>?_⟩⟩;let a:=s1.trans s2;let⟨rfl,_⟩:=yb L G;let z1:=Is.pure _ _ _ pl B;subst z1;let n:=(u.mono a).g_ o;let z2:=KA.pure _ _ _ o u;subst z2;let x:=r.grow a;let c:p∈bD i:=by rw[C];apply ah
  let J:=(x.own i l p c).2;show⟨p,_,rfl,.inl ⟨M,I,a _ _ hp,rfl,by rw[<-aK (·.1)];apply lt_size g,rfl⟩,?_⟩;show k _ _ _ (x.pF l c A (U7 t) (Is.IK a_ Uq (KA.IT (Jl.uc J) _ _ _ (λq f=>by simp at f) (TR n o (B.mono s2) pl))) ⋯ (λq f=>?_) (λj E q f z=>r.p5 i l j E q (by rw[C];apply f) z) cE) R9;rw[aO.mp f];apply⟨(r.own i l p c).1,by rw[a_];apply cE⟩
 | _=>cases m
variable {K:aH}
section
variable {X:Cx}{a b c d:bS}{fa fb fc fd:XE}{pos:gy}
def TM(d:X.A.units+64<fu)(c:Kz X a fa)(e:Kz X b fb):Kz X (.Compare a [.Eq] [b] pos) (DA (KD aC) fa fb):=Pl (OC d) (PA aC) c e (Uu _)
def Zl1(d:X.A.units+64<fu)(c:Kz X a fa)(e:Kz X b fb):Kz X (.Compare a [.NotEq] [b] pos) (DA (KD aD) fa fb):=Pl (W7 d) (PA aD) c e (Uu _)
def ya(d:X.A.units+64<fu)(c:Kz X a fa)(e:Kz X b fb):FY X (.Compare a [.Eq] [b] pos) (xB (DA (KD aC) fa fb)):=Rx (OC d) (PA aC) c e (Uu _)
def TN(d:X.A.units+64<fu)(c:Kz X a fa)(e:Kz X b fb):FY X (.Compare a [.NotEq] [b] pos) (xB (DA (KD aD) fa fb)):=Rx (W7 d) (PA aD) c e (Uu _)
def Ts(e:X.A.units+64<fu)(c:Kz X a fa)(f:Kz X b fb)(d:dj .In b=aC|>Re):Kz X (.Compare a [.In] [b] pos) (DA (Nf aC) fa fb):=Pl (Y6 e) (ux aC) c f d
def Rh(e:X.A.units+64<fu)(c:Kz X a fa)(f:Kz X b fb)(d:dj .In b=aC|>Re):FY X (.Compare a [.In] [b] pos) (xB (DA (Nf aC) fa fb)):=Rx (Y6 e) (ux aC) c f d
def UD(e:X.A.units+64<fu)(c:Kz X a fa)(f:Kz X b fb)(d:dj .NotIn b=aC|>Re):FY X (.Compare a [.NotIn] [b] pos) (xB (DA (Nf aD) fa fb)):=Rx (ug e) (ux aD) c f d
def Eu:PV->Option Bool
 | .Iv c=>aA c
 | _=>aB
def th{a:PV}{k:Bool}(h:Eu a=aA k):a = .Iv k:=by
 delta Eu at h;split at h
 ·cases h;rfl
 ·cases h
def Gg(g h:PV->PV->Option PV)(a b c:XE):XE:=λs=>(a s).bind λx=>(b s).bind λy=>((g x y).bind Eu).bind λk=>if k=aD then(c s).bind λz=>h y z else aA (.Iv aC)
def yF{r C:Dh}{g h:PV->PV->Option PV}(W:K2 K r g)(n:K2 K C h):∀U H Q,NF K (Gg g h fa fb fc) U H Q->Hy r C (NF K fa) (NF K fb) (NF K fc) U H Q:=by
 ext U H Q ⟨f,s,l,c,env,e,k⟩;let⟨A,P,e⟩:=Zc e;let⟨j,G,e⟩:=Zc e;let⟨b,d,e⟩:=Zc e;let⟨aah,d,M⟩:=Zc d;rw[th M] at d;show⟨f,s,A,c,env,P,λx H1 f1 s1 I n1=>⟨f,s,j,λp hp=>MX.mut s1 (c p hp),env.mono s1,G,λy O u s2 t Y=>?_⟩⟩;show W O x y A j _ f1 u (I.mono s2) t d _ λv N Ir B J n3=>⟨b,J.dO.1,?_⟩;let a:=s1.trans (s2.trans B)
 cases b with
 | false=>
  cases e;apply k _ N [] a (Is.Iv _) λp hp=>by simp at hp
 | true=>
  let⟨o,R,e⟩:=Zc e;show⟨f,s,o,λp hp=>MX.mut a (c p hp),env.mono a,R,λw S X i D Z=>?_⟩;show n S y w j o l u X (t.mono (B.trans i)) D e Q λv E m F T L=>k v E m (a.trans (i.trans F)) T λp hp z=>?_;rcases L p hp with q | q | q
  ·apply Y p q z
  ·apply Z p q z
  ·apply YZ (MX.mut (a.trans i) (c p z)) q
def TO(m:FL X (dz op) r)(d:FL X (dz w9) IW)(l:K2 X.K r g)(e:K2 X.K IW h)(i:Kz X a fa)(k:Kz X b fb)(j:Kz X c fc)
  (f:rN [op,w9] [b,c]=aC|>Re):Kz X (.Compare a [op,w9] [b,c] pos) (Gg g h fa fb fc):=DC.imp (dp m d i k j f) (yF l e)
def hq(m:FL X (dz op) r)(d:FL X (dz w9) IW)(l:K2 X.K r g)(e:K2 X.K IW h)(i:Kz X a fa)(k:Kz X b fb)(j:Kz X c fc)
  (f:rN [op,w9] [b,c]=aC|>Re):FY X (.Compare a [op,w9] [b,c] pos) (xB (Gg g h fa fb fc)):=NJ.imp (cm m d i k j f) λU H Q q=>Pn (yF l e) U H Q (Ow U H Q q)
end
section
variable {X:Cx}{a b:bS}{fa fb:XE}{pos:gy}
def Bd:PV->PV->Option PV
 | .lst m,.lst n=>if m.length+n.length<=10000 then aA (.lst (m++n)) else aB
 | _,_=>aB
def Jg:PV->PV->Option PV
 | .lst m,.lst n=>if m.length+n.length<=10000/\BW m=aD/\BW n=aD then aA (.lst (m++n)) else aB
 | _,_=>aB
def PK(A:Kz X a fa)(C:Kz X b fb):M3 X (.BinOp a .Add b pos) (DA Jg fa fb):=DC.imp (Tr Zh9 A C)<|by
 ext U H Q ⟨s,l,env,e,k⟩;let⟨i,h,w,t,e⟩:=Vc e;show⟨λ_=>False,s,i,λ_ z=>z.elim,env,w,λx I f1 s1 u _=>⟨λ_=>False,s,h,λ_ z=>z.elim,env.mono s1,t,λy G F s2 o _=>?_⟩⟩
 cases i with
 | lst m=>cases h with
  | lst n=>
   let e:(if m.length+n.length<=10000/\BW m=aD/\BW n=aD then aA (PV.lst (m++n)) else aB)=aA l:=e;split at e
   case isFalse=>cases e
   rename_i d;cases e;let⟨p,xs,E,rfl,hp,j,rfl⟩:=u.lst_inv;let⟨B,ys,v,rfl,g,c,rfl⟩:=o.lst_inv;show⟨p,B,xs,ys,rfl,rfl,s2 _ _ hp,g,by rw[j.len,c.len];apply eK (lt_size d.1),λq f=>?_⟩;show k _ _ [q] (s1.trans (s2.trans (MX.new f _))) (Is.lst a_ ((((j.mono s2).g_ d.2.1).append (c.g_ d.2.2)).mono (MX.new f _))) ⋯ λr D=>?_;rw[aO.mp D];apply⟨MX.off (s1.trans s2) f,by rw[a_];apply cE⟩
  | _=>cases e
 | _=>cases e
def Gz:PV->PV->Option PV
 | .lst m,.int k=>if BW m=aD/\-1000000<=k/\k<=1000000/\m.length*k.toNat<=10000 then aA (.lst (ak k.toNat m).flatten) else aB
 | _,_=>aB
def KA.rep(h:KA K H m xs []):∀k:Nat,KA K H (ak k m).flatten (ak k xs).flatten []
 | 0=>KA.nil
 | k+1=>by rw[fj,fj,jJ,jJ];apply h.append (KA.rep h k)
def sN(u:Kz X a fa)(v:Kz X b fb):M3 X (.BinOp a .Mult b pos) (DA Gz fa fb):=DC.imp (Tr Zia u v)<|by
 ext U H Q ⟨s,l,env,e,k⟩;let⟨g,d,t,j,e⟩:=Vc e;show⟨λ_=>False,s,g,λ_ z=>z.elim,env,t,λx D f1 s1 o _=>⟨λ_=>False,s,d,λ_ z=>z.elim,env.mono s1,j,λy C B s2 i _=>?_⟩⟩
 cases g with
 | lst m=>cases d with
  | int n=>
   let e:(if BW m=aD/\-1000000<=n/\n<=1000000/\m.length*n.toNat<=10000 then aA (PV.lst (ak n.toNat m).flatten) else aB)=aA l:=e;split at e
   case isFalse=>cases e
   rename_i f;cases e;let⟨p,xs,A,rfl,hp,h,rfl⟩:=o.lst_inv;show⟨p,n,xs,rfl,i.int_inv.1,s2 _ _ hp,(),(),by rw[h.len];apply eK (lt_size f.2.2.2),λq c=>?_⟩;show k _ _ [q] (s1.trans (s2.trans (MX.new c _))) (Is.lst a_ ((KA.rep ((h.mono s2).g_ f.1) n.toNat).mono (MX.new c _))) ⋯ λr w=>?_;rw[aO.mp w];apply⟨MX.off (s1.trans s2) c,by rw[a_];apply cE⟩
  | _=>cases e
 | _=>cases e
end
def KA.bD:∀{ls:List PV}{vs:List V}{Ir:Gc},KA K H ls vs Ir->∃bD:Nat->List aM,(∀(i:Nat) l,ls[i]?=aA l->∃v,vs[i]?=aA v/\Is K H l v (bD i))/\∀i,ls.length<=i->bD i=[]
 | [],vs,Ir,h=>⟨λ_=>[],λi l e=>by simp at e,λ_ _=>rfl⟩
 | a::ls,vs,Ir,h=>by
  let⟨x,r,f1,j,rfl,g,f,rfl⟩:=h.inv;let⟨bD,d,p2⟩:=f.bD;show⟨λi=>match i with | 0=>f1 | k+1=>bD k,λi l e=>?_,λi c=>?_⟩
  ·cases i with
   | zero=>simp at e;subst e;apply⟨x,rfl,g⟩
   | succ k=>
    let⟨v,a,b⟩:=d k l (~~~e);apply⟨v,by simpa using a,b⟩
  ·cases i with
   | zero=>simp at c
   | succ k=>apply p2 k (~~~c)
def Lg(m:Nat)(ls:List PV):ZG:=ls.map aA++ak (m-la ls) aB
def Ly:D6->Option PV
 | .E7 v=>aA v
 | .IA _=>aA .IB
 | _=>aB
def Hw(m:Nat)(f:XS):List PV->Option PV:=λls=>(f (Lg m ls)).bind Ly
def Sv(u:∀i∈O,n<=i)(h:DS K (Hw N.length f) n vs H Q E):NW K O W f {IA:=λ_ o=>Q .IB o,E7:=Q} (_l.start N vs) H:=by
 let⟨G,ls,w,l,g,e,q⟩:=h;let⟨m,A,s⟩:=Zc e;let⟨bD,x,p2⟩:=g.bD;let k:=g.len
 let r:∀i:Nat,ls.length<=i->∀l,(Lg N.length ls)[i]?≠aA (aA l):=λi g l z=>by
  delta Lg at z;rw[bc (~~~g),c0] at z;split at z<;>cases z
 let rel:Rel K O H bD (Lg N.length ls) (_l.start N vs) H:=by
  show⟨MX.refl H,?_,λi a z=>?_,λi t=>?_,λi g=>?_,λi g p hp=>?_,λi g j D p hp=>?_⟩
  ·delta Lg _l.start;simp[k]
  ·by_cases c:i<ls.length
   ·delta Lg at z;rw[bM (~~~c),af] at z
    cases q:ls[i]? with
    | none=>rw[q] at z;cases z
    | some b=>
     rw[q] at z;cases z;let⟨v,C,KC⟩:=x i a q;show⟨v,?_,KC⟩;delta _l.start;rw[bM (by simpa [k] using c),af,C];rfl
   ·apply absurd z (r i () a)
  ·by_cases c:i<ls.length
   ·apply absurd (by delta Lg;rw[bM (~~~c),af,aI c];rfl) (t ls[i])
   ·apply p2 i ()
  ·rw[p2 i (by let:=u i g;lia)];apply cC
  ·rw[p2 i (by let:=u i g;lia)] at hp;simp at hp
  ·rw[p2 i (by let:=u i g;lia)] at hp;simp at hp
 show⟨H,bD,Lg N.length ls,m,rel,A,?_⟩
 cases m with
 | IA Kl=>
  cases s;apply λF I o B _=>q .IB o [] B.same Is.IB cC λp hp=>by simp at hp
 | E7 v=>
  cases s;apply λv w o y i d n=>q v o w y i d n
 | MM Kl=>cases s
 | Bi Kl=>cases s
section
variable {P:bC}{w:bU}{mg:Bp}{base:b7}
def Zi3{st:cJ}{N ps:Kn}{k n:Nat}{O W:Iw}(m:Nat)(f:XS)(D:Def K mg x st)(S:Bz N ps (DG st))
  (l:∀(FH doc pm:aG)(an:I')(b Bi:aG)(us:E4),us.length=la ps->i8 (cX x x (HI st) (FQ st) (DG st) .none FH doc pm an b Bi) ⟨us,[]⟩=pure (ps.zip us))
  (j:la ps=n) (e:la N=m) (g:∀i∈O,n<=i)
  (c:∀(d:aM)(b:aG)(A:bX)(a:Dk)(s:aN)(H:Hp)(E:Kp),MN k (A.deeper (jE x (DG st) ⇑s d b))->Ls (K3 Nc P w K mg base N x (DG st) d b A a s H E).Hb O W (FQ st) f) :
  BL P w K mg base x ps (DS K (Hw m f) n) (k+1):=by
 subst e;show D.cal S l (λvs H Q E h=>by rw[j];apply h.1) λd b A a s H vs Q E o h=>⟨_,c d b A a s H E o,Sv g h⟩
end
variable {K:aH}
theorem Inv.Em(I:_l.Inv X Iu U H s)(h:H d=aA (.Km o (.E6 Bg)))(r:∀o u,X.H₀ d≠aA (.Km o u)) :
  _l.Inv X Iu U (upd H d (.E6 Bg)) s:=by
 let ne:∀b u,H b=aA u->(∀o v,u≠.Km o v)->b≠d:=λb u q n z=>by rw[z,h] at q;apply n _ _ (bG q).symm
 let j:∀b,H b=aB->b≠d:=λb q z=>by rw[z,h] at q;cases q
 let l:FI X.prog X.w (upd H d (.E6 Bg)) s.heap:=λb u q=>by
  let f:∀c y,H c=aA (.own y)->upd H d (.E6 Bg) c=aA (.own y):=λc y z=>by rw[a0 (ne c _ z λ_ _ z=>nomatch z)];apply z
  let g:∀c xs,H c=aA (.tup xs)->upd H d (.E6 Bg) c=aA (.tup xs):=λc y z=>by rw[a0 (ne c _ z λ_ _ z=>nomatch z)];apply z
  by_cases k:b=d
  ·subst k;rw[a_] at q;cases q;let⟨_,x⟩:=(I.Bh b _ h);apply NI.MP x (λ_ _ _ z=>z) (λc z=>f c _ z) g λc u z=>by rw[a0 (λy=>by rw[y,h] at z;cases z)];apply z
  ·rw[a0 k] at q;apply(I.Bh b u q).MP (λ_ _ _ z=>z) (λc z=>f c _ z) g λc u z=>by rw[a0 (λy=>by rw[y,h] at z;cases z)];apply z
 show⟨I.ok,I.os,I.bare,⟨I.base.keep,I.base.slot,λb o q n m=>?_,I.base.there,λb xs q=>?_,λb o u q=>?_,λb ps q=>?_⟩,I.loc,I.cell,?_,λx c e=>?_,λp hp=>?_,l,I.len⟩
 ·let z:=I.base.free b o q n m;rw[a0 (j b z)];apply z
 ·let z:=I.base.BA b xs q;rw[a0 (ne b _ z λ_ _ z=>nomatch z)];apply z
 ·let z:=I.base.Dr b o u q;let k:b≠d:=λe=>r o u (by rw[<-e];apply q);rw[a0 k];apply z
 ·let⟨i,z⟩:=I.base.Bw b ps q;apply⟨i,by rw[a0 (ne b _ z λ_ _ z=>nomatch z)];apply z⟩
 ·rw[a0 (j _ I.free)];apply I.free
 ·rw[a0 (j _ (I.Dq x c e))];apply I.Dq x c e
 ·let⟨a,b,c⟩:=I.pin p hp;apply⟨a,by rw[a0 (j _ b)];apply b,c⟩
def Em(d:aM)(Bg:List (List MJ×V))(D:B5):B5 where
 IA:=λU H=>(∃o,H d=aA (.Km o (.E6 Bg)))/\D.IA U (upd H d (.E6 Bg))
 MM:=λU H=>(∃o,H d=aA (.Km o (.E6 Bg)))/\D.MM U (upd H d (.E6 Bg))
 Bi:=λU H=>(∃o,H d=aA (.Km o (.E6 Bg)))/\D.Bi U (upd H d (.E6 Bg))
 E7:=λv H=>(∃o,H d=aA (.Km o (.E6 Bg)))/\D.E7 v (upd H d (.E6 Bg))
def J4(i:Nat)(g:FC)(IP:Di):Di:=λD U H=>∃d Bg,U[i]?=aA (aA (.ref d))/\
 ((H d=aA (.E6 Bg)/\∀o,B_ g IP (Em d Bg D) U (Ge d o Bg) (upd H d (.Km o (.E6 Bg))))\/∃o,H d=aA (.Km o (.E6 Bg))/\B_ g IP D U (Ge d o Bg) H)
def XM{st:cJ}{i:Nat}{g:FC}{t:Di}(h:Df X st (CA (F0 (KU i)) g t)):Df X st (J4 i g t):=by
 ext x s U H D I y;let⟨d,r,w,p⟩:=y;rcases p with⟨l,q⟩ | ⟨o,l,q⟩
 ·let m:∀o u,X.H₀ d≠aA (.Km o u):=λo u z=>by let:=I.base.Dr d o u z;rw[l] at this;cases this
  let k:=h x s U H (Em d r D) I ⟨.ref d,w,d,r,rfl,.inl ⟨l,q⟩⟩;show ZV k λf B a=>?_
  cases f with
  | next=>
   let⟨e,n,c,⟨o,j⟩,b⟩:=a;apply⟨e,_,Inv.Em c j m,b⟩
  | brk=>
   let⟨e,n,c,⟨o,j⟩,b⟩:=a;apply⟨e,_,Inv.Em c j m,b⟩
  | cont=>
   let⟨e,n,c,⟨o,j⟩,b⟩:=a;apply⟨e,_,Inv.Em c j m,b⟩
  | ret u=>
   let⟨v,e,n,c,A,⟨o,j⟩,b⟩:=a;apply⟨v,e,_,Inv.Em c j m,A,b⟩
 ·apply h x s U H D I ⟨.ref d,w,d,r,rfl,.inr ⟨o,l,q⟩⟩
def EB(k:List MJ):PV:=.tup (k.map JU)
def Ub(c:H1 d=aA (.Km o (.E6 Bg)))(f:¬Rm d):yZ K Rm H1 (Ge d o Bg) ((Bg.map (·.1)).map EB):=by show⟨λe ab=>⟨ab d _ c f,⋯⟩,λe i l ab a=>⟨ab d _ c f,by let:=(aS.mp a).1;simpa using this⟩,λe i l x j ab a y=>?_⟩;let⟨rfl,b,k,v,h,rfl,g⟩:=y;rw[af,af,h] at a;cases a;apply⟨MX.refl _,[],Is.tup g (nL k),λp hp=>by simp at hp⟩
def Ji:PV->Option (List PV)
 | .E6 ks _=>aA (ks.map EB)
 | _=>aB
def N0(i:Nat)(T:oo)(fb:XS):XS:=λs=>((s[i]?).join.bind Ji).bind λls=>KR T fb ls s
def B3.we(a:B3 H p (.E6 xs))(b:B3 H p (.E6 ys)):xs=ys:=by rcases a with a | ⟨o,a⟩<;>rcases b with b | ⟨c,b⟩<;>rw[a] at b<;>cases b<;>rfl
def Ld.swap(h:B3 H d (.E6 Bg))(h':B3 H' d (.E6 Bg))(hs:∀b,b≠d->H' b=H b)(p:aM):Ld H H' p:=by
 by_cases hp:p=d
 ·subst hp;show⟨λxs z=>?_,λk z=>?_,λk z=>?_⟩
  ·rcases h with h | ⟨o,h⟩<;>rw[h] at z<;>cases z
  ·rcases h with h | ⟨o,h⟩<;>rcases z with z | ⟨a,z⟩<;>rw[h] at z<;>cases z
  ·rw[<-B3.we h z];apply h'
 ·apply Ld.of λo z=>by rw[hs p hp];apply z
def ua.swap(h:B3 H d (.E6 Bg))(hs:∀b,b≠d->H' b=H b):ua H H':=by
 let ne:∀b u,H b=aA u->(∀k,u≠.E6 k)->(∀o k,u≠.Km o (.E6 k))->b≠d:=λb u q n a z=>by
  rw[z] at q;rcases h with h | ⟨o,h⟩<;>rw[h] at q<;>cases q
  ·apply n _ rfl
  ·apply a _ _ rfl
 apply⟨λb xs z=>by rw[hs b (ne b _ z (λ_ z=>nomatch z) λ_ _ z=>nomatch z)];apply z,λb o xs z=>by rw[hs b (ne b _ z (λ_ z=>nomatch z) λo k z=>by cases z)];apply z,λb o xs z=>by rw[hs b (ne b _ z (λ_ z=>nomatch z) λo k z=>by cases z)];apply z⟩
section
variable {O W:Iw}{T:oo}{fb:XS}{i:Nat}
def QK(r:Rel K O H0 bD s U H)(t:∀j∈O',j∈O/\j≠i)(e:s[i]?=aA (aA (.E6 ks vs)))
  (Y:KR T fb (ks.map EB) s=aA out) (hT:∀j∈T.slots,j∉O')
  (k:∀(F:Hp)(f:Hp->Hp),(∀b,H b≠aB->¬Lh O' bD b->F b≠aB)->MX H0 (f F)->(∀c,MX F c->MX (f F) (f c)/\ua c (f c)/\(∀p,Ld c (f c) p)/\(∀p,F p=aB->f c p=c p)/\(∀p,p∈bD i->¬Lh O' bD p->H p=f c p))->(∀p,F p=aB->H0 p=aB)->
   ∀vN,out=vN->match vN with
    | .IA Kl=>∀P A c,Rel K O' F P Kl A c->(∀j,j∉T.slots++W->A[j]?=U[j]?/\NH (P j) (bD j))->D.IA A (f c)
    | .E7 l=>∀v N c,MX F c->Is K c l v N->N.Nodup->(∀p∈N,F p=aB/\DK (c p))->D.E7 v (f c)
    | _=>True):J4 i (HW K T) (NW K O' W fb) D U H:=by
 let⟨v,IU,BG⟩:=r.is i _ e;let⟨d,C,fq,rfl,y,rfl,E5,S⟩:=BG.nu;let Q:¬Lh O' bD d:=λ⟨j,x,hp⟩=>r.p5 j (t j x).1 i (bN (t j x).2) d hp (by rw[S];apply ah);let E:∀p,Lh O' bD p->H0 p=aB/\DK (H p):=λp ⟨j,x,hp⟩=>r.own j (t j x).1 p hp
 -- Dl frame and Dl wX at Dl zt start,in a heap aca acn from H at d alone
 let start:∀M:Hp,B3 M d (.E6 C)->(∀b,b≠d->M b=H b)->Rel K O' (DR M (Lh O' bD)) bD s U M:=λM I hs=>by
  show⟨zd,r.len,λj l q=>?_,r.uK,λj x=>r.E3 j (t j x).1,λj x p hp=>⟨by delta DR;rw[Be ⟨j,x,hp⟩],?_⟩,λj x=>r.p5 j (t j x).1⟩
  ·let⟨w,a,b⟩:=r.is j l q;apply⟨w,a,Is.IT (ua.swap y hs) _ _ _ (λp _=>Ld.swap y I hs p) b⟩
  ·let pd:p≠d:=λz=>Q ⟨j,x,z▸hp⟩;rw[hs p pd];apply(r.own j (t j x).1 p hp).2
 let G:∀(F:Hp)(f:Hp->Hp)(D':B5),(∀A c,MX F c->D.IA A (f c)->D'.IA A c)->(∀v c,MX F c->D.E7 v (f c)->D'.E7 v c)->(∀b,H b≠aB->¬Lh O' bD b->F b≠aB)->MX H0 (f F)->(∀c,MX F c->MX (f F) (f c)/\ua c (f c)/\(∀p,Ld c (f c) p)/\(∀p,F p=aB->f c p=c p)/\(∀p,p∈bD i->¬Lh O' bD p->H p=f c p))->(∀p,F p=aB->H0 p=aB)->(∀Kl,out≠.MM Kl)->(∀Kl,out≠.Bi Kl)->AH K O' (T.slots++W) F bD U D' out:=λF f D' MH I h3 Bt h5 h6 B Fq=>by
  let kk:=k F f h3 Bt h5 h6 out rfl
  cases out with
  | IA Kl=>apply λP A c IW MR=>MH A c IW.same (kk P A c IW MR)
  | E7 l=>apply λv N c g i d n=>I v c g (kk v N c g i d n)
  | MM Kl=>apply absurd rfl (B Kl)
  | Bi Kl=>apply absurd rfl (Fq Kl)
 let m:(∀Kl,out≠.MM Kl)/\(∀Kl,out≠.Bi Kl):=by
  have:∀(ls:List PV)(s:ZG)(o:D6),KR T fb ls s=aA o->(∀Kl,o≠.MM Kl)/\(∀Kl,o≠.Bi Kl):=by
   ext ls
   induction ls with
   | nil=>ext s o h;cases h;apply⟨λ_ z=>(nomatch z),λ_ z=>(nomatch z)⟩
   | cons l Dj E2=>
    ext s o h;let⟨s1,_,h⟩:=Zc h;let⟨o1,_,h⟩:=Zc h
    cases o1 with
    | IA s2=>apply E2 s2 o h
    | Bi s2=>apply E2 s2 o h
    | MM s2=>cases h;apply⟨λ_ z=>(nomatch z),λ_ z=>(nomatch z)⟩
    | E7 v=>cases h;apply⟨λ_ z=>(nomatch z),λ_ z=>(nomatch z)⟩
  apply this _ _ _ Y
 rcases y with y | ⟨o,y⟩
 ·show⟨d,C,IU,.inl ⟨y,λo=>?_⟩⟩;let I:upd H d (.Km o (.E6 C)) d=aA (.Km o (.E6 C)):=a_;let hs:∀b,b≠d->upd H d (.Km o (.E6 C)) b=H b:=λb B=>a0 B;let L:DR (upd H d (.Km o (.E6 C))) (Lh O' bD) d=aA (.Km o (.E6 C)):=by delta DR;rw[Fb Q];apply I
  show PH (start _ (.inr ⟨o,I⟩) hs) (Ub I Q) Y hT (G _ (λR=>upd R d (.E6 C)) (Em d C D) (λA c g q=>⟨⟨o,g d _ L⟩,q⟩) (λv c g q=>⟨⟨o,g d _ L⟩,q⟩) (λb B Z=>?_) (λb u h=>?_) (λc g=>⟨?_,?_,λp=>?_,λp hp=>?_,λp hp np=>?_⟩) (λp hp=>?_) m.1 m.2)
  ·delta DR;rw[Fb Z];by_cases e:b=d
   ·subst e;rw[I];simp
   ·rw[hs b e];apply B
  ·by_cases e:b=d
   ·subst e;let:=r.same b u h;rw[y] at this;cases this;apply a_
   ·rw[a0 e];delta DR;rw[Fb (λz=>by rw[(E b z).1] at h;cases h),hs b e];apply r.same b u h
  ·ext b u h;by_cases e:b=d
   ·subst e;rw[a_] at h ⊢;apply h
   ·rw[a0 e] at h ⊢;apply g b u h
  ·apply ua.swap (.inr ⟨o,g d _ L⟩) λb B=>a0 B
  ·apply Ld.swap (.inr ⟨o,g d _ L⟩) (.inl a_) (λb B=>a0 B) p
  ·apply a0 λe=>by rw[e,L] at hp;cases hp
  ·by_cases e:p=d
   ·subst e;rw[y];apply a_.symm
   ·change H p=upd c d (.E6 C) p;rw[a0 e];let J:=r.oi i p hp
    cases q:H p with
    | none=>apply absurd q J
    | some u=>apply(g p u (by delta DR;rw[Fb np,hs p e];apply q)).symm
  ·cases q:H0 p with
   | none=>rfl
   | some u=>
    exfalso;let X:p≠d:=λe=>by rw[e,L] at hp;cases hp
    delta DR at hp;rw[Fb (λz=>by rw[(E p z).1] at q;cases q),hs p X,r.same p u q] at hp;cases hp
 ·show⟨d,C,IU,.inr ⟨o,y,?_⟩⟩;show PH (start H (.inr ⟨o,y⟩) λ_ _=>rfl) (Ub y Q) Y hT (G _ (λR=>R) D (λA c g q=>q) (λv c g q=>q) (λb B Z=>by delta DR;rw[Fb Z];apply B) (λb u h=>?_) (λc g=>⟨g,MX.r_ (MX.refl _),λp=>Ld.of λ_ z=>z,λp _=>rfl,λp hp np=>?_⟩) (λp hp=>?_) m.1 m.2)
  ·delta DR;rw[Fb (λz=>by rw[(E b z).1] at h;cases h)];apply r.same b u h
  ·let J:=r.oi i p hp
   cases q:H p with
   | none=>apply absurd q J
   | some u=>apply(g p u (by delta DR;rw[Fb np];apply q)).symm
  ·cases q:H0 p with
   | none=>rfl
   | some u=>
    exfalso;delta DR at hp;rw[Fb (λz=>by rw[(E p z).1] at q;cases q),r.same p u q] at hp;cases hp
end
section
variable {X:Cx}{O O' W:Iw}{T:oo}{fb:XS}{i:Nat}{st:cJ}
def zN(h:Df X st (CA (F0 (KU i)) (HW X.K T) (NW X.K O W fb)))(R:i∉O|>Op)(I:(∀j∈T.slots,j∉O)|>Op):DO X O (T.slots++W) st (N0 i T fb):=Df.imp (XM h)<|by
 ext D U H ⟨Y,bD,s,m,r,e,k⟩;let⟨ls,P,e⟩:=Zc e;let⟨d,t,A⟩:=Zc P;let t:=U4 t
 cases d with
 | E6 ks vs=>
  cases A;show QK r (λj f=>⟨f,λz=>R (z▸f)⟩) t e I λF x _ E y C B J=>?_;subst J
  cases m with
  | IA Kl=>
   ext G Q g c M;let⟨w,n,o,u,_⟩:=y g c.same;show k G Q (x g) ⟨E.trans w,c.len,λj l q=>?_,c.uK,c.E3,λj f p hp=>⟨C p (c.own j f p hp).1,by rw[u p (c.own j f p hp).1];apply(c.own j f p hp).2⟩,c.p5⟩ M;let⟨v,a,b⟩:=c.is j l q;apply⟨v,a,Is.IT n _ _ _ (λp _=>o p) b⟩
  | E7 l=>
   ext v S g N is L fr;let⟨w,n,o,u,_⟩:=y g N;apply k v S (x g) (E.trans w) (Is.IT n _ _ _ (λp _=>o p) is) L λp hp=>⟨C p (fr p hp).1,by rw[u p (fr p hp).1];apply(fr p hp).2⟩
  | MM Kl=>trivial
  | Bi Kl=>trivial
 | _=>cases A
def NT(O:Iw):Nat->ZG->ZG
 | _,[]=>[]
 | k,o::r=>(if k∈O then o else match o with | some l=>if HA l=aD then aA l else aB | none=>aB)::NT O (k+1) r
def T1:∀{s:ZG}{k j:Nat}{l:PV},(NT O k s)[j]?=aA (aA l)->s[j]?=aA (aA l)/\(k+j∈O\/HA l=aD)
 | [],k,j,l,h=>by simp[NT] at h
 | o::r,k,0,l,h=>by
  delta NT at h;dsimp[List.getElem?_cons_zero,m7] at h;by_cases c:k∈O
  ·rw[Be c] at h;apply⟨by simp[h],.inl c⟩
  ·rw[Fb c] at h
   cases o with
   | none=>cases h
   | some a=>
    simp only at h;split at h
    ·cases h;apply⟨rfl,.inr (by assumption)⟩
    ·cases h
 | o::r,k,j+1,l,h=>by delta NT at h;rw[nO] at h;let⟨a,b⟩:=T1 h;apply⟨by simpa using a,by rw[show k+(j+1)=k+1+j by lia];apply b⟩
def PQ:∀{s:ZG}{k:Nat},(NT O k s).length=la s
 | [],_=>rfl
 | o::r,k=>by delta NT;rw[bB,bB,PQ]
def HY(O:Iw):D6->D6
 | .IA s=>.IA (NT O 0 s)
 | o=>o
def Lz(O:Iw)(i:Nat)(T:oo)(fb:XS):XS:=λs=>((s[i]?).join.bind Ji).bind λls=>(KR T fb ls s).map (HY O)
open Classical in
def vj(h:Df X st (CA (F0 (KU i)) (HW X.K T) (NW X.K O' W fb)))(C:i∈O|>Op)(B:∀j,j∈O'↔(j∈O/\j≠i))(hT:(∀j∈T.slots,j∉O)|>Op)(hW:i∉T.slots++W|>Op):DO X O (T.slots++W) st (Lz O i T fb):=Df.imp (XM h)<|by
 ext D U H ⟨H0,bD,s,out,r,e,k⟩;let⟨ls,Ko,e⟩:=Zc e;let⟨d,L,IM⟩:=Zc Ko;let⟨A,e5,rfl⟩:=map_some e;let L:=U4 L
 cases d with
 | E6 ks vs=>
  cases IM;show QK (O':=O') r (λj c=>(B j).mp c) L e5 (λj c z=>hT j c ((B j).mp z).1) λF Y h3 Bt Z h6 vN eo=>?_;subst eo
  cases A with
  | IA Kl=>
   ext u Fe w g J;let⟨N,E,I,M,t5⟩:=Z w g.same;let ki:=J i hW;let fi:∀p∈bD i,¬Lh O' bD p:=λp hp ⟨j,c,z⟩=>r.p5 i C j ((B j).mp c).2 p hp z;let Fi:∀p∈bD i,F p≠aB:=λp hp=>h3 p (r.oi i p hp) (fi p hp)
   let sub:∀p,p∈u i->p∈bD i:=λp hp=>by
    rcases ki.2 with z | z
    ·rw[<-z];apply hp
    ·rw[z] at hp;simp at hp
   let P:∀j∈O',∀p∈u j,F p=aB:=λj c p hp=>(g.own j c p hp).1;let t:∀j∈O,j≠i->j∈O':=λj c n=>(B j).mpr ⟨c,n⟩
   let get:∀j p,p∈(if(NT O 0 Kl)[j]?=Kl[j]? then u j else [])->p∈u j/\(NT O 0 Kl)[j]?=Kl[j]?:=λj p hp=>by
    split at hp
    ·apply⟨hp,by assumption⟩
    ·simp at hp
   show k (λj=>if(NT O 0 Kl)[j]?=Kl[j]? then u j else []) Fe (Y w) ⟨Bt.trans N,by rw[PQ];apply g.len,λj l q=>?_,λj G=>?_,λj c=>?_,λj c p hp=>?_,λj c m R p hp z=>?_⟩ λj c=>⟨(J j c).1,?_⟩
   ·let⟨S,_⟩:=T1 q;let⟨v,a,b⟩:=g.is j l S;rw[Be (q.trans S.symm)];apply⟨v,a,Is.IT E _ _ _ (λp _=>I p) b⟩
   ·change(if(NT O 0 Kl)[j]?=Kl[j]? then u j else [])=[];split
    ·rename_i h;apply g.uK j λl z=>G l (by rw[h];apply z)
    ·rfl
   ·change(if(NT O 0 Kl)[j]?=Kl[j]? then u j else []).Nodup;split
    ·by_cases e:j=i
     ·subst e;rcases ki.2 with z | z
      ·rw[z];apply r.E3 j C
      ·rw[z];apply cC
     ·apply g.E3 j (t j c e)
    ·apply cC
   ·let⟨hp,_⟩:=get j p hp;by_cases e:j=i
    ·subst e;let hp:=sub p hp;apply⟨(r.own j C p hp).1,by rw[<-t5 p hp (fi p hp)];apply(r.own j C p hp).2⟩
    ·let o:=g.own j (t j c e) p hp;apply⟨h6 p o.1,by rw[M p o.1];apply o.2⟩
   ·let⟨hp,_⟩:=get j p hp;let⟨x,zc⟩:=get m p z;by_cases e:j=i
    ·subst e;let Q:=sub p hp;by_cases y:m∈O'
     ·apply Fi p Q (P m y p x)
     ·let⟨l,v,ql,_,b⟩:=g.at m x;rw[ql] at zc;let⟨_,f⟩:=T1 zc;rcases f with f | f
      ·rw[jW] at f;apply y (t m f R)
      ·rw[Is.pure _ _ _ f b] at x;simp at x
    ·apply g.p5 j (t j c e) m R p hp x
   ·change NH (if(NT O 0 Kl)[j]?=Kl[j]? then u j else []) (bD j);split
    ·apply(J j c).2
    ·apply .inr rfl
  | E7 l=>
   ext v Ir w sm is E3 fr;let⟨N,E,I,M,_⟩:=Z w sm;apply k v Ir (Y w) (Bt.trans N) (Is.IT E _ _ _ (λp _=>I p) is) E3 λp hp=>⟨h6 p (fr p hp).1,by rw[M p (fr p hp).1];apply(fr p hp).2⟩
  | MM Kl=>trivial
  | Bi Kl=>trivial
 | _=>cases IM
end
variable {K:aH}
section
variable {X:Cx}{O:Iw}{IC elt iter:bS}{ifs:Fj}{scope:jd}{pos:gy}{fi:XL}{T:oo}{ft:XT}{fe:XE}
def Zw(own fr:Kn)(e:Iw)(f:X.N.Nodup)(h:X.N[i]?=aA y)(c:X.env.scope.names.lookup y=aA .local)(b:X.calm=aD)(m:Nj X IC iter fi)(S:HZ X.N X.env.scope scope own fr e=aD)
  (l:∀cl C s H a,Aj (B1 X (own++fr) scope cl C s H a) IC (HW X.K T)) (j:∀cl C s H a,N6 (B1 X (own++fr) scope cl C s H a) ifs ft) (k:∀cl C s H a,M3 (B1 X (own++fr) scope cl C s H a) elt fe)
  (g:(∀i∈T.slots,i<la own)|>Op)
  (d:iH (.ListComp elt [⟨IC,iter,ifs,0⟩] scope pos) (aA (.Name y py)) vF.line X.env=pure aD|>On)
  (hs:(∀x,cY iter X.env x=pure x)|>Pi):DO X O [i] (.Assign [.Name y py] (.ListComp elt [⟨IC,iter,ifs,0⟩] scope pos) vF) (Hs i (HC (la own) e fi T ft fe)):=
 Df.imp (pG own fr e f h c b m S l (λcl C s H a=>(show BK (B1 X (own++fr) scope cl C s H a) ifs (Hn X.K ft) from j cl C s H a)) (λcl C s H a=>(show DC (B1 X (own++fr) scope cl C s H a) elt (AG X.K fe) from k cl C s H a)) d hs) (p' (pB g))
end
def LB(i:Nat)(fk:XE):XS:=λs=>(Dz i s).bind λa=>((fk s).bind D8).bind λk=>if k=0 then aA (.E7 .IB) else if k=1 then aA (.E7 a) else aB
def rf(B:DC X e (LI (JJ X.K) (CU (As (LK .IB) (As (KU i) M6))) (NF X.K fk)))(g:i∈O|>Op):DO X O [] (.Return (aA e) pos) (LB i fk):=Df.imp (PE B)<|by
 ext D U H ⟨C,bD,s,o,r,e,k⟩;let⟨a,t,e⟩:=Zc e;let⟨n,d,e⟩:=Zc e;let⟨l,d,w⟩:=Zc d;rw[UC w] at d;let⟨v,u,x⟩:=r.is i a (Rw t);show⟨v,u,(by change 2<=sizeLine;decide),λp hp=>?_⟩;let sn:MX H (upd H p (.lst [V.IB,v])):=MX.new hp _;show⟨λ_=>False,s,_,λ_ z=>z.elim,r.env.mono sn,d,λy j E s2 h _=>?_⟩;let c:=s2 _ _ a_;by_cases f:n=0
 ·rw[Be f] at e;cases e;apply⟨p,[V.IB,v],n,V.IB,rfl,h.int_inv.1,BZ.of c,by rw[f];rfl,k .IB [] j (r.same.trans (sn.trans s2)) Is.IB cC λp hp=>by simp at hp⟩
 ·rw[Fb f] at e;split at e
  ·rename_i A;cases e;let b:=sn.trans s2;apply⟨p,[V.IB,v],n,v,rfl,h.int_inv.1,BZ.of c,by rw[A];rfl,k v (bD i) j (r.same.trans b) (x.mono b) (r.E3 i g) λq m=>⟨(r.own i g q m).1,MX.mut b (r.own i g q m).2⟩⟩
  ·cases e
section
variable {P:bC}{w:bU}{mg:Bp}{base:b7}
def Zi4{st:cJ}{N ps:Kn}{k n:Nat}{O W:Iw}{d:aM}{e:gj}(m:Nat)(f:XS)(F:MU K x x st d e)(S:Bz N ps (DG st))
  (l:la ps=n) (g:la N=m) (j:∀i∈O,n<=i)
  (c:∀(d:aM)(b:aG)(A:bX)(a:Dk)(s:aN)(H:Hp)(E:Kp),MN k (A.deeper (jE x (DG st) ⇑s d b))->Ls (K3 Nc P w K mg base N x (DG st) d b A a s H E).Hb O W (FQ st) f) :
  FD P w K mg base Nc (k+1) d e ps (DS K (Hw m f) n):=by
 subst g;show F.ok S (λvs H Q E h=>by rw[l];apply h.1) λb A a s H vs Q E o h=>⟨_,c d b A a s H E o,?_⟩;apply Sv j h
def uL{st:cJ}{x:bH}{D:List PV->Option PV}{k:Nat}{g:aM}(o:Def K mg "law" st)(j:mg "law" = aA (.ref g))
  (r:∀(FH c h:aG)(i:I')(d Bi u:aG),i8 (cX "law" "law" (HI st) (FQ st) (DG st) .none FH c h i d Bi) ⟨[u],[]⟩=pure [(x,u)])
  (H:∀(a:b7)(f:aM)(b:gj),K.In a->a.Ns bP mg->MU K "law" "law" st f b->FD P w K mg a Nc k f b [x] (DS K D 1)) :
  ∃b:gj,(∀(s:aN)(u:aG),qh s b ⟨[u],[]⟩ [(x,u)])/\∀a:b7,K.In a->a.Ns bP mg->FD P w K mg a Nc k g b [x] (DS K D 1):=by
 let⟨f,b,l,F⟩:=o.ex;let e:=j.symm.trans l;cases e;show⟨b,?_,λa q p=>H a g b q p F⟩;let⟨y,t,FH,c,h,i,d,Bi,m,rfl,v,n⟩:=F.ex;apply λs u=>.of_eq (r FH c h i d Bi u)
end
@[simp] def xw(i:Nat)(s:ZG):Dz i s=(s[i]?).join:=rfl
@[simp] def zW(l:PV)(s:ZG):DB l s=aA l:=rfl
@[simp] def QO(g:PV->PV->Option PV)(a b:XE)(s:ZG):DA g a b s=(a s).bind λx=>(b s).bind λy=>g x y:=rfl
@[simp] def yB(g:PV->Option PV)(a:XE)(s:ZG):NR g a s=(a s).bind g:=rfl
@[simp] def Wd(f:XE)(s:ZG):FG f s=(f s).bind λl=>if HA l=aD then aA l else aB:=rfl
@[simp] def yA(s:ZG):HE [] s=aA []:=rfl
@[simp] def Zy(f:XE)(fs:List XE)(s:ZG):HE (f::fs) s=(f s).bind λx=>(HE fs s).map (x::·):=rfl
@[simp] def Xx(D:List PV->Option PV)(fs:List XE)(s:ZG):BO D fs s=(HE fs s).bind D:=rfl
@[simp] def PM(fs:List XE)(s:ZG):DU fs s=(HE fs s).map .tup:=rfl
@[simp] def xA(fs:List XE)(s:ZG):FV fs s=(HE fs s).map .lst:=rfl
@[simp] def yo(g:PV->Option Int->Option Int->Option PV)(a:XE)(lo E5:XO)(s:ZG):Ho g a lo E5 s=(a s).bind λx=>(lo s).bind λl=>(E5 s).bind λu=>g x l u:=rfl
@[simp] def UM(s:ZG):F9 s=aA aB:=rfl
@[simp] def gI_ii(g:L0)(i j:Int):AZ g (.int i) (.int j)=aA (.int (g i j)):=rfl
@[simp] def gB_ii(g:Int->Int->Bool)(i j:Int):Er g (.int i) (.int j)=aA (.Iv (g i j)):=rfl
@[simp] def Zi5(C:J_)[∀i j,Decidable (C i j)](g:L0)(i j:Int):Cd C g (.int i) (.int j)=if C i j then aA (.int (g i j)) else aB:=rfl
@[simp] def zQ(l:List PV)(i:Int):Hu (.tup l) (.int i)=HG l i:=rfl
@[simp] def zR(l:List PV)(i:Int):Hu (.lst l) (.int i)=HG l i:=rfl
@[simp] def zS(l:List PV)(i:Int):Hu (.cst l) (.int i)=HG l i:=rfl
@[simp] def Zi6(f:XE)(s:ZG):xB f s=(f s).bind Eu:=by
 delta xB
 cases f s with
 | none=>rfl
 | some a=>cases a<;>rfl
@[simp] def z5(b:Bool):Eu (.Iv b)=aA b:=rfl
@[simp] def nq(a b:XT)(s:ZG):D3 a b s=(a s).bind λc=>if c=aD then b s else aA aC:=rfl
@[simp] def Zd9(a b:XT)(s:ZG):HK a b s=(a s).bind λc=>if c=aD then aA aD else b s:=rfl
@[simp] def ix(a:XT)(s:ZG):HR a s=(a s).map not:=rfl
@[simp] def fD(a b:XE)(s:ZG):DW a b s=(xB a s).bind λc=>if c=aD then b s else aA (.Iv aC):=rfl
@[simp] def yC(a b:XE)(s:ZG):Ke a b s=(xB a s).bind λc=>if c=aD then aA (.Iv aD) else b s:=rfl
@[simp] def xy(a:XE)(s:ZG):EC a s=(xB a s).map λc=>.Iv !c:=rfl
@[simp] def ZT(c:XT)(a b:XE)(s:ZG):BM c a b s=(c s).bind λk=>if k=aD then a s else b s:=rfl
@[simp] def hx(neg:Bool)(a:XE)(s:ZG):K1 neg a s=(a s).bind (EJ neg):=rfl
@[simp] def wz(s:ZG):KI s=aA (.IA s):=rfl
@[simp] def PL(f g:XS)(s:ZG):BS f g s=(f s).bind λo=>match o with | .IA Kl=>g Kl | r=>aA r:=rfl
@[simp] def U9(c:XT)(f g:XS)(s:ZG):HB c f g s=(c s).bind λk=>if k=aD then f s else g s:=rfl
@[simp] def kp(f:XE)(s:ZG):Hv f s=(f s).map .E7:=rfl
@[simp] def zm(i:Nat)(f:XE)(s:ZG):Hs i f s=(f s).map λl=>.IA (s.set i (aA l)):=rfl
@[simp] def yh(v:PV):Ly (.E7 v)=aA v:=rfl
@[simp] def wF(i:Int):HA (.int i)=aD:=rfl
@[simp] def wY(i:Bool):HA (.Iv i)=aD:=rfl
@[simp] def wC(i:bH):HA (.str i)=aD:=rfl
@[simp] def wD:HA .IB=aD:=rfl
@[simp] def wB(l:List PV):HA (.tup l)=BW l:=by rw[HA]
@[simp] def wG:BW []=aD:=rfl
@[simp] def vM(a:PV)(l:List PV):BW (a::l)=(HA a&&BW l):=rfl
def Xn{l:List α}{f:α->PV}(h:∀a∈l,HA (f a)=aD):BW (l.map f)=aD:=by rw[X8,mC,bK];apply h
@[simp] def wZ(l:E1):BW (l.map PV.int)=aD:=Xu l
abbrev pP(l:E1):PV:=.tup (iL l)
abbrev wP(W:Iz):PV:=.tup (W.map pP)
@[simp] def Uo(W:Iz):BW (W.map pP)=aD:=Xn λa _=>⋯
def oq(h:k<l.length):(iL l)[k]?=aA (.int (BR l k)):=by simp[BR,aI h]
def Xy{k:Nat}(h:k<l.length):HG (iL l) (k:Int)=aA (.int (BR l k)):=WA (oq h)
def QP{k:Nat}(h:k<W.length):HG (W.map pP) (k:Int)=aA (pP (FK W k)):=by show WA ?_;rw[af,Pj h];rfl
@[simp] def zM(l:E1):Ni [.tup (l.map PV.int)]=aA (.int l.sum):=by simp[Ni,N1,Yl l]
@[simp] def rL(l:E1):Ni [.lst (l.map PV.int)]=aA (.int l.sum):=by simp[Ni,N1,Yl l]
@[simp] def VE(l:I8):K4 [.lst (l.map PV.Iv)]=aA (.Iv (l.all id)):=by simp[K4,N1,TJ l]
@[simp] def oS(l:List PV):M5 [.tup l]=aA (.int (la l)):=rfl
@[simp] def tM(l:List PV):M5 [.lst l]=aA (.int (la l)):=rfl
@[simp] def zO(l:List PV):M5 [.cst l]=aA (.int (la l)):=rfl
@[simp] def xm(l:List PV):Jf [.lst l]=aA (.tup l):=rfl
@[simp] def xl(l:List PV):Jf [.tup l]=aA (.tup l):=rfl
@[simp] def uv(l:List PV):Cg [.tup l]=if BW l=aD then aA (.lst l) else aB:=rfl
@[simp] def uP(l:List PV):Cg [.lst l]=if BW l=aD then aA (.lst l) else aB:=rfl
@[simp] def xp(i j:Int):Jo [.int i,.int j]=aA (.int (if j<i then j else i)):=rfl
@[simp] def xq(i j:Int):F5 [.int i,.int j]=aA (.int (if j>i then j else i)):=rfl
@[simp] def yz(c:Bool):En [.Iv c]=aA (.int (if c then 1 else 0)):=rfl
@[simp] def yx(c:Int):En [.int c]=aA (.int c):=rfl
@[simp] def xu(i:Int):Az [.int i,.ty "int"]=aA (.Iv aD):=rfl
@[simp] def xv(i:Int):Az [.int i,.ty "bool"]=aA (.Iv aC):=rfl
@[simp] def xr(l:List PV):Az [.tup l,.ty "tuple"]=aA (.Iv aD):=rfl
@[simp] def xt(l:List PV):Az [.lst l,.ty "list"]=aA (.Iv aD):=rfl
def h8(n:Nat)(i j:Int):K0 (n+1) (.int i) (.int j)=aD:=rfl
def WL{f:α->PV}{g:β->PV}{p:PV->PV->Bool}(h:∀a b,p (f a) (g b)=aD):∀(l:List α)(m:List β),((l.map f).zip (m.map g)).all (λz=>p z.1 z.2)=aD
 | [],_=>⋯
 | _::_,[]=>⋯
 | a::l,b::m=>by rw[aa,aa,gA,kq,WL h l m,h a b];rfl
def nS(n:Nat)(l m:E1):K0 (n+2) (pP l) (pP m)=aD:=WL (λa b=>h8 n a b) l m
def Zea(n:Nat)(l m:E1):K0 (n+2) (.lst (iL l)) (.lst (iL m))=aD:=WL (λa b=>h8 n a b) l m
def Y7:iL l=iL m↔l=m:=by
 constructor
 ·ext h;apply(qJ (λa b e=>PV.int.inj e)).mp h
 ·ext h;rw[h]
def Zi7:pP l=pP m↔l=m:=by rw[PV.tup.injEq];apply Y7
@[simp] def Zi8(neg:Bool)(i j:Int):KD neg (.int i) (.int j)=aA (.Iv (if neg then !decide (i=j) else decide (i=j))):=by
 delta KD;rw[Be (h8 7 i j)];congr 2;cases neg<;>simp
@[simp] def zT(neg:Bool)(l m:E1):KD neg (.tup (l.map PV.int)) (.tup (m.map PV.int))=aA (.Iv (if neg then !decide (l=m) else decide (l=m))):=by delta KD;rw[Be (nS 6 l m)];have:decide ((PV.tup (l.map PV.int)) = .tup (m.map PV.int))=decide (l=m):=decide_eq_decide.mpr Zi7;rw[this]
@[simp] def Zi9(neg:Bool)(l m:E1):KD neg (.lst (l.map PV.int)) (.lst (m.map PV.int))=aA (.Iv (if neg then !decide (l=m) else decide (l=m))):=by delta KD;rw[Be (Zea 6 l m)];have:decide ((PV.lst (l.map PV.int)) = .lst (m.map PV.int))=decide (l=m):=decide_eq_decide.mpr (by rw[PV.lst.injEq];apply Y7);rw[this]
def Vz:∀{ls:List α},(∀a∈ls,∃s1,NQ T (q a) s0=aA s1/\ft s1=aA aD/\fe s1=aA (g a))->K6 T ft fe s0 (ls.map q)=aA (ls.map g)
 | [],_=>rfl
 | a::r,h=>by let⟨s1,i,d,c⟩:=h a ah;let f:=Vz (ls:=r) λb e=>h b (aR _ e);rw[aa,aa];delta K6;rw[i];dsimp[aY,d,if_true,c,f,fB]
def Sw:∀{ls:List α},(∀a∈ls,∃s1,NQ T (q a) s0=aA s1/\ft s1=aA (c a)/\(c a=aD->fe s1=aA (g a)))->K6 T ft fe s0 (ls.map q)=aA ((ls.filter c).map g)
 | [],_=>rfl
 | a::r,h=>by
  let⟨s1,j,f,e⟩:=h a ah;let d:=Sw (ls:=r) λb i=>h b (aR _ i);rw[aa];delta K6;rw[j];dsimp[aY,f]
  cases Fq:c a with
  | true=>simp[e Fq,d,Fq]
  | false=>simp[d,Fq]
def Z2(ls:List α)(q g:α->PV)(b:fi s=aA (ls.map q))(c:la ls<=10000)
  (h:∀a∈ls,∃s1,NQ T (q a) (F3 n Bm s)=aA s1/\ft s1=aA aD/\fe s1=aA (g a)):HC n Bm fi T ft fe s=aA (.lst (ls.map g)):=by
 delta HC;rw[b];dsimp[aY,aK,Be c,Vz h,fB]
def X7(ls:List α)(q g:α->PV)(c:α->Bool)(b:fi s=aA (ls.map q))(d:la ls<=10000)
  (h:∀a∈ls,∃s1,NQ T (q a) (F3 n Bm s)=aA s1/\ft s1=aA (c a)/\(c a=aD->fe s1=aA (g a))):HC n Bm fi T ft fe s=aA (.lst ((ls.filter c).map g)):=by
 delta HC;rw[b];dsimp[aY,aK,Be d,Sw h,fB]
def UE:∀{ls:List PV}{s:ZG}(Jv:Nat->ZG->Prop),Jv 0 s->(∀(i:Nat) l st,ls[i]?=aA l->Jv i st->∃s1 s2,NQ T l st=aA s1/\fb s1=aA (.IA s2)/\Jv (i+1) s2)->
  ∃f,KR T fb ls s=aA (.IA f)/\Jv (la ls) f
 | [],s,Jv,h0,_=>⟨s,rfl,h0⟩
 | l::r,s,Jv,h0,h=>by let⟨s1,s2,a,b,c⟩:=h 0 l s rfl h0;let⟨f,d,e⟩:=UE (ls:=r) (s:=s2) (λi=>Jv (i+1)) c λi g st j k=>h (i+1) g st (~~~j) k;show⟨f,?_,e⟩;delta KR;rw[a];dsimp[aY,b];apply d
def y9(h:(K5 n)[i]?=aA l):i<n/\l = .int (i:Int):=by let a:=(aS.mp h).1;delta K5 at a h;rw[aK,b8] at a;rw[af,fm a] at h;apply⟨a,(bG h).symm⟩
def kP{lo:Int}(h:(D7 lo n)[i]?=aA l):i<n/\l = .int (lo+(i:Int)):=by let a:=(aS.mp h).1;delta D7 at a h;rw[aK,b8] at a;rw[af,fm a] at h;apply⟨a,(bG h).symm⟩
@[simp] def tv(n:Nat):(K5 n).length=n:=by delta K5;simp
@[simp] def U8(lo:Int)(n:Nat):(D7 lo n).length=n:=by delta D7;simp
@[simp] def wK(i:Nat)(l:PV)(s:ZG):NQ (.one i) l s=aA (s.set i (aA l)):=rfl
def tb(i j:Nat)(a b:PV)(s:ZG):NQ (.many [i,j]) (.tup [a,b]) s=aA ((s.set i (aA a)).set j (aA b)):=rfl
def XJ(m:List PV):K7 m=(aQ (la m)).map λ(i:Nat)=>.tup [.int (i:Int),m.getD i .IB]:=by
 apply((gq));ext i;rw[af];by_cases h:i<la m
 ·have:(K7 m)[i]?=aA (.tup [.int (i:Int),m[i]]):=by delta K7;simp
  rw[this,fm h];simp[aI h]
 ·rw[dI (by rw[VA];lia),dI (~~~h)];rfl
def lR(m n:List PV)(h:la n=la m):Lo m n=(aQ (la m)).map λ(i:Nat)=>.tup [m.getD i .IB,n.getD i .IB]:=by
 apply((gq));ext i;rw[af];by_cases a:i<la m
 ·have:(Lo m n)[i]?=aA (.tup [m[i],n[i]]):=by delta Lo;rw[af,mV (z:=(m[i],n[i])) |>.mpr ⟨aI a,aI ()⟩];rfl
  rw[this,fm a];simp[aI a,aI (show i<la n by lia)]
 ·rw[dI (by rw[ZJ];lia),dI (~~~a)];rfl
def QQ(l:E1)(i:Nat)(h:i<la l):(iL l).getD i .IB = .int (BR l i):=by rw[aP,oq h];rfl
def td(W:Iz)(i:Nat)(h:i<la W):(W.map pP).getD i .IB=pP (FK W i):=by rw[aP,af,Pj h];rfl
@[simp] def Zeb(f:XE)(s:ZG):Ai [f] s=(f s).bind λa=>(D8 a).bind λj=>if -1000000<=j/\j<=1000000 then aA (K5 j.toNat) else aB:=by
 delta Ai
 cases h:f s with
 | none=>simp[h]
 | some a=>cases a<;>simp[h,D8]
@[simp] def Zec(f g:XE)(s:ZG):Lp [f,g] s=(f s).bind λa=>(g s).bind λb=>(D8 a).bind λi=>(D8 b).bind λj=>if -1000000<=i/\i<=1000000/\-1000000<=j/\j<=1000000 then aA (D7 i (j-i).toNat) else aB:=by
 delta Lp
 cases h:f s with
 | none=>simp[h]
 | some a=>cases ID:g s with
  | none=>simp[h,ID]
  | some b=>cases a<;>cases b<;>simp[h,ID,D8]
@[simp] def Sx(i:Int):D8 (.int i)=aA i:=rfl
@[simp] def Vj(i:List PV):A6 (.lst i)=aA i:=rfl
@[simp] def wx(b:Bool)(f:XE)(s:ZG):Ay b [f] s=(f s).bind λl=>(B8 b l).map K7:=by
 delta Ay;cases h:f s<;>simp[h]
@[simp] def zh(l:List PV):B8 aC (.tup l)=aA l:=rfl
@[simp] def zg(l:List PV):B8 aD (.lst l)=aA l:=rfl
@[simp] def zi(l:List PV):B8 aD (.cst l)=aA l:=rfl
@[simp] def wM(f:XE)(s:ZG):Af f s=(f s).bind LF:=rfl
@[simp] def asS_l(l:List PV):LF (.lst l)=aA l:=rfl
@[simp] def asS_c(l:List PV):LF (.cst l)=aA l:=rfl
def PJ(h:f s=aA (.tup l)):Nk f s=aA l:=by delta Nk;rw[h]
@[simp] def vK(O:Iw)(fi:XL)(T:oo)(fb:XS)(s:ZG):FP O fi T fb s=(fi (D9 O s)).bind λls=>KR T fb ls s:=rfl
@[simp] def wu(s:ZG):Ac s=aA aD:=rfl
def Ta(h:f s=aA (.int (n:Int)))(a:n<=10000):Ai [f] s=aA (K5 n):=by rw[Zeb,h];dsimp[aY,Sx];rw[Be ⟨(),()⟩,fV]
def RD(h:f s=aA (.int i))(h':g s=aA (.int j))(b : -10000<=i/\i<=10000)(a : -10000<=j/\j<=10000):Lp [f,g] s=aA (D7 i (j-i).toNat):=by rw[Zec,h,h'];dsimp[aY,Sx];rw[Be ⟨(),(),(),()⟩]
def Zja(a : -10000<=i)(h:i<=10000):LD i j:=by
 show .inl ?_;let e:(2^64:Int)=18446744073709551616:=∅
 rw[e];lia
def Tb(h:c=aD):NN c=aA .unit:=by delta NN;rw[Be h]
def PR(h:f s=aA (.lst n))(b:Lu s i=aA m)(a:m.length+n.length<=10000):Es i f s=aA (.IA (s.set i (aA (.lst (m++n))))):=by delta Es;rw[h];dsimp[aY,Vj,b,Tb (decide_eq_true a)]
def PU(h:f s=aA l)(b:Lu s i=aA m)(a:m.length<=10000):Ln i f s=aA (.IA (s.set i (aA (.lst (m++[l]))))):=by delta Ln;rw[h];dsimp[aY,b,Tb (decide_eq_true a)]
def wN(j:fk s=aA (.int k))(h:f s=aA l)(a:Lu s i=aA m)(hp:BW m=aD)(d:HA l=aD)(b:0<=k)(g:k<=1000000)(e:m.length<=10000) :
  N9 i fk f s=aA (.IA (s.set i (aA (.lst (m.take k.toNat++l::m.drop k.toNat))))):=by
 delta N9;rw[j,h];let c:(BW m&&HA l&&decide (0<=k/\k<=1000000/\m.length<=10000))=aD:=by rw[hp,d,decide_eq_true ⟨b,g,e⟩];rfl
 dsimp[aY,Sx,a,Tb c]
def ta(h:f s=aA l)(e:fk s=aA (.int k))(a:Lu s i=aA m)(hp:BW m=aD)(d:HA l=aD)(b:Kw m.length k=aA j) :
  JC i fk f s=aA (.IA (s.set i (aA (.lst (m.set j l))))):=by
 delta JC;rw[e,h];let c:(BW m&&HA l)=aD:=by rw[hp,d];rfl
 dsimp[aY,Sx,a,Tb c,b,fB]
def bt(h:f s=aA l)(g:fa s=aA (.int a))(q:fb s=aA (.int b))(d:Lu s i=aA m)(e:Kw m.length a=aA j)(o:m[j]?=aA (.lst n))(hp:BW n=aD)(k:HA l=aD)(p:Kw n.length b=aA c) :
  Cm i fa fb f s=aA (.IA (s.set i (aA (.lst (m.set j (.lst (n.set c l))))))):=by
 delta Cm;rw[h,g,q];let r:(BW n&&HA l)=aD:=by rw[hp,k];rfl
 dsimp[aY,Sx,Vj,d,e,o,Tb r,p,fB]
def Sh(h:k<n):Kw n (k:Int)=aA k:=by delta Kw;rw[Be (),Be ()];rfl
def PX(a:0<j)(h:j<=10000):M4 i j:=⟨a,()⟩
variable {K:aH}
def GL(K:aH):Dh:=λx y H Q=>∃a b xs ys,x = .ref a/\y = .ref b/\DJ K H a xs/\DJ K H b ys/\xs.length+ys.length<=sizeLine/\
 (xs=[]->Q (.ref b) H)/\(ys=[]->Q (.ref a) H)/\∀p,H p=aB->Q (.ref p) (upd H p (.tup (xs++ys)))
def QR:FL X (iI .Add) (GL X.K):=by
 ext N s U H x y v u Q I m k h;let⟨a,b,xs,ys,rfl,rfl,p,q,B,t,w,J⟩:=h;by_cases e:xs=[]
 ·cases m;cases k;let⟨G,E,D,_⟩:=I.tuple p;let⟨d,M,p2,_⟩:=I.tuple q;let⟨⟨F,dd,o,A⟩,r,z,n,C⟩:=id D;let⟨⟨l,i,data2,g⟩,c,j,L,f⟩:=id p2;subst z C j f
  apply qk ⟨_,r,rfl⟩ ⟨_,c,rfl⟩ nK pq kI kC (jh _ _)
   (tuple_addW0 a b G.toArray d.toArray n L dd i A g (by simp[E.abb.mpr e])) ⟨r,c,.ref b,H,I,rfl,t e⟩
 ·apply Zda _ _ _ _ _ _ _ _ _ I m k ⟨a,b,xs,ys,rfl,rfl,p,q,e,B,w,λ_=>J⟩
def Jd:PV->PV->Option PV
 | .tup m,.tup n=>if m.length+n.length<=10000 then aA (.tup (m++n)) else aB
 | _,_=>aB
def QS:K2 K (GL K) Jd:=λH x y a b l h fb j o e Q k=>by
 cases a with
 | tup m=>cases b with
  | tup n=>
   let e:(if m.length+n.length<=10000 then aA (PV.tup (m++n)) else aB)=aA l:=e;split at e
   case isFalse=>cases e
   rename_i s;cases e;let⟨p,xs,rfl,hp,g⟩:=j.b_;let⟨t,ys,rfl,f,c⟩:=o.b_;show⟨p,t,xs,ys,rfl,rfl,DJ.of hp,DJ.of f,by rw[g.len,c.len];apply eK (lt_size s),λz=>?_,λz=>?_,λq i=>?_⟩
   ·let:=bY.mp (by rw[<-g.len,z];rfl);subst this;apply k _ _ fb (MX.refl _) o λr d=>.inr (.inl d)
   ·let:=bY.mp (by rw[<-c.len,z];rfl);subst this;rw[ck] at k;apply k _ _ h (MX.refl _) j λr d=>.inl d
   ·apply k _ _ (h++fb) (MX.new i _) (Is.tup a_ ((g.append c).mono (MX.new i _))) λr d=>(ag.mp d).elim .inl λz=>.inr (.inl z)
  | _=>cases e
 | _=>cases e
end _v
namespace _p
open _l _v
def N4:XS:=(Hv (FG (BO Ni [DA Hu (Dz 0) (Dz 1)])))
def EE:=Hw 2 N4
def JA:=Hw 5 (BS (Hs 1 (FV []))
  (BS (FP [1] (Ay aC [Dz 0]) (.many [2,3]) (FP [1] (Lp [DA Xa (Dz 2) (DB (.int 1)),BO M5 [Dz 0]]) (.one 4) (Es 1 (HC 1 [2,4] (Ai [DA Hu (Dz 3) (Dz 4)]) (.one 0) Ac (FG (DU [Dz 1,Dz 2,Dz 0]))))))
  (Hv (Dz 1))))
def Jp:XS:=(Hv (FG (DA Hu (DA Jg (Ho Ca (Dz 0) (Lr (Dz 1)) (Lr (DA Xa (Dz 1) (DB (.int 1))))) (FV [DB (.int 0)])) (DB (.int 0)))))
def Aq:=Hw 2 Jp
def N5:XS:=(Hv (FG (DW (BO Az [Dz 0,DB (.ty "int")]) (EC (BO Az [Dz 0,DB (.ty "bool")])))))
def Gm:=Hw 1 N5
def JN:=Hw 9 (BS (Hs 3 (FV []))
  (BS (FP [3,5] (Ai [Dz 2]) (.one 4) (BS (N9 3 (DA XI (Dz 1) (DA Xa (Dz 4) (DB (.int 1)))) (Dz 4))
  (Hs 1 (FG (DA We (Dz 1) (DA Xa (Dz 4) (DB (.int 1))))))))
  (BS (Hs 5 (DB (.E6 [] [])))
  (BS (N0 0 (.many [6,7]) (BS (Hs 8 (FG (DU [BO Jo [DA Hu (Dz 3) (Dz 6),DA Hu (Dz 3) (Dz 7)],BO F5 [DA Hu (Dz 3) (Dz 6),DA Hu (Dz 3) (Dz 7)]])))
  (Je 5 (Dz 8) (DA Ed (Dz 0) (DU [Dz 6,Dz 7])))))
  (Hv (Dz 5))))))
def Gk:=Hw 10 (BS (Hs 4 (DB (.E6 [] [])))
  (BS (Hs 5 (FV [FG (DB (.int 0))]))
  (BS (FP [4,5] (Ai [Dz 1]) (.one 6) (FP [4,5] (Lp [DA Xa (Dz 6) (DB (.int 1)),Dz 1]) (.one 7) (BS (Hs 8 (FG (BO Jo [DA yO (DA XI (Dz 0) (DB (.int 2))) (DA Xa (DB (.int 1)) (DA XI (DA We (Dz 0) (DB (.int 2))) (Dz 3))),Dz 2])))
  (BS (Hs 0 (FG (DA Hu (FV [DA We (Dz 0) (DB (.int 2)),DA We (DA We (Dz 0) (DB (.int 2))) (Dz 3)]) (DA XI (Dz 0) (DB (.int 2))))))
  (HB (xB (DA KY (Dz 8) (DB (.int 0)))) (BS (Je 4 (DU [Dz 6,Dz 7]) (Dz 8))
  (Hs 2 (FG (DA Tq (Dz 2) (Dz 8))))) KI)))))
  (BS (FP [4,5] (Ai [Dz 1]) (.one 9) (Lz [4,5] 4 (.many [6,7]) (BS (HB (D3 (xB (DA (Nf aC) (Dz 6) (Dz 5))) (xB (DA (Nf aD) (Dz 7) (Dz 5)))) (Ln 5 (FG (Dz 7))) KI)
  (HB (D3 (xB (DA (Nf aC) (Dz 7) (Dz 5))) (xB (DA (Nf aD) (Dz 6) (Dz 5)))) (Ln 5 (FG (Dz 6))) KI))))
  (LB 4 (BO En [DA (KD aC) (BO M5 [Dz 5]) (Dz 1)]))))))
def JV:=Hw 5 (BS (Hs 2 (HC 1 [1] (Ai [Dz 1]) (.one 0) Ac (DA Gz (FV [DB (.int 0)]) (Dz 1))))
  (BS (N0 0 (.many [3,4]) (BS (Cm 2 (Dz 3) (Dz 4) (DA Ed (Dz 0) (DU [Dz 3,Dz 4])))
  (Cm 2 (Dz 4) (Dz 3) (DA Ed (Dz 0) (DU [Dz 3,Dz 4])))))
  (Hv (FG (BO Jf [HC 1 [] (Af (Dz 2)) (.one 0) Ac (BO Jf [Dz 0])])))))
def Js:=Hw 2 (Hv (FG (DW (BO Az [Dz 0,DB (.ty "tuple")]) (DW (DA (KD aC) (BO M5 [Dz 0]) (Dz 1)) (BO K4 [HC 1 [] (Nk (Dz 0)) (.one 0) Ac (BO Gm [Dz 0])])))))
end _p
namespace _v
open _l
def LH(f:XE):XL:=λs=>match Af f s with
 | some m=>aA m
 | none=>Nk f s
def Zl2(q:f s=aA (.lst l)):LH f s=aA l:=by delta LH Af;rw[q];rfl
def Ef:List Int->Int
 | []=>0
 | [x]=>x
 | x::y::r=>if Ef (y::r)<x then Ef (y::r) else x
def RE:∀{l:E1},l≠[]->Ef l∈l/\∀x∈l,Ef l<=x
 | [],h=>absurd rfl h
 | [x],_=>by simp[Ef]
 | x::y::r,_=>by
  let⟨a,b⟩:=RE (l:=y::r) ⋯;delta Ef;split
  ·rename_i h;show⟨aR _ a,λz c=>?_⟩;rcases aW.mp c with rfl | c
   ·lia
   ·apply b z c
  ·rename_i h;show⟨⋯,λz c=>?_⟩;rcases aW.mp c with rfl | c
   ·lia
   ·let:=b z c;lia
def Zed(h:m∈l)(g:∀x∈l,m<=x):Ef l=m:=by
 let⟨a,b⟩:=RE (l:=l) (by ext z;subst z;simp at h);let:=b m h;let:=g _ a
 lia
def PY(val:Fp):∀k,kQ (λi j=>decide (val i<val j)) k<=k/\∀j,j<=k->val (kQ (λi j=>decide (val i<val j)) k)<=val j
 | 0=>⟨aZ _,λj c=>by rw[Nat.le_zero.mp c];apply fM _⟩
 | k+1=>by
  let⟨a,b⟩:=PY val k;delta kQ;split
  ·rename_i h;let h:=of_decide_eq_true h;show⟨aZ _,λj c=>?_⟩;by_cases e:j=k+1
   ·subst e;apply fM _
   ·let:=b j ();lia
  ·rename_i h;let h:¬_:=λz=>h (decide_eq_true z);show⟨(),λj c=>?_⟩;by_cases e:j=k+1
   ·subst e;lia
   ·apply b j ()
noncomputable def sortI(l:E1):List Int:=l.mergeSort λa b=>decide (a<=b)
def sortI_perm(l:E1):(sortI l).Perm l:=p0 l _
def VG(l:E1):(sortI l).Pairwise (·<=·):=by let:=nP (le:=λa b:Int=>decide (a<=b)) (λa b c e d=>by dsimp[decide_eq_true_eq] at *;lia) (λa b=>by dsimp[ig,decide_eq_true_eq];lia) l;apply this.imp λh=>of_decide_eq_true h
def kn(hp:m.Perm l)(hs:m.Pairwise (·<=·)):m=sortI l:=
 mz (λa b _ _ d c=>Int.le_antisymm d c) hs (VG l) (hp.trans (sortI_perm l).symm)
def VH:∀{us:E4}{ns:E1},jI us ns->Bj (ns.map V.int) us
 | _,_,.nil=>.nil
 | _,_,.cons n t h=>.cons ⟨t,rfl⟩ (VH h)
def LG(K:aH):List V->Hp->IG->Prop:=λxs H Q=>∃p ns,xs=[.ref p]/\BZ K H p (ns.map V.int)/\ns.length<64/\∀l,H l=aB->Q (.ref l) (upd H l (.lst ((sortI ns).map V.int)))
def Ww:Ag X (.builtin "sorted") (LG X.K):=by
 ext x s U H xs y Q I r h;let⟨p,ns,rfl,k,w,q⟩:=h;let⟨u,rfl,j⟩:=W9 r;cases j;let⟨l,g,pl,f⟩:=I.list k;let c:=g.length;rw[aK] at c f;show sorted_ints pl.isList (Vt g) () λa v t m i=>?_;let⟨e,n⟩:=sortedAll_at s.heap l a;let d:=kn m i;subst d;show⟨.ref (⇑s+1),_,I.laid (λb o=>sortedAll_old) (lI _) (show NI X.prog X.w _ _ _ (.lst ((sortI ns).map V.int)) from⟨?_,a.toList,e,VH t,?_⟩),rfl,q _ (I.Bh.fresh (lI _))⟩
 ·rw[aK,(sortI_perm ns).length_eq];apply f
 ·rw[lO];apply n
def CJ:List PV->Option PV
 | [.lst l]=>(F2 l).bind λns=>if ns.length<64 then aA (.lst (iL (sortI ns))) else aB
 | [.cst l]=>(F2 l).bind λns=>if ns.length<64 then aA (.lst (iL (sortI ns))) else aB
 | _=>aB
def v8{K:aH}:Gf K (LG K) CJ:=λH vs ls l o h e Q k=>by
 let b:∀(p:aM)(ns:E1),BZ K H p (ns.map V.int)->la ns<64->l = .lst (iL (sortI ns))->LG K [.ref p] H Q:=by ext p ns hp j rfl;show⟨p,ns,rfl,hp,j,λq g=>k _ _ [q] (MX.new g _) (Is.lst a_ (KA.ofInts _)) ⋯ λr m=>?_⟩;rw[aO.mp m];apply⟨g,by rw[a_];apply cE⟩
 delta CJ at e;split at e
 ·let⟨ns,d,a⟩:=Zc e;split at a
  ·cases a;let⟨v,rfl,i⟩:=h.cb;let c:=Z9 d;subst c;let⟨p,xs,n,rfl,hp,f,_⟩:=i.lst_inv;let⟨rfl,rfl⟩:=f.iL;apply b p ns (.inl (.inl hp)) (by assumption) rfl
  ·cases a
 ·let⟨ns,d,a⟩:=Zc e;split at a
  ·cases a;let⟨v,rfl,i⟩:=h.cb;let c:=Z9 d;subst c;let⟨p,xs,rfl,hp,f⟩:=i.fS;let⟨rfl,rfl⟩:=f.iL;apply b p ns hp.sq (by assumption) rfl
  ·cases a
 ·cases e
def Ci:XS:=λ_=>aB
def Vg{O W:Iw}{st:cJ}:DO X O W st Ci:=by ext a s U H D I h;let⟨_,_,_,_,_,q,_⟩:=h;cases q
def PZ:∀(us:E4)(k:Nat),(∀(i:Nat)(v:aG),us[i]?=aA v->∃t,v=gM ((k+i:Nat):Int) t)->Bj ((aQ (la us)).map λi=>V.int ((k+i:Nat):Int)) us
 | [],k,_=>.nil
 | u::us,k,h=>by
  let⟨t,rfl⟩:=h 0 u rfl;rw[bB,iU,aa,bR];show .cons ⟨t,rfl⟩ ?_;let:=PZ us (k+1) λi v a=>by let⟨t,e⟩:=h (i+1) v (~~~a);apply⟨t,by rw[e];congr 2;lia⟩
  show Eq.mp (congrArg (λl=>Bj l us) (az λi _=>?_)) this;change V.int _=V.int _;congr 2;lia
def GU(MG:De):TE:=λU H Q=>MG U H λvs H1=>∃j:Nat,vs=[.int (j:Int)]/\j<=10000/\∀l,H1 l=aB->Q (.ref l) (upd H1 l (.lst ((aQ j).map λ(i:Nat)=>V.int (i:Int))))
section
variable {X:Cx}{a:bS}{MG:De}{p p2 pos eF:gy}
def Zq(y:X.calm=aD)(g:Gl X "list")(u:X.mg "list" = aB)(f:Gl X "range")(m:X.mg "range" = aB)(J:M8 X [a] MG)(hs:aL [a] X.env=[(aC,eval a X.env)]|>On)
  (G:aL [.Call (.Name "range" p2) [a] [] eF] X.env=(aC,eval (.Call (.Name "range" p2) [a] [] eF) X.env)::aL [] X.env|>On) (k:(cQ pos (aL [] X.env)).any (·.1)=aC|>On) :
  DC X (.Call (.Name "list" p) [.Call (.Name "range" p2) [a] [] eF] [] pos) (GU MG):=by
 ext C s U H Q I h;show cS (Yt I g u rfl ?_);show br ?_ G k;show iS ?_;show sP (Yt I f m sQ (br (ZV (J eF C s U H _ I h) λM s1 ⟨vs,N,A,E,x⟩=>?_) hs rfl));let⟨j,e,L,q⟩:=x;subst e
 cases E with
 | cons r Dj=>
  cases Dj;let⟨t,rfl⟩:=r;show call_range_1 (jH ?_);let E9:sizeLine=2^24:=rfl;show call_list_range (n:=j) (I.ok.hd y) (tZ ..) (small_one () () () ()) (by rw[rangeSize_one];split<;>lia) () λh' tk c F B D d=>?_;let w:=A.kept (t':=s1.toks+1+1) (h':=s1.heap.push {cls:=.type "range",data:=.fields #[.int 0 s1.toks,.int (j:Int) t,.int 1 (s1.toks+1)]}) λb o e=>aF _ e;show⟨.ref _,_,w.laid B (aZ _) (show NI X.prog X.w _ _ _ (.lst ((aQ j).map λ(i:Nat)=>V.int (i:Int))) from⟨by simp;lia,c.toList,F,?_,?_⟩),rfl,q _ (w.Bh.fresh (aZ _))⟩
  ·let:=PZ c.toList 0 λi v z=>by let⟨t',e⟩:=d.2 i v (~~~z);apply⟨t',by rw[e];congr 1;lia⟩
   rw[bJ,d.1] at this;show Eq.mp (congrArg (λl=>Bj l c.toList) (az λi _=>?_)) this;congr 2;lia
  ·rw[lO];apply D
end
def LJ:PV->Option PV
 | .int k=>if 0<=k/\k<=10000 then aA (.lst (iL ((aQ k.toNat).map λ(i:Nat)=>(i:Int)))) else aB
 | _=>aB
def vc(n:X.calm=aD)(d:Gl X "list")(h:X.mg "list" = aB)(c:Gl X "range")(g:X.mg "range" = aB)(y:Kz X a fa)(hs:aL [a] X.env=[(aC,eval a X.env)]|>On)
  (v:aL [.Call (.Name "range" p2) [a] [] eF] X.env=(aC,eval (.Call (.Name "range" p2) [a] [] eF) X.env)::aL [] X.env|>On) (f:(cQ pos (aL [] X.env)).any (·.1)=aC|>On) :
  M3 X (.Call (.Name "list" p) [.Call (.Name "range" p2) [a] [] eF] [] pos) (NR LJ fa):=
 DC.imp (Zq n d h c g (ZM y Xc hs) hs v f)<|by
  ext U H Q ⟨s,l,env,e,k⟩;let⟨x,u,b⟩:=Zc e;show⟨λ_=>False,s,[x],λ_ z=>z.elim,env,by change(fa s).bind _=_;rw[u];rfl,λvs C D s1 t _=>?_⟩;let⟨w,rfl,o⟩:=t.cb
  cases x with
  | int kk=>
   delta LJ at b;simp only at b;split at b
   case isFalse=>cases b
   rename_i B;cases b;show⟨kk.toNat,by rw[o.int_inv.1];congr 2;lia,(),λq j=>?_⟩;let m:(aQ kk.toNat).map (λ(i:Nat)=>V.int (i:Int))=((aQ kk.toNat).map λ(i:Nat)=>(i:Int)).map V.int:=by rw[bR];rfl
   rw[m];show k _ _ [q] (s1.trans (MX.new j _)) (Is.lst a_ (KA.ofInts _)) ⋯ λr A=>?_;rw[aO.mp A];apply⟨MX.off s1 j,by rw[a_];apply cE⟩
  | _=>cases b
variable {K:aH}
def Ep(i j:Int):Prop:=i.natAbs.log2<67108863/\j.natAbs.log2<67108863
def Jq(i j:Int):Prop:=j≠0/\j.natAbs.log2<9000
instance (i j:Int):Decidable (Ep i j):=by delta Ep;infer_instance
instance (i j:Int):Decidable (Jq i j):=by delta Jq;infer_instance
def vm(i:Int):j9 i<=i.natAbs.log2+1:=by
 delta j9;split
 ·apply dH _
 ·apply aZ _
def Ep.ok(h:Ep i j):IntMulOk i j:=by
 delta IntMulOk km.Int.intTooBig;let d:=vm i;let b:=vm j;let a:=h.1;let c:=h.2
 have:decide (((j9 i:Int)+(j9 j:Int))>(bitsLine:Int))=aC:=decide_eq_false (by
  let e:(bitsLine:Int)=134217728:=rfl;rw[e];lia)
 rw[this];simp
section
variable {X:Cx}{a b:bS}{fa fb:XE}{pos:gy}
def Zee:FL X (iI .Mult) (Eo Ep λi j=>.int (i*j)):=w6 λ_ _ _ _ _ _ _ a q=>mul_int q a.ok
def qs:FL X (iI .FloorDiv) (Eo Jq λi j=>.int (i.fdiv j)):=w6 λ_ _ _ _ _ _ _ a q=>floordiv_int a.1 q (.inl (PyProof.noPylong_of_log2 a.2))
abbrev AW:=Cd Ep (· * ·)
abbrev Zgr:=Cd Jq Int.fdiv
def yk(c:Kz X a fa)(d:Kz X b fb):Kz X (.BinOp a .Mult b pos) (DA AW fa fb):=Uw Zee (Ur _ _) c d
def lD(c:Kz X a fa)(d:Kz X b fb):Kz X (.BinOp a .FloorDiv b pos) (DA Zgr fa fb):=Uw qs (Ur _ _) c d
end
def P0:∀{ns:E1}{n:Int},n∈ns->n.natAbs.log2<=nQ (ns.map .int)
 | m::r,n,h=>by
  rw[aa];dsimp[nQ,PySem.W.WData.weight];rcases aW.mp h with rfl | h
  ·by_cases a:n=0
   ·subst a;have:Nat.log2 (Int.natAbs 0)=0:=by decide +kernel
    lia
   ·rw[Fb (~~~a)];lia
  ·let:=P0 h
   lia
def AY(i:Nat)(f0:XE):XS:=λs=>(f0 s).bind λl0=>match s[i]? with
 | some (aA l)=>if HA l0=aD then aA (.E7 (.tup [l0,l])) else aB
 | _=>aB
def kv(w:DC X e (Mg (As (NF X.K f0) (As (KU i) M6))))(d:i∈O|>Op):DO X O [] (.Return (aA e) pos) (AY i f0):=Df.imp (PE w)<|by
 ext D U H ⟨y,bD,s,f,r,e,k⟩;let⟨g,h,e⟩:=Zc e;split at e
 case h_2=>cases e
 rename_i l n;split at e
 case isFalse=>cases e
 rename_i o;cases e;let⟨v,j,t⟩:=r.is i _ n;show⟨λ_=>False,s,g,λ_ z=>z.elim,r.env,h,λx c f1 s1 b _=>?_⟩;let:=Is.pure _ _ _ o b;subst this;show⟨v,j,(by change 2<=sizeLine;decide),λq p=>?_⟩;let sn:MX c (upd c q (.tup [x,v])):=MX.new p _;let a:=r.grow s1;show k _ (bD i) _ (a.same.trans sn) (Is.tup a_ ?_) (r.E3 i d) λz m=>?_
 ·let u:=KA.cons (b.mono sn) (KA.one ((t.mono s1).mono sn));simpa using u
 ·let:=a.own i d z m;apply⟨this.1,MX.mut sn this.2⟩
end _v
namespace _p
open _l _v
def ED:=Hw 3 (Hv (FG (BO Ni [HC 1 [0,1] (LH (Dz 2)) (.one 0) Ac (DA Hu (DA Hu (Dz 1) (Dz 2)) (Dz 0))])))
def LO:=Hw 5 (BS (FP [] (Ay aC [Dz 1]) (.many [3,4]) (HB (D3 (xB (DA (Nf aD) (Dz 3) (Dz 2))) (xB (DA Ah (Dz 4) (BO ED [Dz 0,Dz 3,Dz 2])))) (Hv (FG (Dz 3))) KI))
  (Hv (FG (DB .IB))))
def LQ:=Hw 5 (BS (Hs 3 (FV [FG (Dz 2)]))
  (BS (Hs 4 (BO LO [Dz 0,Dz 1,Dz 3]))
  (BS (Gd (xB (K1 aD (Dz 4))) (BS (Ln 3 (FG (Dz 4)))
  (Hs 4 (BO LO [Dz 0,Dz 1,Dz 3]))))
  (Hv (Dz 3)))))
def GH:=Hw 2 (Hv (HC 2 [1] (Ay aC [Dz 0]) (.many [0,1]) (D3 (xB (DA (KD aD) (Dz 0) (Dz 2))) (xB (DA Ah (Dz 1) (DB (.int 0))))) (FG (Dz 0))))
def GG:=Hw 4 (Hv (FG (BO Jf [HC 2 [3,1,2,0] (L5 aC aC [Dz 0,Dz 1]) (.many [0,1]) Ac (DA Zgr (DA Tq (DA AW (DA Hu (Dz 3) (Dz 4)) (Dz 0)) (DA AW (DA Hu (Dz 5) (Dz 4)) (Dz 1))) (Dz 2))])))
def Jr:XS:=(BS (Hs 1 (BO Cg [Dz 0]))
  (BS (Hs 2 (FG (DB (.int 1))))
  (BS (FP [1] (Ai [BO M5 [Dz 0]]) (.one 3) (BS (Hs 4 (FG (DA Hu (Dz 1) (Dz 3))))
  (BS (Hs 1 (HC 2 [3,4,2] (Ay aD [Dz 1]) (.many [0,1]) Ac (FG (BM (xB (DA (KD aC) (Dz 0) (Dz 2))) (Dz 1) (BO GG [Dz 1,Dz 3,Dz 2,Dz 4])))))
  (Hs 2 (FG (DA Hu (Dz 4) (Dz 3)))))))
  (AY 1 (Dz 2)))))
def LP:=Hw 5 Jr
def EG:=Hw 3 (Hv (FG (BO Jf [HC 1 [1,0] (Af (Dz 2)) (.one 0) Ac (BM (xB (DA (KD aC) (Dz 0) (Dz 1))) (BO EE [Dz 2,Dz 1]) (NR HL (DA Hu (DA Hu (Dz 2) (Dz 1)) (Dz 0))))])))
def Np:=Hw 3 (BS (Hs 2 (HC 1 [1] (Ai [BO M5 [Dz 0]]) (.one 0) (xB (DA (KD aD) (Dz 0) (Dz 1))) (FG (Dz 0))))
  (Hv (FG (BO Jf [HC 1 [0,2] (Af (Dz 2)) (.one 0) Ac (BO EG [Dz 1,Dz 0,Dz 2])]))))
end _p
namespace _l
abbrev WJ:=aM->fH->List (List MJ×V)->It
end _l
namespace _v
open PySem.W
def KS(r:Fp)(n:Nat){α:Type}:KasT α->(α->Prop)->Prop
 | .ret a,Q=>Q a
 | .ask i j k,Q=>i<n/\j<n/\KS r n (k (decide (r i<r j))) Q
def Wa:∀{t:KasT α},KS r n t (λa=>KS r n (g a) Q)->KS r n (t.bind g) Q
 | .ret a,h=>h
 | .ask i j k,h=>⟨h.1,h.2.1,Wa h.2.2⟩
def Y4{n:Nat}{d:Type}{Q c:d->Prop}(b:∀a,Q a->c a):∀{t:KasT d},KS r n t Q->KS r n t c
 | .ret a,h=>b a h
 | .ask i j k,h=>⟨h.1,h.2.1,Y4 b h.2.2⟩
def SI{n:Nat}{c:Type}{b:Nat->Nat->(Bool->aN->Prop)->aN->Prop}{Q:c->Prop}{f:c->aN->Prop}{s:aN}
  (e:∀i j,i<n->j<n->∀C:Bool->aN->Prop,C (decide (r i<r j)) s->b i j C s) (d:∀a,Q a->f a s):∀{t:KasT c},KS r n t Q->t.kasWp b f s
 | .ret a,h=>d a h
 | .ask i j k,h=>e i j h.1 h.2.1 _ (SI e d h.2.2)
section
variable {r:Fp}{n:Nat}
noncomputable def YE(p:N_)(i:Nat):Nat:=p.getD i 0
structure Pm(n:Nat)(p:N_):Prop where
 E9:p.size=n
 lt:∀i,i<n->YE p i<n
 inj:∀i j,i<n->j<n->YE p i=YE p j->i=j
def DZ(r:Fp)(p:N_)(m:Nat):Prop:=∀i j,i<j->j<m->r (YE p i)<r (YE p j)
def Dn(r:Fp)(p:N_)(m:Nat):Prop:=∀i j,i<j->j<m->r (YE p j)<r (YE p i)
def YJ(p:N_)(i:Nat):YE p i=(p[i]?).getD 0:=by delta YE;apply gW
def Pm.ne(h:Pm n p)(d:∀i j,i<n->j<n->r i=r j->i=j)(c:i<n)(b:j<n)(a:i≠j):r (YE p i)≠r (YE p j):=λz=>a (h.inj i j c b (d _ _ (h.lt i c) (h.lt j b) z))
def DZ.snoc(h:DZ r p m)(d:1<=m)(b:r (YE p (m-1))<r (YE p m)):DZ r p (m+1):=λi j a c=>by
 by_cases q:j<m
 ·apply h i j a q
 ·have:j=m:=()
  subst this;by_cases z:i=j-1
  ·subst z;apply b
  ·let:=h i (j-1) () ()
   lia
def Dn.snoc(h:Dn r p m)(d:1<=m)(b:r (YE p m)<r (YE p (m-1))):Dn r p (m+1):=λi j a c=>by
 by_cases q:j<m
 ·apply h i j a q
 ·have:j=m:=()
  subst this;by_cases z:i=j-1
  ·subst z;apply b
  ·let:=h i (j-1) () ()
   lia
def Sg{p:N_}(hp:Pm n p)(b:∀i j,i<n->j<n->r i=r j->i=j):∀(f m:Nat),1<=m->m+f=n->DZ r p m->KS r n (kas_asc p f m) λa=>m<=a/\a<=n/\DZ r p a/\(a=n\/r (YE p a)<r (YE p (a-1)))
 | 0,m,MH,hm,Ft=>⟨aZ _,(),Ft,.inl ()⟩
 | f+1,m,MH,hm,Ft=>by
  show⟨hp.lt m (),hp.lt (m-1) (),?_⟩;change KS r n (if decide (r (YE p m)<r (YE p (m-1)))=aD then tj m else kas_asc p f (m+1)) _;by_cases q:r (YE p m)<r (YE p (m-1))
  ·rw[Be (decide_eq_true q)];apply⟨aZ _,(),Ft,.inr q⟩
  ·rw[Fb (by rw[decide_eq_false q];apply bg)];let ne:=hp.ne b (show m<n by lia) (show m-1<n by lia) ();apply Y4 (λa h=>⟨(),h.2⟩) (Sg hp b f (m+1) () () (Ft.snoc MH ()))
def Su{p:N_}(hp:Pm n p)(a:∀i j,i<n->j<n->r i=r j->i=j):∀(f m:Nat),1<=m->m+f=n->Dn r p m->KS r n (kas_desc f p m 0) λx=>x.1=p/\x.2.2=0/\m<=x.2.1/\x.2.1<=n/\Dn r p x.2.1
 | 0,m,MH,hm,Ft=>⟨rfl,rfl,aZ _,by change m<=n;lia,Ft⟩
 | f+1,m,MH,hm,Ft=>by
  show⟨hp.lt m (),hp.lt (m-1) (),?_⟩;let ne:=hp.ne a (show m<n by lia) (show m-1<n by lia) ();by_cases q:r (YE p m)<r (YE p (m-1))
  ·change KS r n (if decide (r (YE p m)<r (YE p (m-1)))=aD then(if 0>0 then _ else kas_desc f p (m+1) 0) else _) _;rw[Be (decide_eq_true q),Fb ()];apply Y4 (λx h=>⟨h.1,h.2.1,(),h.2.2.2⟩) (Su hp a f (m+1) () () (Ft.snoc MH q))
  ·let b:r (YE p (m-1))<r (YE p m):=()
   change KS r n (if decide (r (YE p m)<r (YE p (m-1)))=aD then _ else KasT.ask (p.getD (m-1) 0) (p.getD m 0) λd=>if d=aD then .ret (p,m,0) else kas_desc f p (m+1) (0+1)) _;rw[Fb (by rw[decide_eq_false q];apply bg)];show⟨hp.lt (m-1) (),hp.lt m (),?_⟩;change KS r n (if decide (r (YE p (m-1))<r (YE p m))=aD then tj (p,m,0) else _) _;rw[Be (decide_eq_true b)];apply⟨rfl,rfl,aZ _,by change m<=n;lia,Ft⟩
def TQ(a:m<=p.size)(i:Nat):YE (kas_rev p 0 m) i=if i<m then YE p (m-1-i) else YE p i:=by
 rw[YJ];delta kas_rev;rw[getElem?_mirror_all a];by_cases q:i<m
 ·rw[Be ⟨dH _,q⟩,Be q,YJ,jW]
 ·rw[Fb (),Fb q,YJ]
def Pm.rev(h:Pm n p)(c:m<=n):Pm n (kas_rev p 0 m):=by
 let e:=λi=>TQ (by rw[h.E9];apply c) i;show⟨by rw[kas_rev_size];apply h.E9,λi b=>?_,λi j b d a=>?_⟩
 ·rw[e];split
  ·apply h.lt _ ()
  ·apply h.lt _ b
 ·rw[e,e] at a;split at a
  ·split at a
   ·let:=h.inj _ _ () () a;lia
   ·let:=h.inj _ _ () () a;lia
  ·split at a
   ·let:=h.inj _ _ () () a;lia
   ·apply h.inj _ _ b d a
def Dn.rev(h:Pm n p)(a:m<=n)(b:Dn r p m):DZ r (kas_rev p 0 m) m:=λi j d c=>by let e:=λi=>TQ (by rw[h.E9];apply a) i;rw[e,e,Be c,Be ()];apply b _ _ () ()
def JT(r:Fp)(n:Nat)(x:Nat×Array Nat):Prop:=1<=x.1/\x.1<=n/\Pm n x.2/\DZ r x.2 x.1
def U'(hp:Pm n p)(c:∀i j,i<n->j<n->r i=r j->i=j){m:Nat}(d:1<=m)(a:m<=n)(b:Dn r p m):KS r n (kas_tail3 m n p) (JT r n):=by show Wa (Y4 (λe h=>?_) (Sg (hp.rev a) c (n-m) m d () (Dn.rev hp a b)));apply⟨(),h.2.1,hp.rev a,h.2.2.1⟩
def Zx{p:N_}(hp:Pm n p)(b:∀i j,i<n->j<n->r i=r j->i=j)(m:2<=n)(c:r (YE p 1)<r (YE p 0)):KS r n (kas_descPart 1 n p) (JT r n):=by
 let g:Dn r p 2:=λi j d l=>by
  have:i=0:=()
  have:j=1:=()
  subst i j;apply c
 show Wa (Y4 (λx h=>?_) (Su hp b (n-(1+1)) (1+1) () () g));let⟨rfl,e,k,f,a⟩:=h;rw[e];apply U' hp b () f a
def TS{p:N_}(hp:Pm n p)(f:∀i j,i<n->j<n->r i=r j->i=j)(o:1<=n):KS r n (kas_count n p) (JT r n):=by
 show Wa (Y4 (λm h=>?_) (Sg hp f (n-1) 1 () () λi j k l=>()));let⟨d,e,b,c⟩:=h;by_cases q:m=n
 ·rw[Be (by simp[q])];apply⟨d,e,hp,b⟩
 ·rw[Fb (by simp[q])];let a:=by apply c.resolve_left q
  by_cases g:m>1
  ·rw[Be g];show⟨hp.lt 0 (),hp.lt (m-1) (),?_⟩;change KS r n (if decide (r (YE p 0)<r (YE p (m-1)))=aD then tj (m,p) else _) _;rw[Be (decide_eq_true (b 0 (m-1) () ()))];apply⟨d,e,hp,b⟩
  ·rw[Fb g];have:m=1:=()
   subst this;apply Zx hp f () a
def RH(hp:Pm n p)(o:∀i j,i<n->j<n->r i=r j->i=j)(g:k<n)(e:DZ r p k):∀(f a b:Nat),a<=b->b<=k->b-a<=f->(∀i,i<a->r (YE p i)<r (YE p k))->(∀i,b<=i->i<k->r (YE p k)<r (YE p i))->
   KS r n (rW p k f a b) λl=>l<=k/\(∀i,i<l->r (YE p i)<r (YE p k))/\∀i,l<=i->i<k->r (YE p k)<r (YE p i)
 | 0,a,b,hab,IF,hf,lo,E5=>⟨(),lo,λi h=>E5 i ()⟩
 | f+1,a,b,hab,IF,hf,lo,E5=>by
  delta rW;by_cases q:a ≥ b
  ·rw[Be q];apply⟨(),lo,λi h=>E5 i ()⟩
  ·rw[Fb q];let d:(a+b)/2<k:=()
   show⟨hp.lt k g,hp.lt _ (),?_⟩;change KS r n (if decide (r (YE p k)<r (YE p ((a+b)/2)))=aD then rW p k f a ((a+b)/2) else rW p k f ((a+b)/2+1) b) _;generalize s:(a+b)/2=m at d;by_cases c:r (YE p k)<r (YE p m)
   ·rw[Be (decide_eq_true c)];show RH hp o g e f a m () () () lo λi u t=>?_;by_cases z:i=m
    ·subst z;apply c
    ·let:=e m i () t;lia
   ·rw[Fb (by rw[decide_eq_false c];apply bg)];let ne:=hp.ne o g (show m<n by lia) ();show RH hp o g e f (m+1) b () IF () (λi u=>?_) E5;by_cases z:i=m
    ·subst z;lia
    ·let:=e i m () d;lia
def vr(a:k<p.size)(b:l<=k)(i:Nat):YE (bubble p k (k-l)) i=if i=l then YE p k else if l<i/\i<=k then YE p (i-1) else YE p i:=by
 rw[YJ,getElem?_bubble a (k-l) ()];let e:k-(k-l)=l:=()
 rw[e];by_cases q:i=l
 ·rw[Be q,Be q,YJ]
 ·rw[Fb q,Fb q];by_cases z:l<i/\i<=k
  ·rw[Be z,Be z,YJ]
  ·rw[Fb z,Fb z,YJ]
def za(s:∀i j,i<n->j<n->r i=r j->i=j):∀(f:Nat)(p:N_)(k:Nat),Pm n p->k+f=n->DZ r p k->KS r n (kas_bin f p k) λq=>Pm n q/\DZ r q n
 | 0,p,k,hp,MK,Ft=>by
  let e:k=n:=()
  subst e;apply⟨hp,Ft⟩
 | f+1,p,k,hp,MK,Ft=>by
  delta kas_bin;let b:k<n:=()
  show Wa (Y4 (λl h=>?_) (RH hp s b Ft k 0 k () () () (λi h=>()) λi x w=>()));let⟨u,lo,v⟩:=h;let e:=λi=>vr (p:=p) (k:=k) (l:=l) (by rw[hp.E9];apply b) u i;show za s f _ (k+1) ⟨by rw[bubble_size];apply hp.E9,λi c=>?_,λi j c d a=>?_⟩ () λi j a d=>?_
  ·rw[e];split
   ·apply hp.lt _ b
   ·split
    ·apply hp.lt _ ()
    ·apply hp.lt _ c
  ·rw[e,e] at a;split at a
   ·split at a
    ·lia
    ·split at a
     ·let:=hp.inj _ _ () () a;lia
     ·let:=hp.inj _ _ () () a;lia
   ·split at a
    ·split at a
     ·let:=hp.inj _ _ () () a;lia
     ·split at a
      ·let:=hp.inj _ _ () () a;lia
      ·let:=hp.inj _ _ () () a;lia
    ·split at a
     ·let:=hp.inj _ _ () () a;lia
     ·split at a
      ·let:=hp.inj _ _ () () a;lia
      ·apply hp.inj _ _ c d a
  ·rw[e,e];by_cases g:i=l
   ·rw[Be g,Fb (),Be ()];apply v _ () ()
   ·rw[Fb g];by_cases t:j=l
    ·rw[Be t,Fb ()];apply lo _ ()
    ·rw[Fb t];by_cases m:l<i/\i<=k
     ·rw[Be m,Be ()];apply Ft _ _ () ()
     ·rw[Fb m];by_cases o:l<j/\j<=k
      ·rw[Be o];apply Ft _ _ () ()
      ·rw[Fb o];apply Ft _ _ a ()
def VF(n:Nat):Pm n (jX (aQ n)):=by
 let e:∀i,i<n->YE (jX (aQ n)) i=i:=λi a=>by rw[YJ];simp[a]
 show⟨⋯,λi a=>by rw[e i a];apply a,λi j a b h=>?_⟩;rw[e i a,e j b] at h;apply h
def RR(c:∀i j,i<n->j<n->r i=r j->i=j)(e:1<=n):KS r n (kas_sort n) λp=>Pm n p/\DZ r p n:=by
 show Wa (Y4 (λx h=>?_) (TS (VF n) c e));let⟨f,g,b,a⟩:=h;let d:max x.1 1=x.1:=()
 by_cases q:x.1<n
 ·rw[Be q,d];apply za c (n-x.1) x.2 x.1 b () a
 ·rw[Fb q];have:x.1=n:=()
  rw[this] at a;apply⟨b,a⟩
end
section
variable {prog:bC}{w:bU}{A:bX}{E:IE}{s:aN}
def tL(e:sL s.heap l vs.toArray)
  (h:Q vs {s with heap:=(s.heap.push (fF "list" #[] 0)).update ⇑s (eU (·++vs.toArray))}) (c:vs.length<=sizeLine:=by size_fits) :
  ao (model prog w) A (collect (.ref l)) Q E s:=by
 let⟨o,f,d,n,b⟩:=id e;show aE (pC (di entry_proto_collect' ?_));show aE (ku (aJ ⟨iV _ ⋯,di entry_list_iadd' ?_⟩));change ao _ _ (km.List.listExtendWith (.ref ⇑s) (.ref l) (.ref ⇑s)) _ _ {s with heap:=s.heap.push (fF "list" #[] 0)};let a:(s.heap.push (fF "list" #[] 0)).get? l=aA o:=aF _ f;show aE (lh ⟨o,a,d⟩ ?_);rw[Be ⋯];show aE (qu a b ?_);show aE (qu (aV _ rfl) rfl ?_);show aE (nA (aV _ rfl) rfl ?_ (dH _) (by change(#[]++vs.toArray).size<=sizeLine+1;dsimp[Array.size_append,aU,lT];lia));show aJ ?_
 change ao (model prog w) A (do
   let o <-load ⇑s
   match o.data with
   | .seq xs _=>pure xs.toList
   | _=>unsupported "internal:collect") Q E {s with heap:=(s.heap.push (fF "list" #[] 0)).update ⇑s (eU (·++vs.toArray))}
 show aE (wpAny_load (get?_update_seq (aV _ rfl) _) ?_);change ao _ _ (pure ((#[]:M_)++vs.toArray).toList) Q E _;rw[show((#[]:M_)++vs.toArray).toList=vs by simp];apply aJ h
def u_(i:sL s.heap l vs.toArray)(j:jI vs ns)(e:vs.length<64)
  (h:∀(b:M_)(a:E1),jI b.toList a->a.Perm ns->a.Pairwise (·<=·)->Q (.ref (⇑s+1)) {s with heap:=sortedAll s.heap vs b}) :
  ao (model prog w) A (call (.builtin "sorted") [.ref l]) Q E s:=by
 show j4 rj qv qw (qx _) ?_;show aE (aJ ?_);show aE (tL i ?_ (by rw[dF];lia));show aE (ku ?_ (by rw[dF];lia));let c:((s.heap.push (fF "list" #[] 0)).update ⇑s (eU (·++vs.toArray))).objs.size=⇑s+1:=by rw[nR,qK]
 let d:(((s.heap.push (fF "list" #[] 0)).update ⇑s (eU (·++vs.toArray))).push (fF "list" vs.toArray 0)).get? (⇑s+1)=aA (fF "list" vs.toArray 0):=by rw[<-c];apply aV _ rfl
 rw[c];show aE (b9 (cF pE ⟨_,d,rfl⟩ oW (list_sort_tree d j e λb a f k g=>⟨_,rfl,?_⟩) (pH _)));apply aJ ⟨_,rfl,h b a f k g⟩
def xQ(u:s.heap.get? a=aA (fF "list" vs.toArray n))(v:vs.length<64)
  (U:∀i j,i<vs.length->j<vs.length->r i=r j->i=j)
  (L:2<=vs.length->∀h':b7,(∀b o,b≠a->s.heap.get? b=aA o->h'.get? b=aA o)->∀Q:SortKind->aN->Prop,Q κ {s with heap:=h'}->ao (model prog w) A (keyKind' vs.toArray) Q (λ_ _=>False) {s with heap:=h'})
  (F:∀h':b7,(∀b o,b≠a->s.heap.get? b=aA o->h'.get? b=aA o)->∀i j,i<vs.length->j<vs.length->∀C:Bool->aN->Prop,C (decide (r i<r j)) {s with heap:=h'}->kas_ask prog w A κ vs i j C {s with heap:=h'})
  (h:∀p:Array Nat,Pm vs.length p->DZ r p vs.length->P (.done (.ret .none)) {s with heap:=sortedHeap s.heap a vs (jX (p.toList.map λi=>vs.getD i fQ))}) :
  ao (model prog w) A (km.«list.sort» ⟨[.ref a],[]⟩) P E s:=by
 let D:a<⇑s:=aT u;rw[list_sort_plain];show aE (qu u rfl ?_);show aE (nA u rfl ?_ (by rw[aU,dF];lia) (dH _));obtain⟨z,t⟩:∃z,(s.heap.update a (eU λ_=>#[])).get? a=aA (fF "list" #[] z):=⟨_,get?_update_seq u (λ_=>#[])⟩;show aE (rk t rfl ?_);show aE (wpAny_newTuple ?_ (by change vs.length<=_;rw[dF];lia));show aE (ku ?_ (dH _));show b9 ?_;let c:(((s.heap.update a (eU λ_=>#[])).push (fF "tuple" vs.toArray 0)).push (fF "list" #[] 0)).get? a=aA (fF "list" #[] z):=by rw[qz _ _ _ (by rw[qK,nR];apply ay (eY D)),qz _ _ _ (by rw[nR];apply ay D)];apply t
 let keep:∀b o,b≠a->s.heap.get? b=aA o->(((s.heap.update a (eU λ_=>#[])).push (fF "tuple" vs.toArray 0)).push (fF "list" #[] 0)).get? b=aA o:=λb o T q=>
  aF _ (aF _ (by rw[l7 _ _ _ _ T];apply q))
 change ao (model prog w) A _ P E {s with heap:=((s.heap.update a (eU λ_=>#[])).push (fF "tuple" vs.toArray 0)).push (fF "list" #[] 0)}
 dsimp only
 by_cases k:vs.toArray.size<2
 ·rw[Be k,Be k];show aE (aJ ?_);rw[StateT.run_pure];show aE (aJ ?_)
  dsimp only
  show aE (rk c rfl ?_);show aE (nA c rfl ?_ (hsz2:=by rw[pI];change(pairsOf vs).size<=_;rw[pairsOf_size,dF];lia));dsimp[bne_self_eq_false,dZ,if_false];let hp:=h (jX (aQ vs.length)) (VF _) λi j I W=>by rw[aU] at k;lia
  let e:((vs.toArray.zip vs.toArray).map (·.2))=jX ((jX (aQ vs.length)).toList.map λi=>vs.getD i fQ):=by
   apply((rQ.mp));apply((gC))
   ·simp
   ·ext i M k;let R:i<vs.length:=by simpa using M
    simp[R]
  show aJ ?_;change P _ {s with heap:=(((s.heap.update a (eU λ_=>#[])).push (fF "tuple" vs.toArray 0)).push (fF "list" #[] 0)).update a (eU λ_=>(vs.toArray.zip vs.toArray).map (·.2))};rw[e];apply hp
 ·rw[Fb k,Fb k];let m:2<=vs.length:=by rw[aU] at k;lia
  show aE (bQ (L m _ keep (λg f=>g=κ/\f={s with heap:=((s.heap.update a (eU λ_=>#[])).push (fF "tuple" vs.toArray 0)).push (fF "list" #[] 0)}) ⟨rfl,rfl⟩) ?_ λ_ _ x=>x.elim);ext g f ⟨rfl,rfl⟩
  show aE (bQ (kat_run (κ:=g) (Q:=λd f=>∃p:Array Nat,arrOf d=p.map (kas_item (vs.toArray.zip vs.toArray))/\failedOf d=aB/\f={s with heap:=((s.heap.update a (eU λ_=>#[])).push (fF "tuple" vs.toArray 0)).push (fF "list" #[] 0)}/\Pm vs.length p/\DZ r p vs.length)
   (G:=λp f=>f={s with heap:=((s.heap.update a (eU λ_=>#[])).push (fF "tuple" vs.toArray 0)).push (fF "list" #[] 0)}/\Pm vs.length p/\DZ r p vs.length)
   rfl m v (λS d f X N J O=>⟨S,N,J,O⟩) (SI (F _ keep) (λp hp=>⟨rfl,hp⟩) (RR U ()))) ?_ λ_ _ e=>e)
  ext⟨⟨⟩,d⟩ f ⟨p,B,H,rfl,hp,y⟩
  dsimp only
  let l:=kat_snds rfl B;rw[l];show aE (rk c rfl ?_);show aE (nA c rfl ?_ (dH _) (by rw[aU,aK,bJ,hp.E9,dF];lia));rw[H];dsimp[bne_self_eq_false,dZ,if_false];apply aJ (h p hp y)
end
open _l
def ec(f:α->aG)(l:List α)(d:α)(a:i<la l):(l.map f).getD i fQ=f (l.getD i d):=by simp[a]
def UH:∀{l m:Iw},l.Nodup->(∀x∈l,x∈m)->la m<=la l->l.Perm m
 | [],m,_,_,Fg=>by have:m=[]:=bY.mp (~~~Fg);subst this;apply .nil
 | x::l,m,E3,sub,Fg=>by
  let a:=au.mp E3;let b:=sub x ⋯;let d:=pJ b;show List.Perm.trans ?_ d.symm;show .cons x (UH a.2 (λy c=>?_) ?_)
  ·let ne:y≠x:=λz=>a.1 (z▸c);apply(gu ne).mpr (sub y (by simp[c]))
  ·rw[iA b];dsimp[bB] at Fg;lia
def Zgs(hp:Pm n p):∀j∈p.toList,j<n:=λj b=>by
 let⟨i,a,e⟩:=dJ b;rw[bJ,hp.E9] at a;let:=hp.lt i a;rw[YJ] at this;let c:p[i]?=aA j:=by rw[<-dG,<-e];simp[hp.E9,a]
 rw[c] at this;apply this
def bl{l:List α}{d:α}{p:N_}(hp:Pm (la l) p):(p.toList.map λi=>l.getD i d).Perm l:=by
 let f:p.toList.Nodup:=by
  show j6.mpr λi j b a c e=>?_;rw[bJ,hp.E9] at b a
  let:=hp.inj i j b a (by
   rw[YJ,YJ];dsimp[gx] at e;simp[hp.E9,b,a,e])
  lia
 let sub:p.toList.Perm (aQ (la l)):=UH f (λx g=>av.mpr (Zgs hp x g)) (by simp[hp.E9])
 let e:(aQ (la l)).map (λi=>l.getD i d)=l:=by
  apply((gC))
  ·simp
  ·ext i k h;simp[h]
 let:=sub.map λi=>l.getD i d
 rwa [e] at this
def Uy:∀cs:List aM,Bj (cs.map V.ref) (cs.map bp)
 | []=>.nil
 | c::cs=>.cons rfl (Uy cs)
variable {K:aH}
instance (x:bH) (n:Int):Decidable (MulOk x n):=by delta MulOk;infer_instance
variable {K:aH}
structure UI(K:aH)(mg:Bp)(x:bH)(st:cJ)(dv:Int):Prop where
 ex:∃(f T:aM) (t:tD) (o:fH) (n:Nat) (IV:aG) (Dc:I') (FH doc pm:aG) (an:I') (BC Bi:aG) (aby:L4),mg x=aA (.ref f)/\
  K.lookup f=aA ⟨IV,Dc,.func (cX x x (HI st) (FQ st) (DG st) (.ref T) FH doc pm an BC Bi),aby⟩/\da K BC x=aD/\eB K (.ref f)=aD/\K.lookup T=aA o/\o.data = .seq #[.int dv t] n
def defD_mk{mg:Bp}{x:bH}{st:cJ}{q:Int}{t:tD}{f T:aM}{o:fH}{n:Nat}{i:aG}{j p:I'}{e:L4}{FH g m b Bi:aG}(X:K.In h)(G:h.Ns bP mg)
  (a:cB K bP x=aA (aA (.ref f))) (l:K.lookup f=aA ⟨i,j,.func (cX x x (HI st) (FQ st) (DG st) (.ref T) FH g m p b Bi),e⟩)
  (c:da K b x=aD) (k:eB K (.ref f)=aD) (lt:K.lookup T=aA o) (d:o.data = .seq #[.int q t] n):UI K mg x st q:=
 ⟨f,T,t,o,n,i,j,FH,g,m,p,b,Bi,e,dS X G a,l,c,k,lt,d⟩
structure Cj(P:bC)(w:bU)(K:aH)(mg:Bp)(base:b7)(x:bH)(ps:Kn)(Fv:By)(k:Nat)(dv:Int):Prop where
 ex:∃f fd t,mg x=aA (.ref f)/\eB K (.ref f)=aD/\Binds K fd ps [.int dv t]/\FD P w K mg base Nc k f fd ps Fv
section
variable {P:bC}{w:bU}{mg:Bp}{base:b7}
def zq{st:cJ}{N ps:Kn}{k n:Nat}{O W:Iw}{j:Int}(m:Nat)(f:XS)(D:UI K mg x st j)(S:Bz N ps (DG st))
  (M:∀(T:aM)(t:tD)(FH c u:aG)(v:I')(b Bi:aG)(g:E4),g.length+1=la ps->∃q:Option (Array aG)->tY (List (bH×aG)),
   i8 (cX x x (HI st) (FQ st) (DG st) (.ref T) FH c u v b Bi) ⟨g,[]⟩=kF (.ref T) >>= q/\q (aA #[.int j t])=pure (ps.zip (g++[.int j t])))
  (L:la ps=n) (y:la N=m) (G:∀i∈O,n<=i)
  (d:∀(e:aM)(b:aG)(A:bX)(a:Dk)(s:aN)(H:Hp)(E:Kp),MN k (A.deeper (jE x (DG st) ⇑s e b))->Ls (K3 Nc P w K mg base N x (DG st) e b A a s H E).Hb O W (FQ st) f) :
  Cj P w K mg base x ps (DS K (Hw m f) n) (k+1) j:=by
 subst y;let⟨e,T,t,o,Y,IV,Z,FH,c,u,v,b,Bi,z,l,U,r,C,lt,B⟩:=D.ex;show⟨e,_,t,l,C,λs g X F=>?_,Yu U r S (λvs H Q E h=>by rw[L];apply h.1) λA a s H vs Q E R p=>⟨_,(d e b A a s H E R).Hb,Sv G p⟩⟩;let⟨q,J,I⟩:=M T t FH c u v b Bi g (~~~F);apply ij X rfl lt B J I
end
section
variable {X:Cx}{x:bH}{ps:Kn}{k:Nat}{e:bS}{Fc:Fj}{fs:List XE}{p pos:gy}{dv:Int}
def P5(C:Cj X.prog X.w X.K X.mg X.base x ps (DS X.K D n) k dv)(G:MN k X.A)(F:Gl X x)(g:Na X (e::Fc) fs)(E:la fs+1=n|>On)
  (i:(x==("__debug__" : bH))=aC|>Op) (B:aL (e::Fc) X.env=(aC,eval e X.env)::aL Fc X.env|>On) (h:(cQ pos (aL Fc X.env)).any (·.1)=aC|>On) :
  M3 X (.Call (.Name x p) (e::Fc) [] pos) (BO (λls=>D (ls++[.int dv])) fs):=by
 let⟨f,L,t,a,b,c,d⟩:=C.ex;show DC.imp (wt d G F a b c (dvs:=[.int dv]) (.cons ⟨t,rfl⟩ .nil) Zgk g i B h) ?_;ext U H Q ⟨s,l,env,e,q⟩;let⟨ls,m,w⟩:=Zc e;show⟨λ_=>False,s,ls,λ_ z=>z.elim,env,m,λvs M I s1 j J=>?_⟩;apply⟨by rw[aq,j.len,X4 m,<-E];rfl,ls++[.int dv],I++[],l,j.append (KA.one (Is.int _)),w,λv A r s2 u y o=>q v A r (s1.trans s2) u y λa g=>⟨MX.off s1 (o a g).1,(o a g).2⟩⟩
end
def Ea(xs:N_):Prop:=xs.toList.Pairwise (· < ·)
def Sz{xs:N_}{i:Nat}(h:i<xs.size)(d:Nat):xs.getD i d=xs[i]:=by delta mQ;rw[dif_pos h];rfl
def Ea.at(h:Ea xs)(b:i<k)(a:k<xs.size)(d:Nat):xs.getD i d<xs.getD k d:=by let:=j6.mp h i k (by simp;lia) (~~~a) b;dsimp[gx] at this;delta mQ;rw[dif_pos a,dif_pos (show i<xs.size by lia)];apply this
def xO(h:Ea xs):∀(fuel lo E5:Nat),lo<=E5->E5<=xs.size->E5-lo<=fuel->(∀i,i<lo->xs.getD i j<j)->(∀i,E5<=i->i<xs.size->j<=xs.getD i j)->
  jK xs j fuel lo E5<=xs.size/\(∀i,i<jK xs j fuel lo E5->xs.getD i j<j)/\∀i,jK xs j fuel lo E5<=i->i<xs.size->j<=xs.getD i j
 | 0,lo,E5,MH,ID,h3,Bt,h5=>by delta jK;apply⟨(),Bt,λi a=>h5 i ()⟩
 | fuel+1,lo,E5,MH,ID,h3,Bt,h5=>by
  delta jK;by_cases q:lo<E5
  ·rw[Be q];simp only;by_cases p:xs.getD ((lo+E5)/2) j<j
   ·rw[Be p];show xO h fuel _ E5 () ID () (λi a=>?_) h5;by_cases e:i=(lo+E5)/2
    ·rw[e];apply p
    ·let:=h.at (show i<(lo+E5)/2 by lia) (show(lo+E5)/2<xs.size by lia) j
     lia
   ·rw[Fb p];show xO h fuel lo _ () () () Bt (λi a hs=>?_);by_cases e:i=(lo+E5)/2
    ·rw[e];lia
    ·let:=h.at (show(lo+E5)/2<i by lia) hs j
     lia
  ·rw[Fb q];apply⟨(),Bt,λi a=>h5 i ()⟩
def T4(h:Ea xs)(j:Nat):bx xs j<=xs.size/\(∀i,i<bx xs j->xs.getD i j<j)/\∀i,bx xs j<=i->i<xs.size->j<=xs.getD i j:=
 xO h xs.size 0 xs.size (dH _) (aZ _) () (λi c=>()) (λi b a=>())
def cy(h:Ea xs):bx xs 0=0:=by
 let a:=T4 h 0;by_cases q:bx xs 0=0
 ·apply q
 ·let:=a.2.1 0 ()
  lia
def hu{xs:N_}(h:Ea xs){i:Nat}(c:i<xs.size):bx xs (xs[i]+1)=i+1:=by
 let b:=T4 h (xs[i]+1);let a:=λd=>Sz c d
 let g:i<bx xs (xs[i]+1):=by
  by_cases q:bx xs (xs[i]+1)<=i
  ·let:=b.2.2 i q c;rw[a] at this;lia
  ·lia
 by_cases q:bx xs (xs[i]+1)=i+1
 ·apply q
 ·let f:=b.2.1 (i+1) ();let e:=h.at (show i<i+1 by lia) (show i+1<xs.size by lia) (xs[i]+1);rw[a] at e
  lia
def hv(n:Nat):Ea (Array.range n):=by delta Ea;rw[Array.toList_range];apply oH
def c'{xs:N_}(h:Ea xs){j:Nat}(k:¬xs[bx xs j]?=aA j):Ea (cD xs (bx xs j) j):=by
 let e:=T4 h j;generalize bx xs j=p at e k;delta Ea cD;dsimp[fg,kM,lP];rw[eI,eI];let l:=h;let drop:(xs.toList.extract p xs.size)=xs.toList.drop p:=by apply cK ⋯
 rw[drop];let lt:∀a∈xs.toList.take p,a<j:=λa d=>by let⟨i,f,rfl⟩:=dJ d;rw[bz] at f;let:=e.2.1 i ();delta mQ at this;rw[dif_pos (show i<xs.size by lia)] at this;simpa using this
 let g:∀a∈xs.toList.drop p,j<a:=λa d=>by
  let⟨i,f,rfl⟩:=dJ d;let hs:p+i<xs.size:=by simp at f;lia
  rw[List.getElem_drop];let o:¬xs[p]=j:=λz=>k (by rw[dY (),z]);let n:j<=xs[p]:=by let:=e.2.2 p (aZ _) ();delta mQ at this;rw[dif_pos (show p<xs.size by lia)] at this;apply this
  by_cases z:i=0
  ·subst z;dsimp[lu,gx]
   lia
  ·let m:=h.at (show p<p+i by lia) hs 0;rw[Sz hs,Sz (show p<xs.size by lia)] at m;dsimp[gx]
   lia
 show⟨⟨l.sublist (gm _ _),⋯,λa d b c=>?_⟩,l.sublist (List.drop_sublist _ _),λa d b c=>?_⟩
 ·rw[aO.mp c];apply lt a d
 ·rcases ag.mp d with q | q
  ·let:=lt a q;let:=g b c;lia
  ·rw[aO.mp q];apply g b c
structure NS(led:Bool)(t:eN):Prop where
 rise:Ea t.place
 tz:t.dummies = #[]
 led:t.led=led
def ct(led:Bool):NS led (s9 0 0 led):=⟨by delta Ea s9;simp,rfl,rfl⟩
def WN(h:NS led t)(n:Nat):NS led (t.standIn n):=⟨hv n,rfl,h.led⟩
def SA(b:t.dummies = #[]):∀(fuel:Nat)(p:jS),p.dummy=aB->∀j d,cZ t f h fuel p=aA (.empty j d)->d=aB/\¬t.place[bx t.place j]?=aA j
 | 0,p,hp,j,d,e=>by simp[cZ] at e
 | fuel+1,p,hp,j,d,e=>by
  delta cZ at e;let c:fC t.dummies p.j=aC:=by rw[b];delta fC;simp
  let a:(t.advance p).dummy=aB:=by
   delta iN;split
   ·apply hp
   ·apply hp
  cases hs:t.slot p.j with
  | empty=>
   rw[hs] at e;dsimp[m7,tI] at e;let⟨rfl,rfl⟩:=e;show⟨hp,λz=>?_⟩;delta jB at hs;simp only at hs;rw[z] at hs;simp at hs
  | dummy=>
   exfalso;delta jB at hs;simp only at hs;rw[c] at hs;split at hs<;>simp at hs
  | live i=>
   rw[hs] at e;simp only at e;split at e
   ·cases e
   ·apply SA b fuel _ a j d e
def Zef{t:eN}(a:t.dummies = #[]){h:Int}{j:Nat}{b:Bool}(e:t.freeSlot h=aA (j,b)):b=aC/\¬t.place[bx t.place j]?=aA j:=by
 delta m8 at e;split at e
 ·rename_i f d hp;let:=SA a _ _ rfl f d hp;let⟨rfl,c⟩:=this;let⟨rfl,rfl⟩:=e;apply⟨rfl,c⟩
 ·cases e
def Zeg(h:NS led t)(a:¬t.place[bx t.place j]?=aA j):NS led (t.put j).1:=by
 show⟨c' h.rise a,?_,h.led⟩;change(if fC t.dummies j=aD then _ else t.dummies) = #[];let b:fC t.dummies j=aC:=by rw[h.tz];delta fC;simp
 rw[b];apply h.tz
def e1{led:Bool}{t:eN}(h:NS led t)(c:FE)(hs:Int)(x:aG):NS led (tT t c hs x).2.1:=by
 delta tT
 cases e:t.freeSlot hs with
 | none=>apply WN h _
 | some jb=>
  let⟨j,b⟩:=jb;let:=Zef h.tz e;let a:=Zeg h this.2;change NS led ((t.put j).1.orStandIn _);delta qL;split
  ·apply a
  ·apply WN a _
def rt(h:NS led t)(d:FE)(n:Nat):NS led (sd t d n).2.1:=by
 delta sd
 cases e:t.relaid (d.map (·.1)) n with
 | none=>apply WN h _
 | some to=>
  let⟨t',o⟩:=to;simp only;split
  ·change NS led t';delta eN.relaid ky at e;dsimp[p6,nU] at e;let⟨j,_,rfl,_⟩:=e;show⟨?_,rfl,h.led⟩;rw[qM];show List.Pairwise.filterMap _ (λa k f b g i c=>?_) oH;simp at g c
   lia
  ·apply WN h _
end _v
namespace _v
section
variable {prog:bC}{w:bU}{A:bX}{E:IE}{s:aN}
def Lq(w:bU):Bool:=!w.params.followText "set-order"
def Ae(w:bU):fH:={cls:=.type "set",dict:=aB,data:=.set #[] 0 (.fresh 0 0 (Lq w))}
def Yn(v:aG)(h:Q (.ref ⇑s) {s with heap:=s.heap.push (Ae w)}) :
  gk (model prog w) A (.call (.builtin "set.__new__") ⟨[.type "set",v],[]⟩) (wants Q E) s:=by
 show lV ?_;show aE (m4 (F.newCall_set_1 v) (aJ ⟨jC F.plain_set_new _,di F.entry_set_new ?_⟩));let a:=sub_set_self;cases s
 wp_walk
 show nV (aJ ?_);apply aE (wpAny_alloc (aJ (aJ h)))
end
def gd:∀{us:E4}{ns:E1},jI us ns->la us=la ns
 | _,_,.nil=>rfl
 | _,_,.cons n t h=>by simp[gd h]
open PySem.W _l
def Qa:∀{l:List α}{p:Nat}(h:p<la l),(l[p]::l.eraseIdx p).Perm l
 | a::l,0,h=>kR _
 | a::l,p+1,h=>by let:=Qa (l:=l) (p:=p) (~~~h);dsimp[List.getElem_cons_succ,nM];apply(se _ _ _).trans (this.cons a)
def wI(next:Fh):∀(fuel k:Nat)(left:List α)(out:Array α),left.length=fuel->∃l,(rX.go next fuel k left out).toList=out.toList++l/\l.Perm left
 | 0,k,left,out,h=>⟨[],by delta rX.go;simp,by rw[bY.mp h]⟩
 | fuel+1,k,left,out,h=>by
  let a:next k%la left<la left:=qN _ ()
  let⟨l,c,b⟩:=wI next fuel (k+1) (left.eraseIdx (next k%la left)) (out.push left[next k%la left]) (by rw[List.length_eraseIdx_of_lt a];lia)
  show⟨left[next k%la left]::l,?_,?_⟩
  ·delta rX.go;rw[aI a];simp only;rw[c];simp
  ·apply(b.cons _).trans (Qa a)
def nx(next:Fh)(xs:Array α):(rX next xs).toList.Perm xs.toList:=by
 let⟨l,b,a⟩:=wI next xs.size 0 xs.toList #[] rfl
 delta rX;rw[b];simpa using a
def Ll(w:bU)(a:aM)(ep:Nat)(Fc:FE):Array (Int×aG):=if w.params.followText "set-order" = aD then rX (w.params.setOrder a ep) Fc else Fc
def xI(w:bU)(a:aM)(ep:Nat)(b:FE):(Ll w a ep b).toList.Perm b.toList:=by
 delta Ll;split
 ·apply nx _ _
 ·apply kR _
def SE(w:bU)(a:aM)(ep:Nat)(b:FE):(Ll w a ep b).size=b.size:=by let:=(xI w a ep b).length_eq;simpa using this
def Kx(w:bU)(t:eN)(i:Nat):Nat:=if w.params.followText "set-order" = aD then 0 else match i with
 | 0=>0
 | j+1=>t.place.getD j 0+1
def Aw(h:b7)(it a:aM)(st i n ep:Nat):Prop:=∃o,h.get? it=aA o/\o.cls = .type "set_iterator"/\o.data = .fields #[.int st 0,.int i 0,.ref a,.int n 0,.int ep 0]
def c8:Slot "set_iterator" "__next__" "set_iterator.__next__":=
 .of rfl rfl rfl rfl
  (by first | apply .inl rfl | apply .inr rfl) rfl
def Vh:entryFor table "set_iterator.__next__" = aA km.«set_iterator.__next__»:=entryFor_of_tree rfl
def Ud(a:aG):argsOk "set_iterator.__next__" ⟨[a],[]⟩:=rfl
def Ue:Slot "set_iterator" "__iter__" "set_iterator.__iter__":=
 .of rfl rfl rfl rfl
  (by first | apply .inl rfl | apply .inr rfl) rfl
def Qz(a:aG):argsOk "set_iterator.__iter__" ⟨[a],[]⟩:=rfl
def P6:entryFor table "set.__iter__" = aA km.«frozenset.__iter__»:=
 entryFor_alias (id':="frozenset.__iter__") rfl rfl (by decide +kernel) rfl
section
variable {prog:bC}{w:bU}{A:bX}{E:IE}{s:aN}{it a:aM}{i ep:Nat}{o:fH}{Fc:FE}{t:eN}{ks:Iw}
def Aw.typeIs{st i n ep:Nat}(x:Aw s.heap it a st i n ep):s.TypeIs (.ref it) "set_iterator":=let⟨o,c,b,_⟩:=x;⟨o,c,b⟩
def Aw.at{st i n ep:Nat}(x:Aw h it a st i n ep)(e:∀o,h.get? it=aA o->h'.get? it=aA o):Aw h' it a st i n ep:=let⟨o,b,r⟩:=x;⟨o,e _ b,r⟩
def RI(h:Q (w.params.followText "set-order") s):ao (model prog w) A setsByText Q E s:=aE (nV (aJ h))
def hb{st i n ep:Nat}{Q:IE}(c:Aw s.heap it a st i n ep)(h:Q (.ref it) s):ao (model prog w) A (mq (.ref it)) Q E s:=by
 obtain⟨b,d⟩:∃b,entryFor table "set_iterator.__iter__" = aA b/\∀(A:bX)(E:IE)(s:aN)(v:aG)(Q:PySem.Fin->aN->Prop),Q (.done (.ret v)) s->ao (model prog w) A (b ⟨[v],[]⟩) Q E s:=
  ⟨km.«dict_keyiterator.__iter__»,entryFor_alias (id':="dict_keyiterator.__iter__") rfl rfl (by decide +kernel) rfl,λA E s v Q h=>by apply aJ h⟩
 show kN c.typeIs Ue (cF Ue c.typeIs d.1 (d.2 _ _ _ _ _ ?_) (Qz _));apply⟨_,rfl,"set_iterator",_,c.typeIs,c8.lookup,h⟩
def hc(c:s.TypeIs (.ref a) "set")(h:Q aC s):ao (model prog w) A (km.List.listLengthHint (.ref a)) Q E s:=by
 show aE (oQ c PySem.F.slot_set_len.lookup ?_);generalize b:("set.__len__" : String)=id0
 wp_delta
 subst b;show aE (ke c rfl ?_);show aE (lh c ?_);apply aJ h
end
def A4:aG->Int
 | .int n _=>n
 | _=>0
def R8:∀{us:E4},(∀v∈us,∃n t,v=gM n t)->jI us (us.map A4)
 | [],_=>.nil
 | u::us,h=>by let⟨n,t,rfl⟩:=h u ⋯;apply .cons n t (R8 λv a=>h v (by simp[a]))
def UB(ns:Iw):(ns.map λ(k:Nat)=>V.int (k:Int))=(ns.map λ(k:Nat)=>(k:Int)).map V.int:=by rw[bR];rfl
end _v
namespace _z
open _l
structure lr(fs ch:Gc)(h h':b7):Prop where
 keep:∀b o,h.get? b=aA o->b∉ch->b∉fs->h'.get? b=aA o
 slot:∀b o,h.get? b=aA o->b∉ch->b∈fs->∃Ks,h'.get? b=aA {o with slots:=Ks}
 there:∀b o,h.get? b=aA o->∃Kq,h'.get? b=aA Kq
def lr.trans(x:lr fs ch h MH)(y:lr fs ch MH ID):lr fs ch h ID:=
 ⟨λb o e a c=>y.keep b o (x.keep b o e a c) a c,λb o e a c=>by
  let⟨j,f⟩:=x.slot b o e a c;let⟨d,i⟩:=y.slot b _ f a c
  apply⟨d,i⟩,λb o e=>by
  let⟨g,f⟩:=x.there b o e;apply y.there b g f⟩
def lr.mono(x:lr fs ch h h')(hs:∀b∈ch,b∈ch'):lr fs ch' h h':=
 ⟨λb o e a c=>x.keep b o e (λz=>a (hs b z)) c,λb o e a c=>x.slot b o e (λz=>a (hs b z)) c,x.there⟩
def lr.field(g:h.get? a=aA o)(d:o.data = .fields vs):lr fs [a] h (h.update a (gH f)):=
  ⟨λb u e c _=>by rw[bV _ _ (λz=>c (by rw[z];apply .head _))];apply e,
   λb u e c _=>⟨u.slots,by rw[bV _ _ (λz=>c (by rw[z];apply .head _))];apply e⟩,
   λb u e=>by
    by_cases q:a=b
    · subst q;apply⟨_,bZ _ g (fA (cH d f))⟩
    · apply⟨u,by rw[bV _ _ q];apply e⟩⟩
theorem lr.FA(x:lr fs ch h h')(g:h.FunFrames base l)(f:∀b∈ch,∀o,h.get? b=aA o->∃vs,o.data = .fields vs):h'.FunFrames base l:=
 g.of_keeps λb o e d=>by
  let a:b∉ch:=λz=>by let⟨vs,q⟩:=f b z o e;apply d vs q
  by_cases c:b∈fs
  ·let⟨i,q⟩:=x.slot b o e a c;apply⟨_,q,rfl⟩
  ·apply⟨o,x.keep b o e a c,rfl⟩
section
variable {M:sM}{A:bX}{E:IE}{s:aN}
def P7
  (m:A.frames=aA (env::outer)) (r:s.heap.FunFrames base (env::outer)) (v:env.frame=aA L)
  (t:s.heap.get? e=aA oe) (i:oe.data = .fields vs) (k:1<vs.size)
  (h:∀h' T,⇑s<=T->h'.get? e=aA (oe.mapFields (·.setIfInBounds 1 (.ref T)))->(∃oT ts,h'.get? T=aA oT/\oT.data = .fields ts/\ts[3]?=aA (fE L))->lr ((env::outer).filterMap (·.frame)) [e] s.heap h'->Q .unit {s with heap:=h'}) :
  ao M A (do let a <-frameOf env;let pl <-entryPlaceOf L yu;let b <-EntryCells.newEntry head a .none (fE L) .none pl;setField (.ref e) 1 b) Q E s:=by
 let g:e∉(env::outer).filterMap (·.frame):=λu=>by let⟨_,o,j,l⟩:=r.mem u;rw[t] at j;injection j with j;subst j;apply l vs i
 show aE (wpAny_frameOf_fun m r v λh₁ c=>?_);show aE (wpAny_entryPlaceOf λpl p=>?_);show aE (cw ?_ (p.sizeOk5 _ _ _ _ _));let f:=(c.2.1 e g).trans t;let d:=aF {cls:=.type "traceback",dict:=aB,data:=.fields ([head,.ref L,.none,fE L,.none]++(if pl.isEmpty then ak 6 fQ else pl)).toArray} f;let n:=c.1;let w:=bZ (gH (·.setIfInBounds 1 (bp h₁.objs.size))) d (fA (cH i _))
 let p2:=(bV (h₁.push {cls:=.type "traceback",dict:=aB,data:=.fields ([head,.ref L,.none,fE L,.none]++(if pl.isEmpty then ak 6 fQ else pl)).toArray})
  (gH (·.setIfInBounds 1 (bp h₁.objs.size))) (ay (aT f))).trans (aV h₁ rfl)
 let x:lr ((env::outer).filterMap (·.frame)) [e] s.heap ((h₁.push {cls:=.type "traceback",dict:=aB,data:=.fields ([head,.ref L,.none,fE L,.none]++(if pl.isEmpty then ak 6 fQ else pl)).toArray}).update e (gH (·.setIfInBounds 1 (bp h₁.objs.size)))):=
  lr.trans ⟨λb o q _ y=>(c.2.1 b y).trans q,λb o q _ _=>c.2.2 b o q,λb o q=>by let⟨B,z⟩:=c.2.2 b o q;apply⟨_,z⟩⟩ (lr.trans ⟨λb o q _ _=>aF _ q,λb o q _ _=>⟨o.slots,aF _ q⟩,λb o q=>⟨o,aF _ q⟩⟩ (lr.field d i))
 show fX d i k (h _ h₁.objs.size () w ⟨_,_,p2,rfl,?_⟩ x);simp
def A5(h:b7)(e:aM)(cls:aG)(dd:I'):Prop:=∃oe vs,h.get? e=aA oe/\oe.cls=cls/\oe.dict=dd/\oe.data = .fields vs/\vs[1]?=aA .none
def Co(h:b7)(e:aM)(cls:aG)(dd:I')(T:aM)(Dd:aG):Prop:=
 ∃oe vs oT ts,h.get? e=aA oe/\oe.cls=cls/\oe.dict=dd/\oe.data = .fields vs/\vs[1]?=aA (.ref T)/\T≠e/\h.get? T=aA oT/\oT.data = .fields ts/\ts[3]?=aA Dd
def UJ(o:fH)(f:Array aG->Array aG):(o.mapFields f).dict=o.dict:=by
 delta gH;split<;>rfl
variable {base:b7}{env:n8}{outer:Dk}{L e T:aM}{cls Dd:aG}{dd:I'}{Q:Unit->aN->Prop}
def Zl3(d:A.frames=aA (env::outer))(o:s.heap.FunFrames base (env::outer))(i:env.frame=aA L)(x:A5 s.heap e cls dd)
  (h:∀h' T,⇑s<=T->Co h' e cls dd T (fE L)->lr ((env::outer).filterMap (·.frame)) [e] s.heap h'->Q .unit {s with heap:=h'}):ao M A (kg (.ref e) env) Q E s:=by
 let⟨r,vs,f,l,b,c,j⟩:=x;delta kg;dsimp[i];show aE (c9 f c j ?_);let a:=(cL.mp j).1;show P7 d o i f c a λh' T g m ⟨n,ts,p2,p,q⟩ k=>h h' T g ⟨_,_,n,ts,m,(gp _ _).trans l,(UJ _ _).trans b,cH c _,by simp[a],?_,p2,p,q⟩ k;apply gG (ar (aT f) g)
def Zgt(n:A.frames=aA (env::outer))(G:s.heap.FunFrames base (env::outer))(v:env.frame=aA L)(x:Co s.heap e cls dd T .none)
  (h:∀h' g,⇑s<=g->Co h' e cls dd g (fE L)->lr ((env::outer).filterMap (·.frame)) [e,T] s.heap h'->Q .unit {s with heap:=h'}):ao M A (kg (.ref e) env) Q E s:=by
 let⟨N,vs,J,ts,t,D,k,l,B,j,i,c,y⟩:=x;delta kg;dsimp[v];show aE (c9 t l B ?_);show aE (c9 i c y ?_);show aE (fX i c (cL.mp y).1 ?_);let f:=(cL.mp B).1;let z:lr ((env::outer).filterMap (·.frame)) [T] s.heap (s.heap.update T (gH (·.setIfInBounds 3 fQ))):=lr.field i c;let m:=z.FA G (λb d o q=>by rw[aO.mp d,i] at q;cases q;apply⟨_,c⟩);let p:=(bV s.heap (gH (·.setIfInBounds 3 fQ)) j).trans t;let w:(s.heap.update T (gH (·.setIfInBounds 3 fQ))).objs.size=⇑s:=⋯
 show P7 n m v p l f λh' g a F ⟨u,r,p2,H,I⟩ C=>h h' g (by rw[<-w];apply a) ⟨_,_,u,r,F,(gp _ _).trans D,(UJ _ _).trans k,cH l _,by simp[f],?_,p2,H,I⟩ ?_
 ·let a:=a;rw[w] at a;apply gG (ar (aT t) a)
 ·apply(z.mono λb d=>by simp[d]).trans (C.mono λb d=>by simp at d;simp[d])
def P8(x:Co s.heap e cls dd T Dd)(h:∀h',Co h' e cls dd T .none->lr fs [T] s.heap h'->h'.objs.size=⇑s->Q .unit {s with heap:=h'}):ao M A (setFlight (.ref e) aB) Q E s:=by let⟨m,vs,n,ts,i,l,f,g,j,c,d,a,k⟩:=x;let b:=(cL.mp k).1;show aE (c9 i g j ?_);show fX d a b (h _ ⟨m,vs,_,_,(bV _ _ c).trans i,l,f,g,j,c,bZ _ d (fA (cH a _)),cH a _,by simp[b]⟩ (lr.field d a) ⋯)
def ej(i:A.frames=aA (env::outer))(n:s.heap.FunFrames base (env::outer))(a:env.frame=aA L)(x:A5 s.heap e cls dd)
  (h:∀h' T,⇑s<=T->Co h' e cls dd T .none->lr ((env::outer).filterMap (·.frame)) [e] s.heap h'->Q .unit {s with heap:=h'}):ao M A (leaving env (.ref e)) Q E s:=by
 show aE (Zl3 i n a x λw T k p j=>?_);show P8 p (fs:=(env::outer).filterMap (·.frame)) λr m g _=>h r T k m ?_;let l:∀b o,s.heap.get? b=aA o->b≠T:=λb o q z=>by subst z;apply cO _ (ar (aT q) k)
 apply⟨λb o q d a=>g.keep b o (j.keep b o q d a) (~~~l b o q) a,λb o q d a=>by
  let⟨v,c⟩:=j.slot b o q d a;let⟨f,u⟩:=g.slot b _ c (~~~l b o q) a
  apply⟨f,u⟩,λb o q=>by
  let⟨t,c⟩:=j.there b o q;apply g.there b t c⟩
def vd(j:A.frames=aA (env::outer))(p:s.heap.FunFrames base (env::outer))(a:env.frame=aA L)(x:Co s.heap e cls dd T .none)
  (h:∀h' c,⇑s<=c->Co h' e cls dd c .none->lr ((env::outer).filterMap (·.frame)) [e,T] s.heap h'->Q .unit {s with heap:=h'}):ao M A (leaving env (.ref e)) Q E s:=by
 show aE (Zgt j p a x λy c l r k=>?_);show P8 r (fs:=(env::outer).filterMap (·.frame)) λt n i _=>h t c l n ?_;let m:∀b o,s.heap.get? b=aA o->b≠c:=λb o q z=>by subst z;apply cO _ (ar (aT q) l)
 apply⟨λb o q f a=>i.keep b o (k.keep b o q f a) (~~~m b o q) a,λb o q f a=>by
  let⟨w,d⟩:=k.slot b o q f a;let⟨g,v⟩:=i.slot b _ d (~~~m b o q) a
  apply⟨g,v⟩,λb o q=>by
  let⟨u,d⟩:=k.there b o q;apply i.there b u d⟩
end
section
variable {P:bC}{w:bU}{fs ch:Gc}{H:Hp}{h h':b7}
def SH(x:FI P w H h)(e:lr fs ch h h')(g:∀b∈ch,H b=aB)(j:∀b∈fs,H b=aB):FI P w H h':=λa o f=>
 (x a o f).MP (λb u i q=>by
  let c:∃d,H b=aA d:=by
   rcases i with z | z
   ·apply⟨o,by rw[z];apply f⟩
   ·apply⟨_,z⟩
  let⟨d,c⟩:=c;apply e.keep b u q (λz=>by rw[g b z] at c;cases c) (λz=>by rw[j b z] at c;cases c)) (λ_ q=>q) (λ_ _ q=>q) λ_ _ q=>q
end
def Fl(H':Hp)(h0 h:b7)(e:aM)(cls:aG)(dd:I'):Prop:=∃T,Co h e cls dd T .none/\H' e=aB/\H' T=aB/\h0.get? e=aB/\h0.get? T=aB
def BN(P:bC)(w:bU):Hm:=λouter H s E v Kl=>
 ∃e cls dd H',v = .ref e/\Kl.os=s.os/\mW Kl.gens/\Fo (DV outer) [] H H' s.heap Kl.heap/\FI P w H' Kl.heap/\Fl H' s.heap Kl.heap e cls dd/\E cls dd H'
section
variable {X:Cx}{Iu:MI}{U:_l.St}{H:Hp}{s:aN}{e:aM}{cls:aG}{dd:I'}{E:Kp}
structure Gq(X:Cx)(E:Kp):Prop where
 BD:X.stack=X.env::X.outer
 fr:X.env.frame=aA X.env.locals
 ex:X.ex=[]
 Bk:X.Bk=λv Kl=>ao (model X.prog X.w) X.A (leaving X.env v) (λ_ aam=>BN X.prog X.w X.outer X.H₀ X.s₀ E v aam) (λBE aam=>BN X.prog X.w X.outer X.H₀ X.s₀ E BE aam) Kl
def RJ(D:Gq X E)(I:Inv X Iu U H s)(l:X.s₀.heap.get? T=aB)(r:X.s₀.heap.get? e=aB)(p:H e=aB)(j:H T=aB)(k:∀b∈ch,H b=aB/\X.s₀.heap.get? b=aB)(x:Co h' e cls dd T .none)
  (g:lr ((X.env::X.outer).filterMap (·.frame)) ch s.heap h') (q:E cls dd H):BN X.prog X.w X.outer X.H₀ X.s₀ E (.ref e) {s with heap:=h'}:=by
 let m:=λb a=>by let:=I.aa5 b;rw[D.BD] at this;apply this a
 show⟨e,cls,dd,H,rfl,I.os,I.bare,?_,SH I.Bh g (λb a=>(k b a).1) m,⟨T,x,p,j,r,l⟩,q⟩;let d:=I.base;let lt:∀b o,X.s₀.heap.get? b=aA o->b∉ch:=λb o z a=>by rw[(k b a).2] at z;cases z
 let Hr:∀b o,X.s₀.heap.get? b=aA o->b≠X.env.locals:=λb o z a=>by subst a;apply cO _ (ar (aT z) I.ok.above)
 let f:∀b o,X.s₀.heap.get? b=aA o->(b∈(X.env::X.outer).filterMap (·.frame)↔b∈DV X.outer):=λb o z=>by rw[nB D.fr,aW];apply⟨λh=>h.elim (λq=>absurd q (Hr b o z)) λq=>q,.inr⟩
 let c:∀b:aM,b∉X.ex:=λb z=>by rw[D.ex] at z;simp at z
 show⟨λb o z n a _=>?_,λb o z n a _=>?_,λb o z n _=>d.free b o z n (c b),λb o z _=>?_,d.BA,d.Dr,d.Bw⟩
 ·apply g.keep b o (d.keep b o z n a (c b)) (lt b o z) (λq=>a ((f b o z).mp q))
 ·let⟨u,z1⟩:=d.slot b o z n a (c b);let⟨i,z2⟩:=g.slot b _ z1 (lt b o z) ((f b o z).mpr a);apply⟨i,z2⟩
 ·let⟨t,z1⟩:=d.there b o z (c b);apply g.there b t z1
def Zjd(D:Gq X E)(I:Inv X Iu U H s)(x:A5 s.heap e cls dd)(d:X.s₀.heap.get? e=aB)(g:H e=aB)(q:E cls dd H):X.Bk (.ref e) s:=by rw[D.Bk];let c:=I.stack;rw[D.BD] at c;let a:=I.ok.frames;rw[D.BD] at a;show ej a c D.fr x λh' T f j h=>?_;apply RJ D I (fJ (cA I.E9 f)) d g (I.Bh.fresh f) (λb i=>by rw[aO.mp i];apply⟨g,d⟩) j h q
def Zeh(D:Gq X E)(C:∀c dd i,E' c dd i->E c dd i):M7 (BN X.prog X.w) X E':=λL U H s v G I w=>by
 let⟨e,c,dd,i,rfl,j,F,u,k,⟨T,x,n,m,p,y⟩,q⟩:=w;let g:=I.abi j u k F λb l=>nomatch l;rw[D.Bk];let d:=g.stack;rw[D.BD] at d;let f:=g.ok.frames;rw[D.BD] at f;show vd f d D.fr x λh' J h A B=>?_
 let a:∀b:aM,s.heap.get? b=aB->X.s₀.heap.get? b=aB:=λb z=>by
  cases r:X.s₀.heap.get? b with
  | none=>rfl
  | some o=>
   let⟨M,t⟩:=I.base.there b o r (by rw[D.ex];simp);rw[z] at t;cases t
 apply RJ D g (fJ (cA g.E9 h)) (a e p) n (g.Bh.fresh h) (λb l=>by
  rcases aW.mp l with z | z
  ·rw[z];apply⟨n,a e p⟩
  ·rw[aO.mp z];apply⟨m,a T y⟩) A B (C _ _ _ q)
def QU{w:bU}{K:aH}{mg:Bp}{d:b7}{N:Kn}{c:bH}{b:jd}{f:aM}{e:aG}{A:bX}{a:Dk}{s:aN}{H:Hp}{E:Kp} :
  Gq (K3 (BN P w) P w K mg d N c b f e A a s H E) E:=⟨rfl,rfl,rfl,rfl⟩
end
structure R'(X:Cx)(E:Kp):Prop where
 go:∀{Iu:MI}{U:_l.St}{H:Hp}{s:aN}{e:aM}{cls:aG}{dd:I'},Inv X Iu U H s->A5 s.heap e cls dd->X.s₀.heap.get? e=aB->H e=aB->E cls dd H->X.Bk (.ref e) s
end _z
namespace PySem
open PySem.Sem (wp)
section
variable {prog:bC}{w:bU}{A:bX}{E:IE}{h:b7}{g:Array lG}{d:Drawn}{t:Nat}{os:OsState}
variable {nm q:bH}{C N:aM}{bs bm lK:E4}{hdct:Bool}{sn:Kn}{sub:E4}{ab:Bool}{col:Fd}{dd:I'}{k0 k1 k2 k3 k5:F_}{B newId dA:Dg}
def Ws(F:jY B newId dA lK)(T:rA h lK bm)
  (k:h.get? C=aA (eZ nm q C N bs bm hdct sn sub ab col dd k0 k1 k2 k3 k5 newId)) (z:h.Ns N mN) (H:mN "__init__" = aA (.ref fI))
  (m:h.get? fI=aA oI) (n:oI.cls = .type "function")
  (y:∀h',(∀b o,h.get? b=aA o->h'.get? b=aA o)->h'.get? (h.objs.size+1)=aA {cls:=.ref C,data:=.fields #[.ref h.objs.size,.none,.none,.none,.bool aC,.none]}->
   ao (model prog w) A (call (.ref fI) (.ref (h.objs.size+1)::tw)) (λr s=>r = .none/\Q (.done (.ret (.ref (h.objs.size+1)))) s) E ⟨h',g,d,t,os⟩) (j:tw.length<=sizeLine:=by size_fits) :
  ao (model prog w) A (km.«type.__call__» ⟨.ref C::tw,[]⟩) Q E ⟨h,g,d,t,os⟩:=by
 repeat (first | with_reducible show cN k ?_ | with_reducible show wpAny_madeBy_exc k ?_ | wp_step)
 show codeAny_call_builtin_code (iV _ F.quiet) (wpAny_check_new_subT F T k ?_);show codeAny_exc_new_subT F T k ?_ j
 let a:=aF {cls:=.ref C,data:=.fields #[.ref h.objs.size,.none,.none,.none,.bool aC,.none]}
  (aF {cls:=.type "tuple",data:=.seq tw.toArray} k)
 let c:=aF {cls:=.ref C,data:=.fields #[.ref h.objs.size,.none,.none,.none,.bool aC,.none]}
  (aF {cls:=.type "tuple",data:=.seq tw.toArray} m)
 let i:((h.push {cls:=.type "tuple",data:=.seq tw.toArray}).push {cls:=.ref C,data:=.fields #[.ref h.objs.size,.none,.none,.none,.bool aC,.none]}).Ns N mN:=
  let⟨o,u,ep,e,r⟩:=z;⟨o,u,ep,aF _ (aF _ e),r⟩
 let f:((h.push {cls:=.type "tuple",data:=.seq tw.toArray}).push
   {cls:=.ref C,data:=.fields #[.ref h.objs.size,.none,.none,.none,.bool aC,.none]}).get? (h.objs.size+1)=aA
   {cls:=.ref C,data:=.fields #[.ref h.objs.size,.none,.none,.none,.bool aC,.none]}:=by heap_get
 let p:(bp C::bm).contains (.ref C)=aD:=⋯
 let l:=T.keeps (h':=(h.push {cls:=.type "tuple",data:=.seq tw.toArray}).push {cls:=.ref C,data:=.fields #[.ref h.objs.size,.none,.none,.none,.bool aC,.none]})
  λb o e=>aF _ (aF _ e)
 repeat (first | with_reducible show cN f ?_ | (with_reducible show dm a ?_;rw[p]) | wp_step)
 show wpAny_typeLookup_tail a i l F.mroIs F.init.lookup ?_;rw[H];show b9 (aE ?_);show aE (lh ⟨_,c,n⟩ ?_);show aJ (aE (bQ (y _ (λb o D=>aF _ (aF _ D)) f) (λr s G=>?_) λ_ _ x=>x));let⟨rfl,v⟩:=G
 wp_walk
 apply v
def UK(F:jY B newId dA lK)(T:rA h lK bm)
  (a:h.get? C=aA (eZ nm q C N bs bm hdct sn sub ab col dd k0 k1 k2 k3 k5 newId)) (l:h.Ns N mN) (n:mN "__init__" = aA (.ref fI))
  (e:h.get? fI=aA oI) (f:oI.cls = .type "function")
  (m:∀h',(∀b o,h.get? b=aA o->h'.get? b=aA o)->h'.get? (h.objs.size+1)=aA {cls:=.ref C,data:=.fields #[.ref h.objs.size,.none,.none,.none,.bool aC,.none]}->
   ao (model prog w) (A.under (.builtin "type.__call__" ⟨.ref C::tw,[]⟩)) (call (.ref fI) (.ref (h.objs.size+1)::tw)) (λr k=>r = .none/\Q (.ref (h.objs.size+1)) k) E ⟨h',g,d,t,os⟩) (c:tw.length<=sizeLine:=by size_fits) :
  ao (model prog w) A (call (.ref C) tw) Q E ⟨h,g,d,t,os⟩:=by
 let f1:=tc_lookup;let p:=tc_bind (.ref C);show iT (lV ?_)
 repeat (any_goals (first | assumption | with_reducible show cN a ?_ | wp_step))
 show⟨rfl,?_⟩;show codeAny_call_builtin_at (iV _ ⋯) entry_typeCall (wpAny_check_type_call_sub a (Ws F T a l n e f λh' i j=>?_));apply m h' i j
end
section
variable {M:sM}{A:bX}{E:IE}{env:n8}
variable {nm q:bH}{C N:aM}{bs bm lK:E4}{hdct:Bool}{sn:Kn}{sub:E4}{ab:Bool}{col:Fd}{dd:I'}{k0 k1 k2 k3 k5:F_}{B newId dA:Dg}
def Wu(b:bm.contains (.type "BaseException")=aD)(j:A.handled=aB)
  (h:ao M A x (λv a=>∃e t f,v = .ref e/\a.heap.get? C=aA (eZ nm q C N bs bm hdct sn sub ab col dd k0 k1 k2 k3 k5 newId)/\
   a.heap.get? e=aA {cls:=.ref C,dict:=f,data:=.fields #[.ref t,.none,.none,.none,.bool aC,.none]}/\E (.ref e) a) E s) :
  ao M A (raiseStmt env (aA x) aB) Q E s:=by
 let c:(bp C::bm).contains (.type "BaseException")=aD:=by rw[g8,b,kS]
 show aE (bQ h (λv a h₁=>?_) λ_ _ x=>x);let⟨e,t,f,rfl,d,i,g⟩:=h₁
 repeat (first | with_reducible show cN i ?_ | with_reducible show cN d ?_ | (with_reducible show dm d ?_;rw[c]) | wp_step)
 apply wpAny_raiseNew_none j g
end
section
variable {prog:bC}{w:bU}{A:bX}{E:IE}{s:aN}{env:n8}
variable {nm q:bH}{C N:aM}{bs bm lK:E4}{hdct:Bool}{sn:Kn}{sub:E4}{ab:Bool}{col:Fd}{dd:I'}{k0 k1 k2 k3 k5:F_}{B newId dA:Dg}
def VJ(F:jY B newId dA lK)
  (j:bm.contains (.type "BaseException")=aD) (M:A.handled=aB) (g:(cQ IQ (aL args env)).any (·.1)=aC) (R:mN "__init__" = aA (.ref fI)) (m:oI.cls = .type "function")
  (h:ao (model prog w) A (eval (.Name x np) env) (λf i=>f = .ref C/\ao (model prog w) A (evalArgs (.ref C) aD (cQ IQ (aL args env)) [])
   (λa c=>a.kw=[]/\a.pos.length<=sizeLine/\c.heap.get? C=aA (eZ nm q C N bs bm hdct sn sub ab col dd k0 k1 k2 k3 k5 newId)/\c.heap.Ns N mN/\rA c.heap lK bm/\c.heap.get? fI=aA oI/\
    ∀h',(∀b o,c.heap.get? b=aA o->h'.get? b=aA o)->h'.get? (⇑c+1)=aA {cls:=.ref C,data:=.fields #[.ref ⇑c,.none,.none,.none,.bool aC,.none]}->
     ao (model prog w) (A.under (.builtin "type.__call__" ⟨.ref C::a.pos,[]⟩)) (call (.ref fI) (.ref (⇑c+1)::a.pos)) (λr d=>r = .none/\∃t u,d.heap.get? C=aA (eZ nm q C N bs bm hdct sn sub ab col dd k0 k1 k2 k3 k5 newId)/\
      d.heap.get? (⇑c+1)=aA {cls:=.ref C,dict:=u,data:=.fields #[.ref t,.none,.none,.none,.bool aC,.none]}/\E (.ref (⇑c+1)) d) E {c with heap:=h'}) E i) E s) :
  ao (model prog w) A (exec (.Raise (aA (.Call (.Name x np) args [] IQ)) aB pos) env) Q E s:=by
 show aE (je (Wu (C:=C) (nm:=nm) (q:=q) (N:=N) (bs:=bs) (hdct:=hdct) (sn:=sn) (sub:=sub) (ab:=ab) (col:=col) (dd:=dd) (k0:=k0) (k1:=k1) (k2:=k2) (k3:=k3) (k5:=k5) (newId:=newId) j M ?_));show aE (bQ (wpAny_Call_ofName (bQ h (λf i h₁=>?_) λ_ _ x=>x)) (λv d k=>aE (je (aJ k))) λ_ _ x=>x);let⟨rfl,h₁⟩:=h₁;show aE (b9 (bQ h₁ (λa c e=>aE (je ?_)) λ_ _ x=>x));let⟨D,J⟩:=a;let⟨p,H,z,P,T,l,e⟩:=e;obtain rfl:=p;dsimp[g];show aE (wpAny_keeperOf_exc z ?_);show aE (UK F T z P R l m λh' n y=>bQ (e h' n y) (λr S G=>⟨G.1,aE (b9 (wpAny_point (aJ ?_)))⟩) λ_ _ x=>x);let⟨_,t,u,O,L,I⟩:=G;apply⟨_,t,u,rfl,O,L,I⟩
end
end PySem
namespace _z
open PySem.W Builtin Builtin.ObjectAttr
def Gr:List aG:=[.type "ValueError",.type "Exception",.type "BaseException",.type "object"]
def Gs:List aG->Bool
 | .ref _::r=>Gs r
 | l=>l==Gr
def Cs(K:Frag)(C:aM):Bool:=(clsIn K C).any λcd=>Gs cd.mro
def Zei(h:Gs l=aD):(∀a,refuseLoop a "__setattr__" l=pure Unit.unit)/\l.contains (.type "object")=aD/\l.isEmpty=aC:=by
 induction l with
 | nil=>apply absurd h ∅
 | cons x r E2=>
  by_cases q:∃c,x = .ref c
  ·let⟨c,rfl⟩:=q;let:=E2 h;apply⟨λa=>by rw[refuseLoop_ref];apply this.1 a,by rw[g8,this.2.1,kS],rfl⟩
  ·let e:x::r=Gr:=by
    let h':(x::r==Gr)=aD:=by cases x<;>first | apply h | apply absurd ⟨_,rfl⟩ q
    apply eq_of_beq h'
   rw[e];apply⟨λa=>PySem.F.store_ValueError.passes a,∅,rfl⟩
section
variable {prog:bC}{w:bU}{A:bX}{R:rP->aN->Prop}{E:IE}{s:aN}{K:Frag}{x C:aM}{ox:fH}{name:bH}{tk:tD}{v:aG}
def TA(X:K.In s.heap)(I:InstAt s.heap x ox C Dc)(hp:Cs K C=aD)(n:takerIn K C name=aA aB)
  (h:∀b,ao (model prog w) A.in1 (storeInOwnDict (.ref x) (.ref C) (.str name tk) name v b)
   (λi g=>match i with | .done f=>R (.ok f) g | .again abc=>abc.quiet=aD/\gk (model prog w) A abc R g) (λe g=>R (.error e) g) s) :
  gk (model prog w) A (.call (.builtin "object.__setattr__") ⟨[.ref x,.str name tk,v],[]⟩) R s:=by
 let d:=PySem.F.store_object;let⟨o,j,u⟩:=any_some hp;let⟨p,o2,y⟩:=Zei u;let sub:Looks (model prog w) s.heap (qO (.ref x) (.type "object")) aD:=I.type.andThen (looks_mroIn X (by delta mroIn;rw[j,aY,Fb (by rw[y];decide),o2]));show fN d.slot.plain d.entry (@check_slot (model prog w) _ _ s "object.__setattr__" "object" "__setattr__" (.ref x) [.str name tk,v] [] _ d.kind d.split sub (d.args (.ref x) (.str name tk) v) ?_);let⟨c,q,t⟩:=nU.mp n;let k:Looks (model prog w) s.heap (mroOf (.ref C)) o.mro:=(looks_clsIn X j).andThen .now
 let m:Looks (model prog w) s.heap (storeTaker? c) aB:=by
  cases c with
  | none=>apply .now
  | some a=>
   let⟨b,r,l⟩:=oE.mp t;show(looks_takesIn X r).andThen ?_
   cases b with
   | false=>apply .now
   | true=>cases l
 rw[osa_eq,refuse_eq];show aE (aE (I.type.here (aE (k.here ?_))));rw[p];show aJ (aE (I.type.here (aE ((looks_findIn X q).here (aE (m.here ?_))))));apply h _
def VK(X:K.In s.heap)(l:s.heap.get? x=aA ox)(k:ox.cls = .ref C)(m:notCls ox=aD)(L:ox.dict=aB)(hs:findIn K (.ref C) "__setattr__" = aA (aA (.builtin "object.__setattr__")))
  (hp:Cs K C=aD) (U:takerIn K C name=aA aB) (Y:(clsIn K C).any (·.hasDict)=aD)
  (S:∀h' ι II,(∀b o,b≠x->s.heap.get? b=aA o->h'.get? b=aA o)->h'.get? x=aA {ox with dict:=aA II}->⇑s<=II->II≠x->h'.Ns1 II (λy=>if y=name then aA v else aB)->Q .unit {s with heap:=h',toks:=ι}) :
  ao (model prog w) A (setAttr (.ref x) name v) Q E s:=by
 let I:InstAt s.heap x ox C aB:=⟨l,k,m,by rw[L];trivial⟩;show set_plain X I hs ?_;let Z:=X;show TA Z I hp U λb=>?_;let⟨cd,N,r⟩:=any_some Y;let⟨a,g,d,t,os⟩:=s;let⟨IV,P,h,n⟩:=ox;subst k L;let nc:∀c,h≠.cls c:=λc z=>by subst z;simp[notCls] at m
 let i:=ay (aT l);let f:(a.push {cls:=.type "dict",data:=.dict #[]}).get? x=aA ⟨.ref C,aB,h,n⟩:=aF _ l;show aE (aJ (aE (aE (pK l (aE ((looks_clsIn X N) _ _ _ _ (λ_ _ e=>e) ?_))))));rw[r]
 dsimp only
 rw[Fb ∅,Fb (by simp[typeHasDict])];split
 ·rename_i R;apply absurd rfl (nc _)
 show aE (wpAny_alloc' ?_);show aE (wpAny_update' f ?_);show aJ ?_
 let F:((a.push {cls:=.type "dict",data:=.dict #[]}).update x λo=>{cls:=o.cls,dict:=aA a.objs.size,data:=o.data,slots:=o.slots}).get? a.objs.size
   = aA {cls:=.type "dict",data:=.dict #[]}:=
  (l7 _ _ _ _ i.symm).trans (rB rfl rfl)
 let u:((a.push {cls:=.type "dict",data:=.dict #[]}).update x λo=>{cls:=o.cls,dict:=aA a.objs.size,data:=o.data,slots:=o.slots}).Ns a.objs.size (λ_=>aB):=
  ⟨_,#[],_,F,rfl,λe W=>absurd W ⋯,λ_=>rfl⟩
 show aE (aJ (aE (wpAny_nsSet1 (b7.Ns1.of_empty u) λh' j p=>?_)));let⟨oD,T,O,G,D,q⟩:=j.count (Within.cons name v Within.nil);show aE (wpAny_lookBehind G (by rw[D];apply pastItsLine_dict (cA q ⋯)) ?_);show aJ ?_;let J:h'.get? x=aA {cls:=.ref C,dict:=aA a.objs.size,data:=h,slots:=n}:=?_
 ·apply S h' _ a.objs.size (λb Du H M=>(p.2 b (ay (aT M))).trans ((l7 _ _ _ _ H).trans (aF _ M))) J (aZ _) i.symm j
 ·show(p.2 x i).trans (bZ _ f ?_);let B:=(b7.get?_some_iff.mp l).2;cases h<;>first | rfl | apply B
end
section
variable {prog:bC}{w:bU}{A:bX}{E:IE}{h:b7}{g:Array lG}{d:Drawn}{t:Nat}{os:OsState}
variable {nm q:bH}{C N:aM}{bs bm lK:E4}{hdct:Bool}{sn:Kn}{sub:E4}{ab:Bool}{col:Fd}{dd:I'}{k0 k1 k2 k3 k5:F_}{B newId dA:Dg}
abbrev Ey(C:aM)(t:aM):fH:={cls:=.ref C,data:=.fields #[.ref t,.none,.none,.none,.bool aC,.none]}
def XK(F:jY B newId dA lK)(T:rA h lK bm)(f:h.get? C=aA (eZ nm q C N bs bm hdct sn sub ab col dd k0 k1 k2 k3 k5 newId))
  (a:h.get? e=aA (Ey C t0)) (i:∀h',(∀b o,b≠e->h.get? b=aA o->h'.get? b=aA o)->h'.get? e=aA (Ey C h.objs.size)->h'.get? h.objs.size=aA {cls:=.type "tuple",data:=.seq #[v]}->Q .none ⟨h',g,d,t,os⟩) :
  ao (model prog w) A (call (.builtin dA) [.ref e,v]) Q E ⟨h,g,d,t,os⟩:=by
 show iT (fN F.init.plain F.initEntry (wpAny_check_init_subT F T f a rfl ?_))
 wp_walk
 let c:=ay (aT a);show i _ (λb o j q=>?_) ?_ ?_
 ·rw[bV _ _ j.symm];apply aF _ q
 ·rw[bZ _ (aF _ a) rfl];rfl
 ·rw[bV _ _ c];apply rB rfl rfl
end
open _l
def uM(is:E1):oX (is.map iB)=is.map λi=>iX (toString i):=by
 induction is with
 | nil=>rfl
 | cons i r E2=>rw[aa,oX,E2];rfl
def b1{is:E1}(h:∀i∈is,i.natAbs.log2<1920):qP (is.map iB)=aD:=by
 induction is with
 | nil=>rfl
 | cons i r E2=>
  rw[aa,qP,E2 λj a=>h j (by simp[a])];simp[PyData.showable,h i ⋯]
def ha(is:E1):m9 (is.map iB)=aC:=by
 induction is with
 | nil=>rfl
 | cons i r E2=>rw[aa,m9,E2];rfl
def R7:∀{is:E1}{us:E4},Bj (is.map V.int) us->ReadsAll h us (is.map iB) []
 | [],_,.nil=>.nil
 | i::r,_,.cons MH ID=>by let⟨t,rfl⟩:=MH;apply ReadsAll.cons (as:=[]) (bs:=[]) (.int i t) (R7 ID)
def q'(is:E1):sC (is.map iB)<=1:=by
 induction is with
 | nil=>decide
 | cons i r E2=>
  rw[aa,sC];simp[rC]
  lia
open _v
abbrev XR:=ZG->Option bH
def C4(K:aH)(O:Iw)(fx:XR)(E:Kp):Di:=λ_ U H=>∃H0 bD s n,Rel K O H0 bD s U H/\fx s=aA n/\∀C H',cB K bP n=aA (aA (.ref C))->MX H0 H'->E (.ref C) aB H'
def BV(X:Cx)(O:Iw)(E:Kp)(st:cJ)(fx:XR):Prop:=Df X st (C4 X.K O fx E)
section
variable {X:Cx}{O W:Iw}{E:Kp}{C:aM}{lK:E4}{B newId dA:Dg}{x y:bH}{np IQ pos p1 p2 p3:gy}{jj k:Nat}{e:bS}{f:XE}
variable {st:cJ}{tw a b:L_}{c:bS}{fc:XT}{f1 g1:XR}{fs:XS}
def w2(a:Df X st t)(c:∀D D' U H,t D U H->t D' U H):KJ X (st::tw) (λ_ U H=>t {IA:=λ_ _=>False,E7:=λ_ _=>False} U H):=by
 ext b s U H D I h;show iG (ZV (a b s U H {IA:=λ_ _=>False,E7:=λ_ _=>False} I h) λf s1 q=>?_)
 cases f with
 | next=>let⟨_,_,_,z⟩:=q;apply z.elim
 | ret u=>let⟨_,_,_,_,_,z⟩:=q;apply z.elim
 | brk=>let⟨_,_,_,z⟩:=q;apply z.elim
 | cont=>let⟨_,_,_,z⟩:=q;apply z.elim
end
structure qb(P:bC)(w:bU)(K:aH)(mg:Bp)(base:b7)(x:bH)(ps:Kn)(Fv:By)(k:Nat):Prop where
 ex:∃f fd,mg x=aA (.ref f)/\eB K (.ref f)=aD/\Binds K fd ps []/\FD P w K mg base (BN P w) k f fd ps Fv
section
variable {X:Cx}{Iu:MI}{U:_l.St}{H:Hp}{s:aN}
def z'(I:Inv X Iu U H s)(L:X.N.Nodup)(C:X.N[i]?=aA n)(B:X.env.scope.names.lookup n=aA .local)
  (h:∀Kl,Inv X Iu (U.set i aB) H Kl->Q .unit Kl):ao (model X.prog X.w) A (do bindName X.env n .none;pL X.env n pos) Q E s:=by
 show aE (wpAny_bindName (Us I L C (.inl B) (v:=.IB) rfl (λs1 a=>?_) (.inr B)));show ko ?_;let t:(X.env.scope.kind==.class || (X.env.scope.kind==.module&&X.env.locals != X.env.globals))=aC:=by rw[I.ok.kind];rfl
 let r:i<U.length:=by rw[I.len];apply(aS.mp C).1
 let⟨m,Fm,O⟩:=id a.loc;let⟨u,ru,lk⟩:=O i n .IB C (by rw[fR r]) (.inl B);let l:X.env.kindOf n=aA .local:=B
 let T:m n=aA u:=by
  rcases lk with⟨_,z⟩ | ⟨z,_⟩
  ·apply z
  ·rw[l] at z;rcases z with z | z<;>cases z
 let Dv:=a.Dv;show wpAny_unbindName_local l Fm T t λh' MV D hs=>h _ ?_;show⟨a.ok,a.os,a.bare,⟨λb o e n J g=>?_,λb o e n J g=>?_,a.base.free,λb o e g=>?_,a.base.BA,a.base.Dr,a.base.Bw⟩,⟨_,D,λj y P f x Z=>?_⟩,λy c e=>?_,a.free,a.Dq,λp hp=>?_,λb Du e=>?_,by let:=a.len;simpa using this⟩
 ·apply(hs.2 b (ay (ar (aT e) a.ok.above))).trans (a.base.keep b o e n J g)
 ·let⟨Y,f⟩:=a.base.slot b o e n J g;apply⟨Y,(hs.2 b (ay (ar (aT e) a.ok.above))).trans f⟩
 ·let⟨Kq,f⟩:=a.base.there b o e g;apply⟨Kq,(hs.2 b (ay (ar (aT e) a.ok.above))).trans f⟩
 ·by_cases F:j=i
  ·subst F;rw[fR r] at x;cases x
  ·let G:(U.set i (aA V.IB))[j]?=aA (aA P):=by rw[dW (bN F)] at x ⊢;apply x
   let⟨W,S,q⟩:=O j y P f G Z;show⟨W,S,?_⟩;rcases q with⟨k,e⟩ | ⟨k,c,e,z⟩
   ·show .inl ⟨k,?_⟩;have:y≠n:=λe=>F (Q7 L f (e▸C));simp[this,e]
   ·apply .inr ⟨k,c,e,z.sameBut hs (Dv y c e)⟩
 ·let⟨N,z⟩:=a.cell y c e;apply⟨N,z.sameBut hs (Dv y c e)⟩
 ·let⟨e,n,ne,R,d⟩:=a.pin p hp;apply⟨(hs.2 p.1 ne).trans e,n,ne,R,d⟩
 ·show(a.Bh b Du e).MP (λc N w q=>(hs.2 c ?_).trans q) (λ_ q=>q) (λ_ _ q=>q) λ_ _ q=>q;ext rfl;let M:=a.free;rcases w with rfl | w
  ·rw[M] at e;cases e
  ·rw[M] at w;cases w
abbrev Cx.mark(X:Cx)(e:aM):Cx:={X with A:=X.A.mark (aA (.ref e)),calm:=aC,Bk:=λ_ _=>False}
def T2(I:Inv X Iu U H s):Inv (Cx.mark X e) Iu U H s:=
 ⟨⟨I.ok.mod,I.ok.kind,I.ok.glob,I.ok.blt,I.ok.above,I.ok.inj,I.ok.has,I.ok.aag,(λz=>by cases z),I.ok.frames,I.ok.BD,I.ok.Bs,I.ok.bs,I.ok.Hg,I.ok.aaq,I.ok.aar,I.ok.FA,I.ok.Hj,I.ok.tab,I.ok.aa3⟩,I.os,I.bare,I.base,I.loc,I.cell,I.free,I.Dq,I.pin,I.Bh,I.len⟩
def Y8(ok:X.Ok)(I:Inv (Cx.mark X e) Iu U H s):Inv X Iu U H s:=
 ⟨ok,I.os,I.bare,I.base,I.loc,I.cell,I.free,I.Dq,I.pin,I.Bh,I.len⟩
noncomputable def Off(X:Cx)(Iu:MI)(b:aM):Prop:=X.s₀.heap.get? b=aB/\b≠X.env.locals/\(∀x c,X.env.cells.lookup x=aA c->c≠b)/\∀p∈X.Dp++Iu,p.1≠b
def tC(I:Inv X Iu U H s)(e:X.ex=[])(h:s.heap.get? b=aB):Off X Iu b:=by
 show⟨?_,λz=>?_,λx c f z=>?_,λp hp z=>?_⟩
 ·cases r:X.s₀.heap.get? b with
  | none=>rfl
  | some o=>
   let⟨g,d⟩:=I.base.there b o r (by rw[e];simp);rw[h] at d;cases d
 ·let⟨m,⟨o,_,_,a,_⟩,_⟩:=I.loc;rw[z,a] at h;cases h
 ·let⟨v,o,a,_⟩:=I.cell x c f;rw[z] at a;rw[a] at h;cases h
 ·let:=(I.pin p hp).1;rw[z] at this;rw[this] at h;cases h
def wU(I:Inv X Iu U H s)(IJ:X.ex=[])(A:X.env.frame=aA X.env.locals)(i:lr ((X.env::X.outer).filterMap (·.frame)) ch s.heap h')(r:∀b∈ch,H b=aB/\Off X Iu b)(u:X.stack=X.env::X.outer):Inv X Iu U H {s with heap:=h'}:=by
 let F:=λb a=>by let:=I.aa5 b;rw[u] at this;apply this a
 let lt:∀b o,X.s₀.heap.get? b=aA o->b∉ch:=λb o z a=>by rw[(r b a).2.1] at z;cases z
 let Hr:∀b o,X.s₀.heap.get? b=aA o->b≠X.env.locals:=λb o z a=>by subst a;apply cO _ (ar (aT z) I.ok.above)
 let l:∀b,b≠X.env.locals->(b∈(X.env::X.outer).filterMap (·.frame)↔b∈X.fs):=λb z=>by rw[nB A,aW];apply⟨λh=>h.elim (λq=>absurd q z) λq=>q,.inr⟩
 let any:=λb o q a=>by
  by_cases z:b∈(X.env::X.outer).filterMap (·.frame)
  ·apply i.slot b o q a z
  ·apply⟨o.slots,i.keep b o q a z⟩
 let⟨m,⟨ab0,O,ep,B,NV⟩,N⟩:=id I.loc;let C:=λz=>(r _ z).2.2.1 rfl;let⟨E,T⟩:=any _ _ B C;let f:∀c v,(∀b∈ch,c≠b)->s.heap.IsCell c v->h'.IsCell c v:=by ext c v t ⟨o,Z,L⟩;let⟨J,q⟩:=any c o Z λz=>t c z rfl;apply⟨_,q,L⟩
 let Dv:=λx c q b a=>(r b a).2.2.2.1 x c q;show⟨I.ok,I.os,I.bare,⟨λb o e n a g=>?_,λb o e n a g=>?_,I.base.free,λb o e g=>?_,I.base.BA,I.base.Dr,I.base.Bw⟩,⟨m,⟨_,O,ep,T,NV⟩,λj y P R M S=>?_⟩,λy c e=>?_,I.free,I.Dq,λp hp=>?_,SH I.Bh i (λb a=>(r b a).1) F,I.len⟩
 ·apply i.keep b o (I.base.keep b o e n a g) (lt b o e) λz=>a ((l b (Hr b o e)).mp z)
 ·let⟨J,z1⟩:=I.base.slot b o e n a g;let⟨w,z2⟩:=i.slot b _ z1 (lt b o e) ((l b (Hr b o e)).mpr a);apply⟨w,z2⟩
 ·let⟨W,z1⟩:=I.base.there b o e g;apply i.there b W z1
 ·let⟨Q,Y,q⟩:=N j y P R M S;show⟨Q,Y,?_⟩;rcases q with q | ⟨k,c,e,z⟩
  ·apply .inl q
  ·apply .inr ⟨k,c,e,f c _ (Dv y c e) z⟩
 ·let⟨G,z⟩:=I.cell y c e;apply⟨G,f c _ (Dv y c e) z⟩
 ·let⟨e,n,ne,D,d⟩:=I.pin p hp;apply⟨i.keep p.1 p.2 e (λz=>(r _ z).2.2.2.2 p hp rfl) (λz=>D ((l p.1 ne).mp z)),n,ne,D,d⟩
def WE(I:Inv X Iu U H s)(f:s.heap.get? e=aA oe)(h:H e=aB)(d:Off X Iu e):Inv X Iu U (upd H e (.Km oe (.own e))) s:=by
 let ne:∀b u,H b=aA u->b≠e:=λb u q z=>by rw[z,h] at q;cases q
 show⟨I.ok,I.os,I.bare,⟨I.base.keep,I.base.slot,λb o q n g=>?_,I.base.there,λb xs q=>?_,λb o u q=>?_,λb ps q=>?_⟩,I.loc,I.cell,?_,λx c q=>?_,λp hp=>?_,λb u q=>?_,I.len⟩
 ·rw[a0 (λz=>by rw[z,d.1] at q;cases q)];apply I.base.free b o q n g
 ·let:=I.base.BA b xs q;rw[a0 (ne _ _ this)];apply this
 ·let:=I.base.Dr b o u q;rw[a0 (ne _ _ this)];apply this
 ·let⟨a,z⟩:=I.base.Bw b ps q;apply⟨a,by rw[a0 (ne _ _ z)];apply z⟩
 ·rw[a0 (bN d.2.1)];apply I.free
 ·rw[a0 (d.2.2.1 x c q)];apply I.Dq x c q
 ·let⟨i,n,r⟩:=I.pin p hp;apply⟨i,by rw[a0 (d.2.2.2 p hp)];apply n,r⟩
 ·by_cases z:b=e
  ·subst z;rw[a_] at q;cases q;apply⟨f,_,f⟩
  ·rw[a0 z] at q;apply(I.Bh b u q).MP (λ_ _ _ r=>r) (λc r=>by rw[a0 (ne _ _ r)];apply r) (λc xs r=>by rw[a0 (ne _ _ r)];apply r) λc u r=>by rw[a0 (ne _ _ r)];apply r
end
section
variable {M:sM}{A:bX}{E:IE}
variable {nm q ρ MR:bH}{C N Cb N':aM}{bs bm bs' yI:E4}{hdct vn:Bool}{sn ο:Kn}{sub wV:E4}{ab ab':Bool}{col xG:Fd}{dd dd':I'}{k0 k1 k2 k3 k5 j0 j1 j2 j3 j5:F_}{newId vS:Dg}
def eA{g:Array lG}{d:Drawn}{t:Nat}{os:OsState}{e:aM}{m:fH}{Q:Bool->aN->Prop}
  (k:h.get? C=aA (eZ nm q C N bs bm hdct sn sub ab col dd k0 k1 k2 k3 k5 newId)) (j:h.get? Cb=aA (eZ ρ MR Cb N' bs' yI vn ο wV ab' xG dd' j0 j1 j2 j3 j5 vS)) (l:h.get? e=aA m) (a:m.cls = .ref C) (b:yI.contains (.type "BaseException")=aD)
  (i:Q ((bp C::bm).contains (.ref Cb)) ⟨h,g,d,t,os⟩):ao M A (excMatches (.ref e) (.ref Cb)) Q E ⟨h,g,d,t,os⟩:=by
 let c:(bp Cb::yI).contains (.type "BaseException")=aD:=by rw[g8,b,kS]
 let f:=tc_notTuple
 cases yr:(bp C::bm).contains (.ref Cb) with
 | true=>
  rw[yr] at i
  repeat (first | (with_reducible show cN l ?_;rw[a]) | with_reducible show cN j ?_ | (with_reducible show dm j ?_;rw[c]) | (with_reducible show dm k ?_;rw[yr]) | wp_step)
  apply i
 | false=>
  rw[yr] at i
  repeat (first | (with_reducible show cN l ?_;rw[a]) | with_reducible show cN j ?_ | (with_reducible show dm j ?_;rw[c]) | (with_reducible show dm k ?_;rw[yr]) | wp_step)
  apply i
end
def AO(K:aH)(C Cb:aM):Bool:=match K.lookup C with
 | some ⟨_,_,.cls cd,_⟩=>cd.mro.contains (.ref Cb)
 | _=>aC
def yJ{K:aH}{h:b7}{C a:aM}{nm c:bH}{N:aM}{bs b:E4}{hdct:Bool}{sn:Kn}{sub:E4}{ab:Bool}{col:Fd}{dd:I'}{k0 k1 k2 k3 k5:F_}{newId:Dg}(X:K.In h)(e:AO K C a=aD)
  (d:h.get? C=aA (eZ nm c C N bs b hdct sn sub ab col dd k0 k1 k2 k3 k5 newId)):(bp C::b).contains (.ref a)=aD:=by
 delta AO at e;split at e
 ·rename_i f;let:=X _ _ f;rw[d] at this;cases this;apply e
 ·cases e
section
variable {X:Cx}{Iu:MI}{U:_l.St}{H:Hp}{s:aN}{e T C Cb:aM}{dd:I'}{cx n:bH}{np pos:gy}{b₀:cJ}{ka:L_}{tw:List kz}{ts:Di}{D:B5}{i:Nat}
def A9(i:Nat)(D:B5):B5:={IA:=λU H=>D.IA (U.set i aB) H,E7:=D.E7,MM:=λU H=>D.MM (U.set i aB) H,Bi:=λU H=>D.Bi (U.set i aB) H}
def Zof(I:Inv X Iu U H s)(R:X.ex=[])(a:X.stack=X.env::X.outer)(j:X.env.frame=aA X.env.locals)(x:Co s.heap e (.ref C) dd T .none)(hH:H e=aB)(zJ:H T=aB)(w:Off X Iu e)(oT:Off X Iu T)
  (Fw:X.N.Nodup) (E5:X.N[i]?=aA n) (MK:X.env.scope.names.lookup n=aA .local) (IL:Gl X cx) (hm:X.mg cx=aA (.ref Cb)) (hC:fP X.K C "BaseException" = aD) (hB:fP X.K Cb "BaseException" = aD) (O:AO X.K C Cb=aD)
  (hs:KJ (Cx.mark X e) (b₀::ka) ts) (q:∀w:fH,w.cls = .ref C->w.dict=dd->(∃vs,w.data = .fields vs)->ts (A9 i D) (U.set i (aA (.ref e))) (upd H e (.Km w (.own e))))
  (v3:(cx==("__debug__" : bH))=aC|>Op) :
  ao (model X.prog X.w) X.A (kg (.ref e) X.env) (λ_ J=>ao (model X.prog X.w) X.A (setFlight (.ref e) aB) (λ_ g=>
   ao (model X.prog X.w) X.A (handleBy (.ref e) X.env (.ExceptHandler (aA (.Name cx np)) (aA n) (b₀::ka) pos::tw)) (Ei X Iu D) X.Bk g) X.Bk J) X.Bk s:=by
 let m:=I.stack;rw[a] at m;let l:=I.ok.frames;rw[a] at l;show Zgt l m j x λMH T' F aaw Ko=>?_
 let I1:=wU I R j Ko (λb O=>by
  rcases aW.mp O with z | z
  ·rw[z];apply⟨hH,w⟩
  ·rw[aO.mp z];apply⟨zJ,oT⟩) a
 let Y:=tC I R (fJ F);let L:=I.Bh.fresh F;let Q:∀b∈[T'],H b=aB/\Off X Iu b:=λb O=>by rw[aO.mp O];apply⟨L,Y⟩
 show P8 aaw (fs:=(X.env::X.outer).filterMap (·.frame)) λID x2 e2 _=>?_;let B:=wU I1 R j e2 Q a;show wpAny_handleBy_cons (codeAny_handlers_test ?_) (by ext z;cases z);let I2m:Inv (Cx.mark X e) Iu U H {s with heap:=ID}:=T2 B;show Wz I2m IL hm ?_ v3;let⟨nm,aaj,N,bs,bm,hdct,sn,sub,ab,col,dc,k0,k1,k2,k3,k5,nid,M,_,_⟩:=gR B.Fs hC;let⟨ρ,qn',N',bs',yI,vn,ο,wV,ab',xG,dc',j0,j1,j2,j3,j5,nid',Z,t,_⟩:=gR B.Fs hB;let⟨Du,vs,oT2,tsx,zE,E,hdd,hdat,_⟩:=id x2;show eA M Z zE E t ?_;rw[yJ B.Fs O M];show codeAny_handlers_suite_as ?_;show P8 x2 (fs:=(X.env::X.outer).filterMap (·.frame)) λh3 x3 IM _=>?_;let I3:=wU B R j IM Q a;let⟨ob3,vs3,oT3,ts3,P,y,G,r,_⟩:=id x3;let I4:=WE I3 P hH w;show Us (X:=Cx.mark X e) (T2 I4) Fw E5 (.inl MK) (v:=.ref e) rfl (λs5 I5=>?_) (.inr MK);show bQ (hs Iu s5 _ _ (A9 i D) I5 (q ob3 y G ⟨_,r⟩)) (λf o W=>?_) λ_ _ z=>z.elim
 let S:∀c d o,Inv (Cx.mark X e) Iu c d o->(∀A,Inv X Iu (c.set i aB) d A->Ei X Iu D f A)->ao (model X.prog X.w) X.A (do bindName X.env n .none;pL X.env n pos) (λ_ g=>Ei X Iu D f g) X.Bk o:=λc d o h k=>
  z' (Y8 I.ok h) Fw E5 MK k
 cases f with
 | next=>
  let⟨c,d,h,z⟩:=W;apply S c d o h λA p=>⟨_,_,p,z⟩
 | ret u=>
  let⟨v,c,d,h,r6,z⟩:=W;apply S c d o h λA p=>⟨v,_,_,p,r6,z⟩
 | brk=>
  let⟨c,d,h,z⟩:=W;apply S c d o h λA p=>⟨_,_,p,z⟩
 | cont=>
  let⟨c,d,h,z⟩:=W;apply S c d o h λA p=>⟨_,_,p,z⟩
end
def Bc(i:Nat):D6->D6
 | .IA s=>.IA (s.set i aB)
 | .MM s=>.MM (s.set i aB)
 | .Bi s=>.Bi (s.set i aB)
 | .E7 l=>.E7 l
def P9{K:aH}{O:Iw}{g H:Hp}{bD:L3}{s:ZG}{U:NO}{i:Nat}(d:i∉O)(r:Rel K O g bD s U H):Rel K O g (λj=>if j=i then [] else bD j) (s.set i aB) (U.set i aB) H:=by
 show⟨r.same,by rw[cq,cq];apply r.len,λj a e=>?_,λj h=>?_,λj c=>?_,λj c p hp=>?_,λj c k m p hp=>?_⟩
 ·by_cases b:j=i
  ·subst b;rw[bw] at e;simp at e
  ·rw[dW (bN b)] at e ⊢;rw[Fb b];apply r.is j a e
 ·by_cases b:j=i
  ·rw[Be b]
  ·rw[Fb b];show r.uK j λl z=>h l ?_;rw[dW (bN b)];apply z
 ·let b:j≠i:=λz=>d (z▸c);dsimp[Fb b];apply r.E3 j c
 ·let b:j≠i:=λz=>d (z▸c);dsimp[Fb b] at hp;apply r.own j c p hp
 ·let b:j≠i:=λz=>d (z▸c);dsimp[Fb b] at hp;by_cases f:k=i
  ·rw[Be f];simp
  ·rw[Fb f];apply r.p5 j c k m p hp
def AA(X:Cx)(hs:List kz)(body:L_)(t:Di):Prop:=
 ∀(Iu:MI)(s:aN)(U:NO)(H:Hp)(D:B5),Inv X Iu U H s->t D U H->ao (model X.prog X.w) X.A (execs body X.env) (λf s₁=>match f with | .next=>ao (model X.prog X.w) X.A (execs [] X.env) (Ei X Iu D) X.Bk s₁ | f=>Ei X Iu D f s₁)
  (λe s₁=>ao (model X.prog X.w) X.A (kg e X.env) (λ_ s₂=>ao (model X.prog X.w) X.A (setFlight e aB) (λ_ s₃=>ao (model X.prog X.w) X.A (handleBy e X.env hs) (Ei X Iu D) X.Bk s₃) X.Bk s₂) X.Bk s₁) s
def Zl5(h:AA X (h₀::hs) body t):Df X (.Try body (h₀::hs) [] [] pos) t:=λa s U H D I q=>wpAny_Try_except (h a s U H D I q)
def Zl6(p:FY X.Hb c fc)(v:AA X hs a (NW X.K O W f))(w:AA X hs b (NW X.K O W g)):AA X hs [.If c a b pos] (NW X.K O W (HB fc f g)):=by
 intro l s U H D I ⟨n,bD,m,h,r,e,k⟩;let⟨d,u,e⟩:=Zc e;show iG (wpAny_If (bQ (p l s U H (λb i=>b=d/\MX H i) (I.Kr _) ⟨λ_=>False,m,d,λ_ z=>z.elim,r.env,u,λi s1=>⟨rfl,s1⟩⟩) (λb s1 ⟨i,j,t,o⟩=>?_) λ_ _ z=>z.elim));let j:=j.MS;subst t
 cases b with
 | true=>
  show bQ (v l s1 U i D j ⟨n,bD,m,h,r.grow o,e,k⟩) (λf s2 q=>?_) λ_ _ x=>x
  cases f with
  | next=>apply i7 q
  | _=>apply q
 | false=>
  show bQ (w l s1 U i D j ⟨n,bD,m,h,r.grow o,e,k⟩) (λf s2 q=>?_) λ_ _ x=>x
  cases f with
  | next=>apply i7 q
  | _=>apply q
def EK:Data->Option ClassData
 | .cls cd=>aA cd
 | _=>aB
def LR(n:Dg)(l:List (Option aG)):Bool:=l.length==6&&l[4]?==aA (aA (.builtin n))
def AV(K:Frag)(C:aM)(lK:E4)(newId:Dg)(fI:aM):Bool:=
 match K.lookup C with
 | none=>aC
 | some o=>match EK o.data with
  | none=>aC
  | some cd=>o.cls==.type "type"&&cd.mro.head?==aA (.ref C)&&LR newId o.slots.toList&&!cd.hasDel&&tailIn K lK cd.mro.tail&&nsOkIn K cd.ns&&nsIn K cd.ns "__init__"==aA (aA (.ref fI))
def Zaa{n:Dg}{l:List (Option aG)}(h:LR n l=aD):∃k0 k1 k2 k3 k5,l=[k0,k1,k2,k3,aA (.builtin n),k5]:=by
 delta LR at h;rw[aX] at h;let a:=eq_of_beq h.1;let b:=eq_of_beq h.2;rcases l with _ | ⟨k0,_ | ⟨k1,_ | ⟨k2,_ | ⟨k3,_ | ⟨d,_ | ⟨k5,_ | ⟨c,r⟩⟩⟩⟩⟩⟩⟩
 case cons.cons.cons.cons.cons.cons.nil=>apply⟨k0,k1,k2,k3,k5,by rw[bG b]⟩
 case cons.cons.cons.cons.cons.cons.cons=>dsimp[bB] at a;lia
 all_goals (dsimp[bB,lT] at a;lia)
def Zl8{K:Frag}{h:b7}{N:aM}{m:Bp}{n:bH}{v:aG}(X:K.In h)(G:h.Ns N m)(e:nsIn K N n=aA (aA v)):m n=aA v:=by
 let⟨o,f,ep,i,b,_,a⟩:=G;delta nsIn at e;split at e
 ·rename_i c d es' j k q;let z:=X _ _ q;rw[i] at z;cases z;cases b;rw[<-a n];split at e
  ·rename_i l g;cases e;change tS _ f n=_;delta tS;rw[<-mK,g];rfl
  ·split at e
   ·cases e
   ·cases e
 ·cases e
def Tv{K:Frag}{h:b7}{C fI:aM}{d:E4}{newId:Dg}(X:K.In h)(q:AV K C d newId fI=aD) :
  ∃bm N nm g bs hdct sn sub ab col dd k0 k1 k2 k3 k5 mN,h.get? C=aA (eZ nm g C N bs bm hdct sn sub ab col dd k0 k1 k2 k3 k5 newId)/\h.Ns N mN/\mN "__init__" = aA (.ref fI)/\rA h d bm:=by
 delta AV at q
 cases Fu:K.lookup C with
 | none=>rw[Fu] at q;cases q
 | some o=>
  rw[Fu] at q;let⟨c,dd,f,k⟩:=o
  cases f with
  | cls cd=>
   dsimp[EK,aX,beq_iff_eq,jL] at q;let⟨⟨⟨⟨⟨⟨rfl,e⟩,hs⟩,a⟩,l⟩,b⟩,j⟩:=q;let⟨nm,bs,i,ns,g,m,sn,sub,ab,col,DP⟩:=cd;simp only at e a l;subst a;let⟨k⟩:=k;let⟨k0,k1,k2,k3,k5,rfl⟩:=Zaa hs
   cases i with
   | nil=>cases e
   | cons v bm=>
    obtain rfl:v = .ref C:=bG e;apply⟨bm,ns,nm,g,bs,m,sn,sub,ab,col,dd,k0,k1,k2,k3,k5,_,X _ _ Fu,.of_isNs (isNs_of_in X b),Zl8 X (.of_isNs (isNs_of_in X b)) j,tail_of_in X l⟩
  | _=>cases q
def F8(C e t:aM):b7->Prop:=λh=>h.get? e=aA (Ey C t)
def Lv(C e t II:aM):b7->Prop:=λh=>h.get? e=aA {Ey C t with dict:=aA II}
structure uQ(K:Frag)(Cb:aM)(dA:Dg):Prop where
 ga:specialIn K (.ref Cb) "__getattribute__" = aA (aA (.builtin "type.__getattribute__"))
 rd:readsIn K Cb (.type "type")=aD
 fc:findCls K (.ref Cb) (.type "type") "__init__" = aA (.val (.builtin dA))
section
variable {X:Cx}{x:bH}{np ap IQ pos:gy}{a b o value:bS}{t:De}{MG aan:TE}{C Cb fI:aM}{lK:E4}{B newId dA:Dg}{f:bH}
def Zab{pl:tY Bool}(F:jY B newId dA lK)(c:uQ X.K Cb dA)(P:AV X.K C lK newId fI=aD)(IL:Gl X x)(J:X.mg x=aA (.ref Cb))(Y:handedIn (.builtin dA)=aD)(Z:M8 X [a,b] t)
  (r:(x==("__debug__" : bH))=aC|>Op) (m:(cQ IQ (aL [b] X.env)).any (·.1)=aC|>On) (hs:aL [a,b] X.env=(aC,eval a X.env)::aL [b] X.env|>On)
  (W:eval (.Call (.Attribute (.Name x np) "__init__" ap) [a,b] [] IQ) X.env=(do
   let u <-eval (.Name x np) X.env
   q9 ap.atName
   let(f,first) <-holding [u] (getMethod u "__init__" pl)
   callWith IQ f first (cQ IQ (aL [a,b] X.env)) (qj IQ (mY [] X.env))):=by rfl) :
  DC X (.Call (.Attribute (.Name x np) "__init__" ap) [a,b] [] IQ) (λU H Q=>t U H λvs G=>∃e v y,vs=[.ref e,v]/\G e=aA (.ext (F8 C e y))/\∀t1,Q .IB (upd G e (.ext (F8 C e t1)))):=by
 ext S s U H Q I h;show PySem.W.methodCall_KW (Wz I IL J ?_ r) W;show PySem.W.method_cls I.Fs c.ga (PySem.W.cls_value I.Fs c.rd c.fc Y ?_);let L:=I.kept (t':=s.toks+1) λ_ _ q=>q;let w:=Z IQ S _ U H _ L h;rw[hs] at w ⊢;show kK (by change(aC || (cQ IQ (aL [b] X.env)).any (·.1))=aC;rw[m]<;>rfl) (lH ?_);show ZV w ?_;ext us s2 ⟨vs,H2,n,M,e,v,y,T,E,q⟩;subst T
 obtain⟨j,i,rfl,rfl,rv⟩:∃j i,us=[j,i]/\j=bp e/\RelV v i:=by
  cases M with
  | cons D A=>cases A with
   | cons h3 Bt=>cases Bt;apply⟨_,_,rfl,D,h3⟩
 let⟨bm,N,nm,aaj,bs,hdct,sn,sub,ab,col,dd,k0,k1,k2,k3,k5,mN,l,Fw,E5,TL⟩:=Tv n.Fs P;let⟨O,_,_⟩:=(n.Bh e _ E);let⟨hp,g,d,tk,os⟩:=s2;show XK F TL l O λh' R p e2=>?_;show⟨.IB,_,n.write (o:=.ext (F8 C e hp.objs.size)) (by rw[E];trivial) (.inl rfl) R ⟨_,p⟩ ⟨p,⟨_,p⟩,λD A z k=>k _ z⟩,rfl,q _⟩
def Zej(hC:AV X.K C lK newId fI=aD)(t:findIn X.K (.ref C) "__setattr__" = aA (aA (.builtin "object.__setattr__")))(hp:Cs X.K C=aD)(Y:takerIn X.K C f=aA aB)(P:(clsIn X.K C).any (·.hasDict)=aD)(r:X.ex=[])
  (Z:DC X o MG) (M:DC X value aan) (hs:iH value (aA (.Attribute o f np)) pos.line X.env=pure aC|>On) :
  Df X (.Assign [.Attribute o f np] value pos) (λD U H=>aan U H λy B=>MG U B λz g=>∃e i,z = .ref e/\g e=aA (.ext (F8 C e i))/\
   ∀a c u,RelV y u->g a=aB->a≠e->_v.NY c f u->D.IA U (upd (upd g a (.Km c (.own a))) e (.ext (Lv C e i a)))):=by
 ext F s U H D I h;show plainObj_wpAny_Assign_Attribute (ZV (M F s U H _ I h) ?_) hs;ext u s1 ⟨y,B,Q,O,q⟩;show ZV (Z F s1 U B _ Q q) ?_;ext aai s2 ⟨z,g,n,T,e,i,N,G,Bx⟩;subst N;obtain rfl:=T;let⟨J,_,_⟩:=(n.Bh e _ G);show VK n.Fs J rfl rfl rfl t hp Y P λh' v a R w j d Fm=>?_;let⟨c,S,ep,Fu,m,A,x,L⟩:=id Fm;let l:=n.Bh.fresh j;let ns:_v.NY c f u:=λhp b z=>⟨c,S,ep,z,m,A,x,L⟩;let W:=n.write (t':=v) (o:=.ext (Lv C e i a)) (by rw[G];trivial) (.inl rfl) R ⟨_,w⟩ ⟨w,⟨_,w⟩,λMH ID z k=>k _ z⟩;let p:upd g e (.ext (Lv C e i a)) a=aB:=by rw[a0 d];apply l
 let off:=tC n r (fJ j);let E:=WE W (Fu) p off
 let sw:upd (upd g e (.ext (Lv C e i a))) a (.Km c (.own a))=upd (upd g a (.Km c (.own a))) e (.ext (Lv C e i a)):=by
  funext b;delta upd;by_cases z:b=a
  ·rw[Be z,Fb (λy=>d (z.symm.trans y)),Be z]
  ·rw[Fb z];by_cases y:b=e
   ·rw[Be y,Be y]
   ·rw[Fb y,Fb y,Fb z]
 rw[sw] at E;apply⟨U,_,E,Bx a c u O l d ns⟩
end
def Yh:∀{ts:Kn},(∀t∈ts,t.length<=m)->piled ts<=la ts*(m+2)
 | [],_=>by simp[piled]
 | t::r,h=>by
  let b:=Yh (m:=m) (ts:=r) λu a=>h u (by simp[a]);let c:=h t ⋯;rw[bB,Nat.add_mul,piled_cons]
  lia
def Zek(h:∀t∈ts,t.length<=m):(bH.join ", " ts).length<=ts.length*(m+2):=by
 by_cases q:ts=[]
 ·subst q;apply dH _
 ·let:=join_length_add ts q;let:=Yh h
  lia
def YN(h:∀t∈ts,t.length<=m):(tupleText ts).length<=3+ts.length*(m+2):=by
 delta tupleText;rw[lA,lA];let:=Zek h;let b:(iX "(").length=1:=∅
 let a:(iX (if(ts.length==1)=aD then ",)" else ")" : String)).length<=2:=by split<;>decide
 lia
def A0(H:Hp)(v:V):Prop:=v = .IB\/(∃i:Int,v = .int i/\i.natAbs.log2<1920)\/∃(a:aM) (is:E1),v = .ref a/\H a=aA (.tup (is.map V.int))/\la is<=100/\∀i∈is,i.natAbs.log2<1920
section
variable {X:Cx}{k:Nat}{e:bS}{Br:TE}{y:bH}{p1 p2 p3:gy}{jj:Nat}
def ER(Br:TE):TE:=λU H Q=>Br U H λv H1=>A0 H1 v/\∀z,Q (.str z) H1
def Zel(C:MN k X.A)(R:DC X e Br)(He:y.length<=1000|>Op):DC X (.JoinedStr [.Constant (.str y) jj p1,.FormattedValue e (-1) aB p2] p3) (ER Br):=by
 ext d s U H Q I h;show wpAny_JoinedStr ?_;change ao _ _ (eval (.Constant (.str y) jj p1) X.env) _ _ s;show ZV (Zhg (X:=X) (x:=y) (j:=jj) (pos:=p1) d s U H (λv w=>v = .str y/\w=H) I ⟨rfl,rfl⟩) ?_;ext u s1 ⟨v,w,G,r,E,M⟩;subst E M;let⟨t,rfl⟩:=r;let A:(pU++y).length=y.length:=by rw[lA];change 0+_=_;lia
 let E9:(1000:Nat)+200000<=sizeLine:=∅
 show⟨y,t,rfl,(),?_⟩;change ao _ _ (eval (.FormattedValue e (-1) aB p2) X.env) _ _ s1;show wpAny_FormattedValue_plain ?_;show ZV (R d s1 U w _ G h) ?_;ext u s2 ⟨v,f,o,r,P,q⟩
 let c:∀(x:bH)(u:tD)(g:aN),x.length<=200000->Inv X d U f g->∃(b:bH) (B:tD),rM x u=rM b B/\(pU++y++b).length<=sizeLine/\(pU++y++b).length<=sizeLine/\EP X d U Q (.str (pU++y++b) g.toks) {g with toks:=g.toks+1}:=λx u g Y l=>by
  show⟨x,u,rfl,?_,?_,.str _,f,l.tok _,⟨_,rfl⟩,q _⟩
  ·rw[lA,A];lia
  ·rw[lA,A];lia
 rcases P with rfl | ⟨i,rfl,p⟩ | ⟨a,is,rfl,T,Fg,hs⟩
 ·obtain rfl:u=fQ:=r;show wpAny_formatField_none ?_;let l:Inv X d U f {s2 with toks:=s2.toks+1+1}:=o.kept (t':=s2.toks+1+1) λ_ _ z=>z;apply c "None" _ _ ∅ l
 ·let⟨B,rfl⟩:=r;show formatField_int_small p ?_;let:=qQ (k:=1920) ∅ p;apply c (toString i) _ _ (by rw[o6];lia) (o.tok _)
 ·obtain rfl:u=bp a:=r;let⟨_,IS,F,Du,W,D,n,J⟩:=(show NI X.prog X.w f s2.heap a (.tup (is.map V.int)) from o.Bh a _ T);let S:Reads s2.heap (.ref a) (.tuple (is.map iB)) []:=.tuple W D J (R7 (~~~F))
  let Z:(tU (is.map iB)).shown.length<=3+is.length*(1930+2):=by
   change(tupleText (oX (is.map iB))).length<=_;rw[uM];let:=YN (ts:=is.map λi=>iX (toString i)) (m:=1930) λt O=>by let⟨i,p,rfl⟩:=a9.mp O;let:=qQ (k:=1920) ∅ (hs i p);rw[o6];lia
   rwa [aK] at this
  let L:is.length*(1930+2)<=193200:=()
  let Ft:=C.un;let BB:=q' is
  show formatField_of_reads S (b1 hs) (λz=>by rw[show(tU (is.map iB)).hasDict=m9 (is.map iB) from rfl,ha] at z;cases z) C.NN (by
   change X.A.units+(rC (.tuple (is.map iB))+2)<fu;dsimp[rC]
   lia) (λ_ _ z=>z) (λh' u tk N=>?_) ()
  let l:Inv X d U f {s2 with heap:=h',toks:=tk}:=o.kept N;apply c _ u _ () l
end
def JF(C:aM)(f:bH):By:=λvs H Q _=>vs.length=2/\∃e v t0,vs=[.ref e,v]/\H e=aA (.ext (F8 C e t0))/\A0 H v/\
 ∀t1 II Dc u,RelV v u->H II=aB->II≠e->NY Dc f u->Q .IB (upd (upd H II (.Km Dc (.own II))) e (.ext (Lv C e t1 II)))
def Kh(C:aM)(f:bH):Di:=
 EM (NA (λU H Q=>As (KU 0) (As (ER (KU 1)) M6) U H λvs H1=>∃e v t0,vs=[.ref e,v]/\H1 e=aA (.ext (F8 C e t0))/\∀t1,Q .IB (upd H1 e (.ext (F8 C e t1)))))
  (λD U H=>KU 1 U H λy H1=>KU 0 U H1 λz H2=>∃e t1,z = .ref e/\H2 e=aA (.ext (F8 C e t1))/\
   ∀II Dc u,RelV y u->H2 II=aB->II≠e->NY Dc f u->D.IA U (upd (upd H2 II (.Km Dc (.own II))) e (.ext (Lv C e t1 II))))
def oc(h:JF C f vs H Q E):Kh C f {IA:=λ_ l=>Q .IB l,E7:=Q} (start [a,b] vs) H:=by
 let⟨_,e,v,n,rfl,p,o,q⟩:=h;show⟨.ref e,rfl,v,rfl,o,λz=>⟨e,.str z,n,rfl,p,λi=>?_⟩⟩;show⟨v,rfl,.ref e,rfl,e,i,rfl,a_,λd j u m k g ns=>?_⟩;rw[a0 g] at k;let:=q i d j u m k g ns
 let r:upd (upd (upd H e (.ext (F8 C e i))) d (.Km j (.own d))) e (.ext (Lv C e i d))=upd (upd H d (.Km j (.own d))) e (.ext (Lv C e i d)):=by
  funext c;delta upd;by_cases y:c=e
  ·rw[Be y,Be y]
  ·rw[Fb y,Fb y,Fb y]
 rw[r];apply this
def JD(H:Hp)(e:aM):Hp:=λb=>if b=e then aB else H b
def Zem(I:Inv X Iu U H s)(i:H e=aA (.ext φ)):Inv X Iu U (JD H e) s:=by
 let ne:∀b u,H b=aA u->(∀ψ,u≠.ext ψ)->JD H e b=aA u:=λb u q n=>by delta JD;rw[Fb (λz=>by rw[z,i] at q;cases q;apply n _ rfl)];apply q
 let g:∀b,H b=aB->JD H e b=aB:=λb q=>by
  delta JD;split
  ·rfl
  ·apply q
 show⟨I.ok,I.os,I.bare,⟨λb o q n f a=>?_,λb o q n f a=>?_,λb o q n a=>g b (I.base.free b o q n a),I.base.there,λb xs q=>ne b _ (I.base.BA b xs q) (λ_ z=>nomatch z),λb o u q=>ne b _ (I.base.Dr b o u q) (λ_ z=>nomatch z),λb ps q=>?_⟩,I.loc,I.cell,g _ I.free,λx c q=>g c (I.Dq x c q),λp hp=>?_,λb u q=>?_,I.len⟩
 ·apply I.base.keep b o q n f a
 ·apply I.base.slot b o q n f a
 ·let⟨d,z⟩:=I.base.Bw b ps q;apply⟨d,ne b _ z λ_ z=>nomatch z⟩
 ·let⟨h,n,r⟩:=I.pin p hp;apply⟨h,g _ n,r⟩
 ·let f:H b=aA u:=by
   delta JD at q;split at q
   ·cases q
   ·apply q
  apply(I.Bh b u f).MP (λ_ _ _ r=>r) (λc r=>ne c _ r λ_ z=>nomatch z) (λc xs r=>ne c _ r λ_ z=>nomatch z) λc u r=>ne c _ r λ_ z=>nomatch z
structure z7(P:bC)(w:bU)(K:Frag)(mg:Bp)(base:b7)(C:aM)(f:bH)(lK:E4)(newId:Dg):Prop where
 ex:∃fI fd oI,AV K C lK newId fI=aD/\K.lookup fI=aA oI/\oI.cls = .type "function"/\Binds K fd ["self",f] []/\FD P w K mg base Nc 1 fI fd ["self",f] (JF C f)
section
variable {X:Cx}{E:Kp}{C:aM}{lK:E4}{B newId dA:Dg}{x f:bH}{np IQ pos:gy}{a:bS}{MG:TE}
def r'(F:jY B newId dA lK)(CF:z7 X.prog X.w X.K X.mg X.base C f lK newId)(hr:MN 2 X.A)(IL:Gl X x)(hm:X.mg x=aA (.ref C))(n:X.calm=aD)(DX:R' X E)(Ff:DC X a MG)
  (v3:(x==("__debug__" : bH))=aC|>Op) (R:aL [a] X.env=(aC,eval a X.env)::aL [] X.env|>On) :
  Df X (.Raise (aA (.Call (.Name x np) [a] [] IQ)) aB pos) (λ_ U H=>MG U H λv i=>A0 i v/\∀g j u,RelV v u->i g=aB->NY j f u->E (.ref C) (aA g) (upd i g (.Km j (.own g)))):=by
 ext Iu s U H D I h;let⟨fI,fd,oI,MO,Z,hfc,IF,FO⟩:=CF.ex;let X0:X.K.In X.base:=I.ok.mod.aaf;let⟨bm,N,nm,P,bs,hdct,sn,sub,ab,col,dd,k0,k1,k2,k3,k5,mN,hC,Fw,E5,TL⟩:=Tv X0 MO;show VJ (nm:=nm) (q:=P) (N:=N) (bs:=bs) (hdct:=hdct) (sn:=sn) (sub:=sub) (ab:=ab) (col:=col) (dd:=dd) (k0:=k0) (k1:=k1) (k2:=k2) (k3:=k3) (k5:=k5) F (mN:=mN) (fI:=fI) (oI:=oI) (TL.hasType F.hasBase) (I.ok.hd n) (by rw[R];rfl) E5 hfc (Wz I IL hm ⟨rfl,?_⟩ v3);let pa:M8 X [a] (As MG M6):=ZA Ff Yc (hs:=R)
 let M:ao (model X.prog X.w) X.A (spliced (cQ IQ (aL [a] X.env))) (λO d=>O.length<=sizeLine/\d.heap.get? C=aA (eZ nm P C N bs bm hdct sn sub ab col dd k0 k1 k2 k3 k5 newId)/\d.heap.Ns N mN/\rA d.heap lK bm/\d.heap.get? fI=aA oI/\
    ∀h',(∀b o,d.heap.get? b=aA o->h'.get? b=aA o)->h'.get? (⇑d+1)=aA {cls:=.ref C,data:=.fields #[.ref ⇑d,.none,.none,.none,.bool aC,.none]}->
     ao (model X.prog X.w) (X.A.under (.builtin "type.__call__" ⟨.ref C::O,[]⟩)) (call (.ref fI) (.ref (⇑d+1)::O)) (λr m=>r = .none/\∃t g,m.heap.get? C=aA (eZ nm P C N bs bm hdct sn sub ab col dd k0 k1 k2 k3 k5 newId)/\
      m.heap.get? (⇑d+1)=aA {cls:=.ref C,dict:=g,data:=.fields #[.ref t,.none,.none,.none,.bool aC,.none]}/\X.Bk (.ref (⇑d+1)) m) X.Bk {d with heap:=h'}) X.Bk s:=by
  show ZV (pa IQ Iu s U H (λvs i=>match vs with | [v]=>A0 i v/\∀g j u,RelV v u->i g=aB->NY j f u->E (.ref C) (aA g) (upd i g (.Km j (.own g))) | _=>False) I h) ?_;ext O d ⟨vs,i,w,r,q⟩
  obtain⟨v,rfl⟩:∃v,vs=[v]:=by
   match vs,q with
   | [v],_=>apply⟨v,rfl⟩
  obtain⟨hs,hE⟩:A0 i v/\∀g j u,RelV v u->i g=aB->NY j f u->E (.ref C) (aA g) (upd i g (.Km j (.own g))):=q;let⟨u,rfl,ru⟩:=W9 r;show⟨by change 1<=_;decide,w.MM _ _ hC,Fw.keeps w.MM,TL.keeps w.MM,w.MM _ _ (X0 _ _ Z),λh' aaz T=>?_⟩;generalize hea:⇑d+1=e at T ⊢;let J:⇑d<=e:=by omega
  let p:i e=aB:=w.Bh.fresh J;let Q:Inv X Iu U (upd i e (.ext (F8 C e ⇑d))) {d with heap:=h'}:=w.laid (t':=d.toks) aaz J ⟨T,⟨_,T⟩,λMH L z k=>k _ z⟩
  let Y:A0 (upd i e (.ext (F8 C e ⇑d))) v:=by
   rcases hs with z | z | ⟨c,is,z1,z2,z3⟩
   ·apply .inl z
   ·apply .inr (.inl z)
   ·apply .inr (.inr ⟨c,is,z1,by rw[a0 (Zh z2 p)];apply z2,z3⟩)
  let Hl:Bj [V.ref e,v] [bp e,u]:=.cons rfl (.cons ru .nil);let' QF:IG:=λr H'=>r = .IB/\∃A g j G,RelV v G/\i g=aB/\g≠e/\NY j f G/\H'=upd (upd (upd i e (.ext (F8 C e ⇑d))) g (.Km j (.own g))) e (.ext (Lv C e A g));let S:JF C f [V.ref e,v] (upd i e (.ext (F8 C e ⇑d))) QF E0:=⟨rfl,e,v,_,rfl,a_,Y,λA g j G MH L h3 Bt=>⟨rfl,A,g,j,G,MH,by rw[a0 h3] at L;apply L,h3,Bt,rfl⟩⟩;show iT (fU (FO.run _ X.stack _ _ ⟨[.ref e,u],[]⟩ [.ref e,u] [V.ref e,v] QF E0 (hr.make C [u] []) (Q.aas.make C [u] []) (IF _ [.ref e,u] Q.Fs rfl) Hl S) λDj Kl l=>?_)
  cases Dj with
  | error ee=>apply cR l
  | ok Dd=>
   cases Dd with
   | next=>apply cR l
   | brk=>apply cR l
   | cont=>apply cR l
   | ret u2=>
    let⟨v2,H',W,rv,ev,A,g,j,G,q1,Bx,q3,q4,rfl⟩:=Q.after l;subst ev;let⟨Fu,_,_⟩:=(show NI X.prog X.w _ Kl.heap e (.ext (Lv C e A g)) from W.Bh e _ a_);let I4:=Zem W (e:=e) a_
    let eH:JD (upd (upd (upd i e (.ext (F8 C e ⇑d))) g (.Km j (.own g))) e (.ext (Lv C e A g))) e=upd i g (.Km j (.own g)):=by
     funext c;delta JD upd;by_cases y:c=e
     ·rw[Be y,Fb (λz=>q3 (z.symm.trans y)),y,p]
     ·rw[Fb y,Fb y,Fb y]
    rw[eH] at I4;show⟨rv,A,aA g,W.MM _ _ hC,Fu,?_⟩;show DX.go I4 ⟨_,_,Fu,rfl,rfl,rfl,rfl⟩ ?_ ?_ (hE g j G q1 Bx q4)
    ·cases z:X.s₀.heap.get? e with
     | none=>rfl
     | some o=>
      apply absurd (ar (aT z) w.E9) (by omega)
    ·rw[a0 (bN q3)];apply p
 rw[R] at M ⊢;apply lH (bQ M (λO d L=>⟨rfl,L⟩) λ_ _ z=>z)
end
abbrev XF:=ZG->Option (bH×PV)
def CC(K:aH)(E:Kp)(H0:Hp)(n:bH)(l:PV):Prop:=∀C II Dc u z H',cB K bP n=aA (aA (.ref C))->MX H0 H'->H' II=aA (.Km Dc (.own II))->NY Dc (Jn n) u->RelV z u->Is K H' l z []->E (.ref C) (aA II) H'
def Mc(K:aH)(O:Iw)(fy:XF)(E:Kp):Di:=λ_ U H=>∃H0 bD s n l,Rel K O H0 bD s U H/\fy s=aA (n,l)/\CC K E H0 n l
def Ck(X:Cx)(O:Iw)(E:Kp)(st:cJ)(fy:XF):Prop:=Df X st (Mc X.K O fy E)
def LA(X:Cx)(O:Iw)(E:Kp)(st:L_)(fy:XF):Prop:=KJ X st (Mc X.K O fy E)
def JE:PV->Bool
 | .IB=>aD
 | .int i=>decide (i.natAbs.log2<1920)
 | .tup l=>match F2 l with
  | some is=>decide (is.length<=100)&&is.all λi=>decide (i.natAbs.log2<1920)
  | none=>aC
 | _=>aC
def Zac{K:aH}{H:Hp}{l:PV}{v:V}{e:Gc}(h:Is K H l v e)(g:JE l=aD):A0 H v/\e=[]:=by
 cases l with
 | IB=>apply⟨.inl h.i0.1,h.i0.2⟩
 | int i=>apply⟨.inr (.inl ⟨i,h.int_inv.1,of_decide_eq_true g⟩),h.int_inv.2⟩
 | tup l=>
  let a:(match F2 l with | some is=>decide (is.length<=100)&&is.all λi=>decide (i.natAbs.log2<1920) | none=>aC)=aD:=g;split at a
  ·rename_i is c;let:=Z9 c;subst this;let⟨p,xs,rfl,hp,d⟩:=h.b_;let⟨rfl,rfl⟩:=d.iL;rw[aX] at a;apply⟨.inr (.inr ⟨p,is,rfl,hp,of_decide_eq_true a.1,λi d=>of_decide_eq_true (bK.mp a.2 i d)⟩),rfl⟩
  ·cases a
 | Iv b=>cases g
 | str x=>cases g
 | ty n=>cases g
 | exc n=>cases g
 | Bs n l=>cases g
 | nv n l=>cases g
 | lst l=>cases g
 | cst l=>cases g
 | IK ks l=>cases g
 | E6 ks l=>cases g
def LS(n:bH)(f:XE):XF:=λs=>(f s).bind λl=>if JE l=aD then aA (n,l) else aB
def Gi(fc:XT)(f g:XF):XF:=λs=>(fc s).bind λc=>if c=aD then f s else g s
def LU(f1:XF)(f:XS)(g:XF):XF:=λs=>match f1 s with
 | some c=>aA c
 | none=>(match f s with
  | some (.IA Kl)=>g Kl
  | _=>aB)
def AF:XF:=λ_=>aB
section
variable {X:Cx}{O W:Iw}{E:Kp}{C:aM}{lK:E4}{B newId dA:Dg}{x:bH}{np IQ pos:gy}{e:bS}{f:XE}
def WM(F:jY B newId dA lK)(k:z7 X.prog X.w X.K X.mg X.base C (Jn x) lK newId)(I:MN 2 X.A)(G:Gl X x)(h:X.mg x=aA (.ref C))(d:cB X.K bP x=aA (aA (.ref C)))(a:X.calm=aD)(o:R' X E)(A:Kz X e f)
  (c:(x==("__debug__" : bH))=aC|>Op) (b:aL [e] X.env=(aC,eval e X.env)::aL [] X.env|>On) :
  Ck X O E (.Raise (aA (.Call (.Name x np) [e] [] IQ)) aB pos) (LS x f):=
 Df.imp (r' F k I G h a o A c b)<|by
  ext D U H ⟨L,bD,s,n,l,r,e,q⟩;let⟨M,m,e⟩:=Zc e;split at e
  ·rename_i hs;cases e;show⟨λ_=>False,s,l,λ_ z=>z.elim,r.env,m,λv J N t i _=>?_⟩;let⟨y,rfl⟩:=Zac i hs;show⟨y,λw p u j g ns=>q C w p u v _ d ((r.same.trans t).trans (MX.new g _)) a_ ns j (i.mono (MX.new g _))⟩
  ·cases e
variable {st:cJ}{tw a b:L_}{c:bS}{fc:XT}{f1 g1:XF}{fs:XS}
theorem ζ:Ck X O E st AF:=λa s U H D I ⟨_,_,_,_,_,_,e,_⟩=>by cases e
def W8:LA X O E tw AF:=λa s U H D I ⟨_,_,_,_,_,_,e,_⟩=>by cases e
def Zgv(g:FY X c fc)(i:LA X O E a f1)(j:LA X O E b g1):Ck X O E (.If c a b pos) (Gi fc f1 g1):=Df.imp (Zgb g i j)<|by
 ext D U H ⟨f,bD,s,n,l,r,e,q⟩;let⟨d,h,e⟩:=Zc e;show⟨λ_=>False,s,d,λ_ z=>z.elim,r.env,h,λk s1=>?_⟩
 cases d with
 | true=>rw[Be rfl] at e ⊢;apply⟨f,bD,s,n,l,r.grow s1,e,q⟩
 | false=>rw[Fb bg] at e ⊢;apply⟨f,bD,s,n,l,r.grow s1,e,q⟩
def QV(h:Ck X O E st f1):LA X O E [st] f1:=rz h
def X9(k:Ck X O E st f1)(hs:DO X O W st fs)(j:LA X O E tw g1):LA X O E (st::tw) (LU f1 fs g1):=by
 intro d s U H D I ⟨a,bD,f,n,l,r,e,q⟩;delta LU at e;split at e
 ·rename_i c g;cases e;apply w2 k (λ_ _ _ _ z=>z) d s U H D I ⟨a,bD,f,_,_,r,g,q⟩
 ·split at e
  ·rename_i b i;show Q8 hs j d s U H D I ⟨a,bD,f,.IA b,r,i,λh p o m _=>?_⟩;apply⟨a,h,b,n,l,m,e,q⟩
  ·cases e
end
def HJ(K:aH)(R:List PV->Option (bH×PV))(n:Nat):By:=λvs H _ E=>vs.length=n/\∃ls Ir nm l,KA K H ls vs Ir/\R ls=aA (nm,l)/\CC K E H nm l
def AM(m:Nat)(fy:XF):List PV->Option (bH×PV):=λls=>fy (Lg m ls)
section
variable {K:aH}{P:bC}{w:bU}{mg:Bp}{base:b7}
open Classical in
def lg(o:∀i∈O,n<=i)(h:HJ K (AM N.length fy) n vs H Q E):Mc K O fy E D (_l.start N vs) H:=by
 let⟨m,ls,F,nm,A,B,e,q⟩:=h;let⟨j,bD,s,d,r,b,k⟩:=Sv (N:=N) (n:=n) (O:=O) (W:=[]) (f:=λs=>if s=Lg N.length ls then aA (.E7 .IB) else aB) (vs:=vs) (H:=H) (Q:=λ_ a=>MX H a) (E:=λ_ _ _=>True) o ⟨m,ls,F,.IB,B,by delta Hw;simp[Ly],λ_ a _ c _ _ _=>c⟩;simp only at b;split at b
 ·rename_i hs;cases b;subst hs;apply⟨j,bD,_,nm,A,r,e,λC v t u z a g c y w l x=>q C v t u z a g (k .IB [] a c Is.IB cC λp hp=>by simp at hp) y w l x⟩
 ·cases b
end
def Jt(R:List PV->Option (bH×PV))(fs:List XE)(i:Nat)(f:XS):XS:=λs=>(HE fs s).bind λls=>(R ls).bind λnl=>(f (s.set i (aA (.Bs nl.1 nl.2)))).map (Bc i)
section
variable {prog:bC}{w:bU}{A:bX}{E:IE}{K:aH}{a C:aM}
def u7(X:K.In s.heap)(I:fT s.heap a o C vO)
  (L:ba K (.ref C) "__getattribute__" = aA (aA (.builtin "BaseException.__getattribute__")))
  (J:ba K (.ref C) "__getattr__" = aA aB) (x:ba K (.ref C) "__class__" = aA (aA (.builtin "object.__class__"))) (z:kl K C (.type "object")=aA aD) (p:fP K C "BaseException" = aD)
  (h:Q (aA (.ref C)) {s with toks:=s.toks+1}):ao (model prog w) A (sf (.ref a) "__class__") Q E s:=by
 let⟨e,g,d,t,os⟩:=s;let I:fT e a o C vO:=I;let k:=I.at_;let l:=I.cls;let H:=I.type (M:=model prog w);let B:=dX (M:=model prog w) X L;delta sf getAttrBy? getAttrBy;show aE (rD (aE (gz (b9 (aE (H.at (aE (B.at ?_))))))));let m:=dX (M:=model prog w) X J;let r:=dX (M:=model prog w) X x;change ao (model prog w) A (ik (.ref a) (.str "__class__" t) (.ref C) (.builtin "BaseException.__getattribute__") aC aC) _ _ _;let P:=F.attr_ValueError.ga.bind (.ref a);delta ik
 repeat (any_goals (first | assumption | wp_step | (show aE (m.at ?_)) | (show m.at ?_)))
 let⟨nm,q,N,bs,n,hdct,sn,sub,ab,col,D,k0,k1,k2,k3,k5,j,i,c,_⟩:=gR X p;let i:e.get? C=aA (eZ nm q C N bs n hdct sn sub ab col D k0 k1 k2 k3 k5 j):=i;let f:(bp C::n).contains (.type "BaseException")=aD:=by rw[g8,c,kS]
 let v:=I.type (M:=model prog w);change gk (model prog w) A (.call (.builtin "BaseException.__getattribute__") ⟨[.ref a,.str "__class__" t],[]⟩) _ ⟨e,g,d,t+1,os⟩;show fN F.attr_ValueError.ga.plain F.entry_bexc_ga ?_;let u:rp "BaseException.__getattribute__" = aA .slot:=by decide +kernel
 let b:splitId "BaseException.__getattribute__" = aA ("BaseException","__getattribute__"):=by decide +kernel
 let T:=F.args_bexc_ga (.ref a) (.str "__class__" t);dsimp[nX,u,b];show aE ?_;delta qO
 repeat (first | (with_reducible show cN k ?_;rw[l]) | (with_reducible show dm i ?_;rw[f]) | wp_step)
 show r.at ?_;let O:=o7;let R:=F.slot_gs_get.lookup;let S:=F.slot_gs_set.lookup
 repeat (any_goals (first | assumption | (with_reducible show cN k ?_;rw[l]) | wp_step))
 let G:K.In (⟨e,g,d,t+1,os⟩:aN).heap:=X;let y:fT (⟨e,g,d,t+1,os⟩:aN).heap a o C vO:=I;show rE G y z ?_
 repeat (any_goals (first | assumption | wp_step))
end
def C6(a C:aM)(h:b7):Prop:=∃o,h.get? a=aA o/\o.cls = .ref C/\o.dict=aB/\∃vs,o.data = .fields vs
structure JH(K:aH)(C:aM):Prop where
 ga:ba K (.ref C) "__getattribute__" = aA (aA (.builtin "BaseException.__getattribute__"))
 gr:ba K (.ref C) "__getattr__" = aA aB
 cl:ba K (.ref C) "__class__" = aA (aA (.builtin "object.__class__"))
 mr:kl K C (.type "object")=aA aD
 kt:fP K C "BaseException" = aD
def Zad{K:aH}{a C:aM}(c:JH K C):tV K (.ref a) (.ref C) (C6 a C) where
 ty:=λM h _ ⟨o,g,f,_⟩=>f▸(PySem.W.Looks.ld g).andThen .now
 it:=λM h X _=>by let⟨nm,l,N,bs,r,hdct,sn,sub,ab,col,p,k0,k1,k2,k3,k5,i,d,_⟩:=gR X c.kt;ext u y v s k q;apply aE (pK (k _ _ d) (aJ q))
 ne:=λh x dd w n t X b=>by let⟨nm,l,N,bs,r,hdct,sn,sub,ab,col,p,k0,k1,k2,k3,k5,i,d,_⟩:=gR X c.kt;show Bool.eq_false_iff.mpr λq=>?_;let e:=bp.inj (beq_iff_eq.mp q);subst e;rw[d] at b;apply absurd (congrArg fH.cls (bG b)) (show ¬(jv "type" = jv "tuple") by decide)
 ca:=λX ⟨o,g,f,m,vs,j⟩ k=>u7 (vO:=aB) X ⟨g,f,by delta si;rw[j],by rw[m];trivial⟩ c.ga c.gr c.cl c.mr c.kt k
inductive um:V->aG->Prop
 | own (C:aM):um (.ref C) (.ref C)
 | ty (T:Dg):um (.ty T) (.type T)
def um.rel(h:um cv c)(r:RelV cv u):u=c:=by
 cases h with
 | own C=>apply r
 | ty T=>apply r
section
variable {X:Cx}{e:bS}{f:XE}{cx:bH}{p p2 pos:gy}{IP:bH->Option Bool}{c:aG}{cv:V}
def Zeo(c:Gl X cx)(b:X.mg cx=aA (.ref C))(a:(cx==("__debug__" : bH))=aC|>Op):DC X (.Name cx p2) (λ_ H Q=>Q (.ref C) H):=λd s U H Q I h=>Wz I c b ⟨.ref C,H,I,rfl,h⟩ a
def Zep(d:Gl X cx)(b:X.mg cx=aB)(e:dq cx=aA (.type T))(c:cx≠"__name__"|>Op)(a:(cx==("__debug__" : bH))=aC|>Op):DC X (.Name cx p2) (λ_ H Q=>Q (.ty T) H):=λf s U H Q I h=>Yt I d b e ⟨.ty T,H,I,rfl,h⟩ c a
end
section
variable {prog:bC}{w:bU}{A:bX}{E:IE}{K:aH}{a C:aM}
def u6(X:K.In s.heap)(I:fT s.heap a o C vO)
  (P:ba K (.ref C) "__getattribute__" = aA (aA (.builtin "BaseException.__getattribute__")))
  (O:ba K (.ref C) "__getattr__" = aA aB) (D:ba K (.ref C) f=aA aB) (G:nC K C=aA cd) (u:tJ cd vO f=aA (aA v)) (r:fP K C "BaseException" = aD) (q:rY v=aD)
  (h:Q v {s with toks:=s.toks+1}):ao (model prog w) A (getAttr (.ref a) f aD) Q E s:=by
 let⟨k,g,d,t,os⟩:=s;let I:fT k a o C vO:=I;let n:=I.at_;let p:=I.cls;let L:=I.type (M:=model prog w);let H:=dX (M:=model prog w) X P;delta getAttr getAttrBy;show aE (rD (b9 (aE (L.at (aE (H.at ?_))))));let l:=dX (M:=model prog w) X O;let y:=dX (M:=model prog w) X D;let B:=PySem.W.looks_own (M:=model prog w) X I G u;change ao (model prog w) A (ik (.ref a) (.str f t) (.ref C) (.builtin "BaseException.__getattribute__") aD aD) _ _ _;let R:=F.attr_ValueError.ga.bind (.ref a);delta ik
 repeat (any_goals (first | assumption | wp_step | (show aE (l.at ?_)) | (show l.at ?_)))
 let⟨nm,x,N,bs,m,hdct,sn,sub,ab,col,J,k0,k1,k2,k3,k5,j,i,c,_⟩:=gR X r;let i:k.get? C=aA (eZ nm x C N bs m hdct sn sub ab col J k0 k1 k2 k3 k5 j):=i;let e:(bp C::m).contains (.type "BaseException")=aD:=by rw[g8,c,kS]
 change gk (model prog w) A (.call (.builtin "BaseException.__getattribute__") ⟨[.ref a,.str f t],[]⟩) _ ⟨k,g,d,t+1,os⟩;show fN F.attr_ValueError.ga.plain F.entry_bexc_ga ?_;let z:rp "BaseException.__getattribute__" = aA .slot:=by decide +kernel
 let b:splitId "BaseException.__getattribute__" = aA ("BaseException","__getattribute__"):=by decide +kernel
 let S:=F.args_bexc_ga (.ref a) (.str f t);dsimp[nX,z,b];show aE ?_;delta qO
 repeat (first | (with_reducible show cN n ?_;rw[p]) | (with_reducible show dm i ?_;rw[e]) | wp_step)
 show y.at ?_;show aE (aJ (aE (aJ ?_)));change ao _ _ (k8 (.ref a) f aB aB) _ _ _;delta k8;show aE (B.at ?_);show aE (mO (aJ ?_));show aJ ?_;change ao (model prog w) A (handedOut v) Q E _;rw[PySem.W.handedOut_of q];apply aJ h
end
def G4(a C:aM)(h:b7):Prop:=∃o vO,fT h a o C vO
def zv{K:aH}{a C:aM}(c:JH K C):tV K (.ref a) (.ref C) (G4 a C) where
 ty:=λM h _ ⟨o,b,I⟩=>I.type
 it:=λM h X _=>by let⟨nm,i,N,bs,m,hdct,sn,sub,ab,col,l,k0,k1,k2,k3,k5,e,d,_⟩:=gR X c.kt;ext g n j f k q;delta isType loadHead;apply aE (pK (k _ _ d) (aJ q))
 ne:=(Zad (a:=a) c).ne
 ca:=λX ⟨o,b,I⟩ k=>u7 X I c.ga c.gr c.cl c.mr c.kt k
def An(IP:bH->Option Bool)(f:XE):XE:=λs=>match f s with
 | some (.Bs n _)=>(IP n).map PV.Iv
 | _=>aB
def Yo(I:Inv X Iu U H s)(f:H a=aA (.Km o (.own x)))(d:o.cls = .ref C)(c:o.dict=aA II)(e:o.data = .fields vs)(b:H II=aA (.Km Dc (.own II))) :
  fT s.heap a o C (aA Dc):=⟨(I.Bh a _ f).1,d,by delta si;rw[e],by rw[c];apply(I.Bh II _ b).1⟩
section
variable {X:Cx}{e:bS}{f:XE}{cx:bH}{p p2 pos:gy}{IP:bH->Option Bool}{c:aG}{cv:V}
def zX:Ag X (.builtin "isinstance") (λxs H Q=>∃a C f c b o x d g,xs=[.ref a,f]/\um f c/\H a=aA (.Km o (.own x))/\o.cls = .ref C/\o.dict=aA d/\(∃vs,o.data = .fields vs)/\H d=aA (.Km g (.own d))/\JH X.K C/\bT X.K (.ref C) c=aA b/\Q (.Iv b) H):=by ext y s U H xs A Q I r h;let⟨a,C,f,c,b,o,x,d,g,rfl,i,n,j,m,⟨vs,k⟩,e,t,p,q⟩:=h;let⟨u,v,rfl,w,l⟩:=Tp r;obtain rfl:=i.rel l;obtain rfl:u=bp a:=w;apply df (zv t) I.Fs ⟨o,aA g,Yo I n j m k e⟩ p (λz=>nomatch z) λtk=>⟨.Iv b,H,I.tok tk,rfl,q⟩
def Zae(q:Gl X "isinstance")(y:X.mg "isinstance" = aB)(L:Kz X e f)(r:um cv c)(A:DC X (.Name cx p2) (λ_ H Q=>Q cv H))
  (I:∀n b,IP n=aA b->∃C,cB X.K bP n=aA (aA (.ref C))/\JH X.K C/\bT X.K (.ref C) c=aA b)
  (d:aL [e,.Name cx p2] X.env=(aC,eval e X.env)::aL [.Name cx p2] X.env|>On) (g:aL [.Name cx p2] X.env=(aC,eval (.Name cx p2) X.env)::aL [] X.env|>On) (m:(cQ pos (aL [.Name cx p2] X.env)).any (·.1)=aC|>On):M3 X (.Call (.Name "isinstance" p) [e,.Name cx p2] [] pos) (An IP f):=
 DC.imp (Pa zX q y (by decide +kernel) (ZA L (ZA A Yc (hs:=g)) (hs:=d)) ∅ ∅ d m)<|by
  ext U H Q ⟨s,l,env,h,k⟩;delta An at h;split at h
  ·rename_i n P M;let⟨b,N,rfl⟩:=map_some h;let⟨C,t,R,G⟩:=I n b N;show⟨λ_=>False,s,.Bs n P,λ_ z=>z.elim,env,M,λv O S s1 w _=>?_⟩;dsimp[Is] at w;let⟨⟨ea,o,x,T,J,E,u,z,rfl,F,i,a,D,B,j,_⟩,_⟩:=w;rw[t] at a;cases a;apply⟨ea,C,cv,c,b,o,x,J,E,rfl,r,F,i,D,B,j,R,G,k _ O [] s1 (Is.Iv _) cC λp hp=>by simp at hp⟩
  ·cases h
structure Zmb(K:aH)(n:bH)(C:aM):Prop where
 ns:cB K bP n=aA (aA (.ref C))
 Hi:JH K C
 nf:ba K (.ref C) (Jn n)=aA aB
 hd:(nC K C).any (·.hasDict)=aD
def AK(n:bH)(f:XE):XE:=λs=>match f s with
 | some (.Bs m l)=>if m=n/\JE l=aD then aA l else aB
 | _=>aB
def Zeq{f:bH}{u:aG}{hp:b7}{e:aM}(h:NY Dc f u)(b:hp.get? e=aA Dc):kH f Dc=aA (aA u):=by
 let⟨o,c,ep,d,i,_,_,j⟩:=h hp e b;rw[b] at d;cases d;let g:=(j f).trans (Be rfl);let a:tS (λn v=>v.isStr n) c f=aA u:=g;delta tS at a;rw[<-mK] at a;delta kH;rw[i]
 dsimp only
 cases q:c.toList.find? (λx=>x.key.isStr f) with
 | none=>rw[q] at a;cases a
 | some en=>rw[q] at a;cases a;rfl
def O_(r:RelV z u):rY u=aD:=by cases z<;>dsimp[_l.RelV] at r<;>first | (let⟨t,rfl⟩:=r;rfl) | (subst r;rfl)
def WO(F:Zmb X.K n C)(R:Kz X e f)(T:jf e (Jn n) X.env (eval e X.env)=eval e X.env|>On):Kz X (.Attribute e (Jn n) pos) (AK n f):=by
 ext M s U H Q I h;let⟨A,B,l,J,env,a,k⟩:=h;delta AK at a;split at a
 ·rename_i m lv S;split at a
  ·rename_i D;cases a;let⟨rfl,IL⟩:=D
   show Zc5 T (ZV (R M s U H (λv b=>MX H b/\Is X.K b (.Bs m l) v []) I ⟨A,B,.Bs m l,J,env,S,λv b W s1 g Y=>⟨s1,by
    have:W=[]:=by dsimp[Is] at g;apply g.2
    rw[<-this];apply g⟩⟩) λu s1 ⟨v,b,i,G,N,g⟩=>?_)
   let⟨⟨ea,o,x,C',O,Z,MV,z,rfl,L,j,c,r,⟨vs,E⟩,d,ns,y,P⟩,_⟩:=g;rw[F.ns] at c;cases c;obtain rfl:=G;let⟨cd,t,w⟩:=PySem.W.any_some F.hd
   show u6 i.Fs (Yo i L j r E d) F.Hi.ga F.Hi.gr F.nf t (by
    delta tJ;rw[Be w];apply Zeq ns (i.Bh O _ d).1) F.Hi.kt (O_ y) ?_
   apply⟨z,b,i.kept λ_ _ q=>q,y,k z b [] N P λp hp=>by simp at hp⟩
  ·cases a
 ·cases a
end
section
variable {M:sM}{A:bX}{E:IE}{s:aN}{env:n8}{L e T:aM}{cls Dd:aG}{dd:I'}{Q:Unit->aN->Prop}
def Zmc(g:env.frame=aA L)(x:Co s.heap e cls dd T (fE L))(h:Q .unit s):ao M A (kg (.ref e) env) Q E s:=by let⟨n,vs,l,ts,c,m,k,b,i,j,f,a,d⟩:=x;delta kg;dsimp[g];show aE (c9 c b i ?_);show aE (c9 f a d ?_);rw[Be ⋯];apply aJ h
end
section
variable {X:Cx}{E:Kp}
def L9(X:Cx)(E:Kp):aG->aN->Prop:=λv Kl=>∃(Iu:MI) (U:_l.St) (H:Hp) (s:aN) (e:aM) (cls:aG) (dd:I'),v = .ref e/\Inv X Iu U H s/\X.s₀.heap.get? e=aB/\H e=aB/\E cls dd H/\
 ((Kl=s/\A5 s.heap e cls dd)\/∃h' T,Kl={s with heap:=h'}/\⇑s<=T/\Co h' e cls dd T (fE X.env.locals)/\lr ((X.env::X.outer).filterMap (·.frame)) [e,T] s.heap h')
def Wy(D:Gq X E){v:aG}{g:aN}(h:L9 X E v g):X.Bk v g:=by
 obtain⟨o,U,H,s,e,n,dd,rfl,I,d,c,q,⟨rfl,x⟩ | ⟨h',T,rfl,i,x,m⟩⟩:=h
 ·apply Zjd D I x d c q
 ·rw[D.Bk];show aE (Zmc D.fr x ?_);show P8 x (fs:=(X.env::X.outer).filterMap (·.frame)) λp k l _=>?_;let j:=fJ (cA I.E9 i);let a:=I.Bh.fresh i
  apply RJ (s:=s) D I j d c a (λb f=>by
   rcases aW.mp f with z | z
   ·rw[z];apply⟨c,d⟩
   ·rw[aO.mp z];apply⟨a,j⟩) k (m.trans (l.mono λb f=>by simp[f])) q
abbrev Cx.vL(X:Cx)(E:Kp):Cx:=X.Kr (L9 X E)
def SM:R' (Cx.vL X E) E:=⟨λ{d U H s e c dd} I x a b q=>⟨d,U,H,s,e,c,dd,rfl,I.MS,a,b,q,.inl ⟨rfl,x⟩⟩⟩
def KJ.vL{st:L_}{t:Di}(D:Gq X E)(h:KJ (Cx.vL X E) st t):KJ X st t:=λa s U H D' I b=>
 bQ (h a s U H D' (I.Kr _) b) (λ_ _ q=>q.MS) λv c z=>Wy D z
end
def LN(k:Bool):List Bool->Option Nat
 | []=>aB
 | x::r=>if x=k then aA 0 else(LN k r).map (· + 1)
def Yg:∀{l:I8}{j:Nat},LN k l=aA j->l[j]?=aA k/\∀m,m<j->l[m]?≠aA k
 | [],_,h=>by cases h
 | x::r,j,h=>by
  delta LN at h;split at h
  ·rename_i e;cases h;apply⟨by simp[e],λm c=>()⟩
  ·rename_i e
   cases q:LN k r with
   | none=>rw[q] at h;cases h
   | some i=>
    rw[q] at h;cases h;let⟨a,b⟩:=Yg q;show⟨by simpa using a,λm c=>?_⟩
    cases m with
    | zero=>simpa using e
    | succ m=>have d:m+1<i+1:=c;simpa using b m ()
def Kj(K:aH):V->List V->Hp->IG->Prop:=λx vs H Q=>∃(p:aM) (ns:I8) (k:Bool) (j:Nat),x = .ref p/\vs=[.Iv k]/\BZ K H p (ns.map V.Iv)/\LN k ns=aA j/\Q (.int (j:Int)) H
def Ki(K:aH):V->List V->Hp->IG->Prop:=λx vs H Q=>∃(p:aM) (ns:I8) (k:Bool),x = .ref p/\vs=[.Iv k]/\BZ K H p (ns.map V.Iv)/\Q (.int ((ns.filter (·==k)).length:Int)) H
def Vf{ns:I8}{b:E4}(r:Bj (ns.map V.Iv) b):b=ns.map n9:=by
 induction ns generalizing b with
 | nil=>cases r;rfl
 | cons a t E2=>
  cases r with
  | cons MH ID=>rw[E2 ID];cases MH;rfl
def tn{X:Cx}:Cz X "list.index" (Kj X.K):=by
 ext O s U H x vs v R Q I J C h;let⟨p,ns,k,j,rfl,rfl,L,A,q⟩:=h;cases J;let⟨u,rfl,N⟩:=W9 C;obtain rfl:=N;let⟨P,r,pl,E⟩:=I.list L;let⟨o,n,w,B,G,hs⟩:=pl;let⟨M,dd,l,D⟩:=o;subst B G hs;rw[aK] at E;let i:=Vf r;subst i;let⟨a,b⟩:=Yg A;let d:=(aS.mp a).1;let' e:aG->Bool:=λy=>match y with | .bool c=>c==k | _=>aC
 let E9:sizeLine<2^62:=∅
 show jP F.slot_list_index ⟨_,w,rfl⟩ F.entry_list_index (F.args_list_index_2 _ _) (SeqAt.list_indexAt p (ns.map n9).toArray n aB D (.bool k) e j (by simp;lia) () ?_ ?_) ⟨w,λy t=>?_,.int (j:Int),H,I.tok _,⟨_,rfl⟩,q⟩
 ·rw[aI d] at a;dsimp[pM,iO];change(ns[j]==k)=aD;rw[bG a];simp
 ·ext m z f;let g:m<ns.length:=by simpa using z
  let:=b m f;rw[aI g] at this;dsimp[pM,iO];change(ns[m]==k)=aC;simpa using this
 ·simp at t;rcases t with⟨i,rfl⟩ | ⟨i,rfl⟩<;>apply lN _ _
def fp{X:Cx}:Cz X "list.count" (Ki X.K):=by
 ext C s U H x vs v E Q I t j h;let⟨p,ns,k,rfl,rfl,w,q⟩:=h;cases t;let⟨u,rfl,A⟩:=W9 j;obtain rfl:=A;let⟨D,r,pl,B⟩:=I.list w;let⟨o,n,g,i,m,hs⟩:=pl;let⟨z,dd,d,l⟩:=o;subst i m hs;let b:=Vf r;subst b;let' e:aG->Bool:=λy=>match y with | .bool c=>c==k | _=>aC
 let a:((ns.map n9).toArray.toList.countP e)=(ns.filter (·==k)).length:=by rw[<-ip];dsimp[sE];rfl
 show jP F.slot_list_count ⟨_,g,rfl⟩ F.entry_list_count (F.args_list_count_2 _ _) (SeqAt.list_countAt p (ns.map n9).toArray n aB l (.bool k) e) ⟨g,λy f=>?_,?_⟩
 ·simp at f;rcases f with⟨b,rfl⟩ | ⟨b,rfl⟩<;>apply lN _ _
 ·rw[a];apply⟨.int _,H,I.tok _,⟨_,rfl⟩,q⟩
def LX:PV->PV->Option PV
 | .lst l,.Iv k=>(AR l).bind λns=>(LN k ns).map λ(j:Nat)=>PV.int (j:Int)
 | _,_=>aB
def LY:PV->PV->Option PV
 | .lst l,.Iv k=>(AR l).map λns=>PV.int ((ns.filter (·==k)).length:Int)
 | _,_=>aB
section
variable {X:Cx}{o e:bS}{fo fe:XE}{apos IQ:gy}
def tg(I:Kz X o fo)(E:Kz X e fe)
  (c:jf o "index" X.env (eval o X.env)=eval o X.env|>On)
  (d:((cQ IQ (aL [e] X.env)).all (λx=>!x.1)&&(qj IQ (mY [] X.env)).all (λx=>x.1.isSome)
   &&decide (([e]:Fj).length+([]:List pV).length+(if([]:List pV).isEmpty then 0 else 1)<30))=aD:=by rfl)
  (b:(apos.endLine==IQ.line)=aD|>On) (hs:aL [e] X.env=(aC,eval e X.env)::aL [] X.env|>On) (a:(cQ IQ (aL [] X.env)).any (·.1)=aC|>On) :
  Kz X (.Call (.Attribute o "index" apos) [e] [] IQ) (DA LX fo fe):=
 DC.imp (Va F.plainAttrs_list F.slot_list_index F.type_list_index tn I (ZM E Xc hs) c d b hs a)<|by
  ext U H Q ⟨f,s,l,g,env,e,k⟩;let⟨y,M,B,u,e⟩:=Vc e;show⟨f,s,y,g,env,B,λv P R s1 z L=>?_⟩;delta LX at e;split at e
  ·let⟨ns,C,D⟩:=Zc e;let⟨j,i,rfl⟩:=map_some D;let t:=X5 C;subst t;let⟨p,xs,h,rfl,hp,J,_⟩:=z.lst_inv;let⟨rfl,rfl⟩:=J.bL;show⟨.inl ⟨rfl,_,.inl (.inl hp)⟩,f,s,[.Iv _],λq A=>MX.mut s1 (g q A),env.mono s1,by change(fe s).bind _=_;rw[u];rfl,λvs N h s2 n O=>?_⟩;let⟨w,rfl,m⟩:=n.cb;rw[m.dO.1];apply⟨p,ns,_,j,rfl,rfl,.inl (.inl (s2 _ _ hp)),i,k _ _ [] (s1.trans s2) (Is.int _) λr G=>by simp at G⟩
  ·cases e
def rn(D:Kz X o fo)(B:Kz X e fe)
  (c:jf o "count" X.env (eval o X.env)=eval o X.env|>On)
  (d:((cQ IQ (aL [e] X.env)).all (λx=>!x.1)&&(qj IQ (mY [] X.env)).all (λx=>x.1.isSome)
   &&decide (([e]:Fj).length+([]:List pV).length+(if([]:List pV).isEmpty then 0 else 1)<30))=aD:=by rfl)
  (b:(apos.endLine==IQ.line)=aD|>On) (hs:aL [e] X.env=(aC,eval e X.env)::aL [] X.env|>On) (a:(cQ IQ (aL [] X.env)).any (·.1)=aC|>On) :
  Kz X (.Call (.Attribute o "count" apos) [e] [] IQ) (DA LY fo fe):=
 DC.imp (Va F.plainAttrs_list F.slot_list_count F.type_list_count fp D (ZM B Xc hs) c d b hs a)<|by
  ext U H Q ⟨f,s,l,g,env,e,k⟩;let⟨t,I,z,n,e⟩:=Vc e;show⟨f,s,t,g,env,z,λv M N s1 u G=>?_⟩;delta LY at e;split at e
  ·let⟨ns,A,rfl⟩:=map_some e;let m:=X5 A;subst m;let⟨p,xs,h,rfl,hp,E,_⟩:=u.lst_inv;let⟨rfl,rfl⟩:=E.bL;show⟨.inl ⟨rfl,_,.inl (.inl hp)⟩,f,s,[.Iv _],λq y=>MX.mut s1 (g q y),env.mono s1,by change(fe s).bind _=_;rw[n];rfl,λvs J h s2 j L=>?_⟩;let⟨w,rfl,i⟩:=j.cb;rw[i.dO.1];apply⟨p,ns,_,rfl,rfl,.inl (.inl (s2 _ _ hp)),k _ _ [] (s1.trans s2) (Is.int _) λr C=>by simp at C⟩
  ·cases e
end
def JS:List bH:=["NoWeb","Apart","NoText","NoOrder","TooMany","NotSettled","NoTree","NoTotal","NoEnds","NoRow","NoName"]
def CH(nm cx:bH):bH->Option Bool:=λn=>if n=nm then aA (decide (cx=nm)) else aB
def Nn(nm:bH):bH->Option Bool:=λn=>if n=nm then aA aD else aB
abbrev y6:List aG:=[.type "ValueError",.type "Exception",.type "BaseException",.type "object"]
def G3(i:Nat):cJ->cJ
 | .ClassDef _ _ _ b _ _ _ _ _ _ _=>b.getD i (.Pass ⟨0,0,0,0⟩)
 | s=>s
structure QF(nm:bH)(P:bC)(w:bU)(K:aH)(mg:Bp)(base:b7)(C Cb:aM):Prop where
 no:cB K bP nm=aA (aA (.ref C))
 υ:mg nm=aA (.ref C)
 cf:z7 P w K mg base C (Jn nm) y6 "ValueError.__new__"
 Dd:Zmb K nm C
 Iv:AO K C Cb=aD
 cls:∀cx∈JS,∃D,mg cx=aA (.ref D)/\bT K (.ref C) (.ref D)=aA (decide (cx=nm))
 ve:bT K (.ref C) (.type "ValueError")=aA aD
def Td:∀{vs ws:List V}{us ts:E4},Bj vs us->Bj ws ts->Bj (vs++ws) (us++ts)
 | [],ws,us,ts,h,k=>by cases h;apply k
 | _::_,ws,us,ts,h,k=>by
  cases h with
  | cons a b=>apply .cons a (Td b k)
structure pb(P:bC)(w:bU)(K:aH)(mg:Bp)(base:b7)(x:bH)(ps:Kn)(Fv:By)(k:Nat)(dv:Int):Prop where
 ex:∃f fd t,mg x=aA (.ref f)/\eB K (.ref f)=aD/\Binds K fd ps [.int dv t]/\FD P w K mg base (BN P w) k f fd ps Fv
section
variable {K:aH}{P:bC}{w:bU}{mg:Bp}{base:b7}{x:bH}{st:cJ}{N ps:Kn}{k n:Nat}{O W:Iw}{dv:Int}
def vg(m:Nat)(u:XF)(D:UI K mg x st dv)(S:Bz N ps (DG st))
  (L:∀(T:aM)(t:tD)(FH c p:aG)(r:I')(b Bi:aG)(f:E4),f.length+1=la ps->∃q:Option (Array aG)->tY (List (bH×aG)),
   i8 (cX x x (HI st) (FQ st) (DG st) (.ref T) FH c p r b Bi) ⟨f,[]⟩=kF (.ref T) >>= q/\q (aA #[.int dv t])=pure (ps.zip (f++[.int dv t])))
  (J:la ps=n) (v:la N=m) (F:∀i∈O,n<=i)
  (d:∀(e:aM)(b:aG)(A:bX)(a:Dk)(s:aN)(H:Hp)(E:Kp),MN k (A.deeper (jE x (DG st) ⇑s e b))->LA (Cx.vL (K3 (BN P w) P w K mg base N x (DG st) e b A a s H E) E) O E (FQ st) u) :
  pb P w K mg base x ps (HJ K (AM m u) n) (k+1) dv:=by
 subst v;let⟨e,T,t,o,U,W,Y,FH,c,p,r,b,Bi,y,g,R,l,B,lt,z⟩:=D.ex;show⟨e,_,t,g,B,λs f X C=>?_,Yu R l S (λvs H Q E h=>by rw[J];apply h.1) λA a s H vs Q E M j=>⟨_,KJ.vL QU (d e b A a s H E M),lg F j⟩⟩;let⟨q,I,G⟩:=L T t FH c p r b Bi f (~~~C);apply ij X rfl lt z I G
def vf(m:Nat)(u:XF)(D:UI K mg x st dv)(S:Bz N ps (DG st))
  (L:∀(T:aM)(t:tD)(FH c p:aG)(r:I')(b Bi:aG)(f:E4),f.length=la ps->∃q:Option (Array aG)->tY (List (bH×aG)),
   i8 (cX x x (HI st) (FQ st) (DG st) (.ref T) FH c p r b Bi) ⟨f,[]⟩=kF (.ref T) >>= q/\q (aA #[.int dv t])=pure (ps.zip f))
  (J:la ps=n) (y:la N=m) (F:∀i∈O,n<=i)
  (d:∀(e:aM)(b:aG)(A:bX)(a:Dk)(s:aN)(H:Hp)(E:Kp),MN k (A.deeper (jE x (DG st) ⇑s e b))->LA (Cx.vL (K3 (BN P w) P w K mg base N x (DG st) e b A a s H E) E) O E (FQ st) u) :
  qb P w K mg base x ps (HJ K (AM m u) n) (k+1):=by
 subst y;let⟨e,T,t,o,U,W,Y,FH,c,p,r,b,Bi,z,g,R,l,C,lt,B⟩:=D.ex;show⟨e,_,g,C,λs f X v=>?_,Yu R l S (λvs H Q E h=>by rw[J];apply h.1) λA a s H vs Q E M j=>⟨_,KJ.vL QU (d e b A a s H E M),lg F j⟩⟩;rw[ck] at v ⊢;let⟨q,I,G⟩:=L T t FH c p r b Bi f v;apply ij X rfl lt B I G
def t2(m:Nat)(f:XS)(D:UI K mg x st dv)(S:Bz N ps (DG st))
  (L:∀(T:aM)(t:tD)(FH c r:aG)(u:I')(b Bi:aG)(g:E4),g.length=la ps->∃q:Option (Array aG)->tY (List (bH×aG)),
   i8 (cX x x (HI st) (FQ st) (DG st) (.ref T) FH c r u b Bi) ⟨g,[]⟩=kF (.ref T) >>= q/\q (aA #[.int dv t])=pure (ps.zip g))
  (J:la ps=n) (y:la N=m) (F:∀i∈O,n<=i)
  (d:∀(e:aM)(b:aG)(A:bX)(a:Dk)(s:aN)(H:Hp)(E:Kp),MN k (A.deeper (jE x (DG st) ⇑s e b))->Ls (K3 Nc P w K mg base N x (DG st) e b A a s H E).Hb O W (FQ st) f) :
  BL P w K mg base x ps (DS K (Hw m f) n) (k+1):=by
 subst y;let⟨e,T,t,o,U,Y,Z,FH,c,r,u,b,Bi,z,j,R,p,C,lt,B⟩:=D.ex;show⟨e,_,j,C,λs g X v=>?_,Yu R p S (λvs H Q E h=>by rw[J];apply h.1) λA a s H vs Q E M l=>⟨_,(d e b A a s H E M).Hb,Sv F l⟩⟩;rw[ck] at v ⊢;let⟨q,I,G⟩:=L T t FH c r u b Bi g v;apply ij X rfl lt B I G
end
structure Q3(uG:bH)(P:bC)(wo:bU)(K:aH)(mg:Bp)(base:b7)(C Cb:aM):Prop where
 χ:mg "PurseError" = aA (.ref Cb)
 kb:fP K Cb "BaseException" = aD
 f:QF uG P wo K mg base C Cb
 sb:AO K C C=aD
section
variable {X:Cx}{uG:bH}{C Cb:aM}{e:bS}{f:XE}{cx:bH}{p p2 pos:gy}
def Xg(Q:Q3 uG X.prog X.w X.K X.mg X.base C Cb)(c:Gl X "isinstance")(l:X.mg "isinstance" = aB)(m:Kz X e f)(d:cx∈JS)(j:Gl X cx)(g:(cx==("__debug__" : bH))=aC|>Op)
  (k:aL [e,.Name cx p2] X.env=(aC,eval e X.env)::aL [.Name cx p2] X.env|>On) (a:aL [.Name cx p2] X.env=(aC,eval (.Name cx p2) X.env)::aL [] X.env|>On) (i:(cQ pos (aL [.Name cx p2] X.env)).any (·.1)=aC|>On):M3 X (.Call (.Name "isinstance" p) [e,.Name cx p2] [] pos) (An (CH uG cx) f):=by
 let⟨D,r,o⟩:=Q.f.cls cx d;show Zae c l m (.own D) (Zeo j r g) (λn b h=>?_) k a i;delta CH at h;split at h
 ·rename_i q;subst q;cases h;apply⟨C,Q.f.no,Q.f.Dd.Hi,o⟩
 ·cases h
def Zet(Q:Q3 uG X.prog X.w X.K X.mg X.base C Cb)(c:Gl X "isinstance")(j:X.mg "isinstance" = aB)(k:Kz X e f)(g:Gl X "ValueError")(m:X.mg "ValueError" = aB)
  (i:aL [e,.Name "ValueError" p2] X.env=(aC,eval e X.env)::aL [.Name "ValueError" p2] X.env|>On) (a:aL [.Name "ValueError" p2] X.env=(aC,eval (.Name "ValueError" p2) X.env)::aL [] X.env|>On) (d:(cQ pos (aL [.Name "ValueError" p2] X.env)).any (·.1)=aC|>On):M3 X (.Call (.Name "isinstance" p) [e,.Name "ValueError" p2] [] pos) (An (Nn uG) f):=by
 show Zae c j k (.ty "ValueError") (Zep g m (by decide +kernel)) (λn b h=>?_) i a d;delta Nn at h;split at h
 ·rename_i l;subst l;cases h;apply⟨C,Q.f.no,Q.f.Dd.Hi,Q.f.ve⟩
 ·cases h
end
def Ek(n0:bH)(fy:XF):Prop:=∀s m l,fy s=aA (m,l)->m=n0
section
variable {n0:bH}
def gN(h:n=n0):Ek n0 (LS n f):=λs m l e=>by
 let⟨a,_,e⟩:=Zc e;split at e
 ·cases e;apply h
 ·cases e
def Uc:Ek n0 AF:=λs m l e=>nomatch e
def Zaf(b:Ek n0 f)(a:Ek n0 g):Ek n0 (Gi fc f g):=λs m l e=>by
 let⟨c,_,e⟩:=Zc e;split at e
 ·apply b s m l e
 ·apply a s m l e
def uy(d:Ek n0 f1)(b:Ek n0 g):Ek n0 (LU f1 f g):=λs m l e=>by
 delta LU at e;split at e
 ·rename_i c a;cases e;apply d s m l a
 ·split at e
  ·apply b _ m l e
  ·cases e
def Xf(h:Ek n0 fy):∀ls n l,AM m fy ls=aA (n,l)->n=n0:=λls n l e=>h _ n l e
end
def JQ(R:List PV->Option (bH×PV))(fs:List XE):XF:=λs=>(HE fs s).bind R
section
variable {X:Cx}{O W:Iw}{E:Kp}{k n:Nat}{x:bH}{ps:Kn}{R:List PV->Option (bH×PV)}{e:bS}{Fc:Fj}{fs:List XE}{p cp ep:gy}
def w_(h:∀ls m l,R ls=aA (m,l)->m=n0):Ek n0 (JQ R fs):=λs m l e=>by let⟨ls,_,e⟩:=Zc e;apply h ls m l e
end
end _z
namespace _v
open _l
def Zme(h:Kz X e f):Nj X IC e (LH f):=by
 intro c s U H R I ⟨a,st,ls,b,env,e,k⟩;delta LH at e
 cases q:Af f st with
 | some m=>
  rw[q] at e;cases e;apply YH h c s U H R I ⟨a,st,_,b,env,q,k⟩
 | none=>
  rw[q] at e;apply PT h c s U H R I ⟨a,st,ls,b,env,e,k⟩
def wO(h:(ow.getD i (aA 0)).isNone=aD):cz mask ow (f+1) i p=aA i:=by delta cz;let a:∃r,dN mask i+1-i=r+1:=⟨dN mask i-i,by delta dN;split<;>lia⟩;let⟨r,a⟩:=a;rw[a,iU,ie];dsimp[lu,h]
def GC(ks:Iw)(j:Nat):Option Nat:=if j∈ks then aA (ks.idxOf j) else aB
def JB(mask:Nat)(acc:Option (Array (Option Nat)×Nat))(h:Int):Option (Array (Option Nat)×Nat):=acc.bind λz=>(cz mask z.1 (eJ mask) (dC h%(mask+1)) (dC h)).bind λj=>aA (z.1.setIfInBounds j (aA z.2),z.2+1)
def UL{a:Hx}{j:Nat}(h:j<a.size)(d:Option Nat):a.getD j d=a[j]:=by delta mQ;rw[dif_pos h];rfl
def xZ{k:Nat}(h:k<=31):dC (k:Int)=k:=by
 delta dC
 lia
def Zag{t:eN}(d:NS led t)(j:31<=t.mask){k:Nat}(h:k<=31)(c:k∉t.place.toList):t.freeSlot (k:Int)=aA (k,aC):=by
 let a:¬t.place[bx t.place k]?=aA k:=λz=>c (by
  rw[<-dG] at z;apply aw z)
 let b:fC t.dummies k=aC:=by rw[d.tz];delta fC;simp
 let i:t.slot k = .empty:=by delta jB;rw[Fb (~~~a),b];rfl
 let st:(t.probeStart (k:Int)).j=k:=by delta p7;rw[xZ h];apply rZ ()
 let g:t.probe (λ_=>(k:Int)+1) (k:Int) (t.probeStart (k:Int))=aA (.empty k aB):=by delta sj;obtain⟨f,e⟩:∃f,10*eJ t.mask=f+1:=⟨10*eJ t.mask-1,by delta eJ;lia⟩;rw[e];delta cZ;rw[st,i];rfl
 delta m8;rw[g];rfl
def Cy(j:Nat):Nat:=(j*5+1)%8
def AN:Nat->Nat->Nat
 | 0,j=>j
 | n+1,j=>AN n (Cy j)
def xM{t:eN}(b:t.dummies = #[]){j:Nat}(h:t.slot j≠.empty):j∈t.place.toList/\∃i,t.slot j = .live i:=by
 let c:fC t.dummies j=aC:=by rw[b];delta fC;simp
 delta jB at h ⊢;by_cases q:(t.place[bx t.place j]?==aA j)=aD
 ·rw[Be q];let a:t.place[bx t.place j]?=aA j:=by simpa using q
  rw[<-dG] at a;apply⟨aw a,_,rfl⟩
 ·rw[Fb q,c] at h;apply absurd rfl h
def YV{t:eN}(b:t.dummies = #[])(c:t.mask=7){h:Int}:∀(n fuel:Nat)(p:jS),n<fuel->p.more=0->p.i=p.j->p.perturb<32->p.dummy=aB->t.slot (AN n p.j) = .empty->
  ∃j,cZ t (λ_=>h+1) h fuel p=aA (.empty j aB)
 | n,0,p,hf,_,_,_,_,_=>()
 | n,fuel+1,p,hf,MH,ID,h3,Bt,he=>by
  delta cZ;by_cases q:t.slot p.j = .empty
  ·rw[q];apply⟨p.j,by rw[Bt]⟩
  ·let⟨_,i,e⟩:=xM b q;rw[e];let ne:((h+1:Int)==h)=aC:=by simp;lia
   dsimp[ne]
   cases n with
   | zero=>apply absurd he q
   | succ n=>
    let a:t.advance p={p with j:=Cy p.j,more:=0,i:=Cy p.j,perturb:=0}:=by
     delta iN gX dN;let d:p.perturb/32=0:=()
     rw[Fb ()];dsimp[c,ID,d];let lt:(p.j*5+1+0)%(7+1)<8:=qN _ ∅;rw[Fb ()];delta Cy;simp
    rw[a];apply YV b c n fuel _ () rfl rfl (by change 0<32;decide) Bt he
def Zeu:∀j,j<8->[AN 0 j,AN 1 j,AN 2 j,AN 3 j,AN 4 j].Nodup:=∅
def nt:∀{l m:Iw},l.Nodup->(∀x∈l,x∈m)->la l<=la m
 | [],m,_,_=>dH _
 | x::l,m,E3,sub=>by let a:=au.mp E3;let b:=sub x ⋯;let:=nt (l:=l) (m:=m.erase x) a.2 λy c=>(gu (λz:y=x=>a.1 (by rw[<-z];apply c))).mpr (sub y (by simp[c]));rw[iA b] at this;have:0<la m:=kT b;dsimp[bB];lia
def Zah{led:Bool}{t:eN}(c:NS led t)(a:t.mask=7)(hs:t.place.size<=4){k:Nat}(f:k<=31):∃j,t.freeSlot (k:Int)=aA (j,aC):=by
 let e:k%8<8:=qN _ ∅
 obtain⟨n,l,g⟩:∃n,n<5/\t.slot (AN n (k%8)) = .empty:=by
  show eO λq=>?_;let all:=λn h=>(xM c.tz λz=>q ⟨n,h,z⟩).1
  let:=nt (Zeu (k%8) e) (λx b=>by
   dsimp[aW,cM,or_false] at b;rcases b with rfl | rfl | rfl | rfl | rfl
   ·apply all 0 ∅
   ·apply all 1 ∅
   ·apply all 2 ∅
   ·apply all 3 ∅
   ·apply all 4 ∅)
  simp at this
  lia
 let st:t.probeStart (k:Int)={j:=k%8,more:=0,i:=k%8,perturb:=k,dummy:=aB}:=by delta p7 dN;rw[xZ f,a];simp
 let⟨j,d⟩:=YV c.tz a n (10*eJ t.mask) {j:=k%8,more:=0,i:=k%8,perturb:=k,dummy:=aB} (by delta eJ;lia) rfl rfl (by change k<32;lia) rfl g;show⟨j,?_⟩;delta m8 sj;rw[st,d];rfl
def Xd{mask:Nat}(c:31<=mask):∀(ks dn:Iw)(ow:Hx),(dn++ks).Nodup->(∀k∈ks,k<=31)->ow.size=mask+1->(∀j,j<=mask->ow.getD j aB=GC dn j)->
  ∃a,(ks.map λ(k:Nat)=>(k:Int)).foldl (JB mask) (aA (ow,dn.length))=aA (a,(dn++ks).length)/\a.size=mask+1/\∀j,j<=mask->a.getD j aB=GC (dn++ks) j
 | [],dn,ow,_,_,hs,Fu=>⟨ow,⋯,hs,by simpa using Fu⟩
 | k::ks,dn,ow,E3,MK,hs,Fu=>by
  let m:=MK k ⋯;let b:k∉dn:=λz=>by rw[dt] at E3;apply E3.2.2 k z k ⋯ rfl
  let fr:(ow.getD k (aA 0)).isNone=aD:=by let:=Fu k ();rw[UL ()] at this;rw[UL (),this];delta GC;rw[Fb b];rfl
  obtain⟨f,e⟩:∃f,eJ mask=f+1:=⟨mask+14,rfl⟩;let st:JB mask (aA (ow,dn.length)) (k:Int)=aA (ow.setIfInBounds k (aA (la dn)),dn.length+1):=by delta JB;dsimp[aY];rw[xZ m,rZ (show k<mask+1 by lia),e,wO fr];rfl
  let⟨a,i,g,l⟩:=Xd c ks (dn++[k]) (ow.setIfInBounds k (aA (la dn))) (~~~E3) (λq h=>MK q (by simp[h])) (~~~hs) (λj d=>by
   rw[UL (by simp;lia),Array.getElem_setIfInBounds ()];let o:=Fu j d;rw[UL ()] at o;by_cases q:k=j
   ·subst q;rw[Be rfl];delta GC;rw[Be ⋯,rF,Fb b];simp
   ·rw[Fb q,o];delta GC;by_cases z:j∈dn
    ·rw[Be z,Be (by simp[z]),rF,Be z]
    ·rw[Fb z,Fb (by simp[z];apply λy=>q y.symm)])
  show⟨a,?_,g,by simpa using l⟩;rw[aa,gQ,st];have:la dn+1=(dn++[k]).length:=⋯
  rw[this,i];simp
def RS(mask:Nat)(hs:Array Int):jM mask hs=(hs.toList.foldl (JB mask) (aA (lX (mask+1) aB,0))).map (·.1):=by delta jM;rw[<-qR];rfl
def yR:∀{l:List α},(∀j∈l,f j=g j)->l.filterMap f=l.filterMap g
 | [],_=>rfl
 | a::l,h=>by rw[fZ,fZ,h a ⋯,yR λj b=>h j (by simp[b])]
def Zgz(p:α->Bool)(g:α->β):∀l:List α,(l.filterMap λj=>if p j=aD then aA (g j) else aB)=(l.filter p).map g
 | []=>rfl
 | a::l=>by
  let:=Zgz p g l;cases h:p a<;>simp[fZ,rq,h,this]
def m'{ks:Iw}(b:ks.Nodup):ks.map (λj=>ks.idxOf j)=aQ (la ks):=by
 apply((gC))
 ·simp
 ·ext i a d;dsimp[aK] at a;rw[iO,mR];let c:=nE.mpr (cI a);apply(jV b).mp (qS c)
def ti{b:FE}{ks:Iw}(u:b.toList.map (·.1)=ks.map λ(k:Nat)=>(k:Int))(r:ks.Nodup)(m:∀k∈ks,k<=31)(J:la ks<=18)(hp:t.plain=aD) :
  ∃a c,sd t b 20=(a,c,aC)/\c.plain=aD/\c.mask=31/\a.toList.map (·.1)=c.place.toList.map λ(k:Nat)=>(k:Int):=by
 let p:b.size=la ks:=by let:=congrArg fK u;simpa using this
 let⟨w,v,y,G⟩:=Xd (mask:=31) ∅ ks [] (lX 32 aB) (~~~r) m rfl (λj n=>by
  delta GC;rw[UL (by simp;lia)];simp)
 let ls:jM 31 (b.map (·.1))=aA w:=by rw[RS,Array.toList_map,u];have:(ks.map λ(k:Nat)=>(k:Int)).foldl (JB 31) (aA (lX (31+1) aB,0))=aA (w,([]++ks).length):=v;rw[this];rfl
 let' d:=(aQ 32).filter λj=>decide (j∈ks)
 let live:((aQ (31+1)).filterMap λj=>(w.getD j aB).map λz=>(j,z))=d.map λj=>(j,ks.idxOf j):=by
  rw[<-Zgz (λj=>decide (j∈ks)) (λj=>(j,ks.idxOf j))];show yR λj n=>?_;let s:j<=31:=by let:=av.mp n;lia
  rw[G j s];delta GC;by_cases q:j∈ks<;>simp[q]
 let o:d.Perm ks:=(List.perm_ext_iff_of_nodup (gD.filter _) r).mpr λx=>by rw[dM,av,decide_eq_true_eq];apply⟨λh=>h.2,λh=>⟨by let:=m x h;lia,h⟩⟩
 let' c:eN:={mask:=31,place:=d.toArray,dummies:=#[],finger:=t.finger,led:=t.led,moves:=t.movedTo 31,plain:=t.plain};let H:t.relaid (b.map (·.1)) 20=aA (c,(d.map λj=>ks.idxOf j).toArray):=by change ky 31 t.finger (t.movedTo 31) t.led t.plain (b.map (·.1))=_;delta ky;rw[ls];dsimp[p6,aY];rw[live,bR,bR];dsimp[ma,List.map_id'];rfl
 let inj:∀j∈d,∃e,b[ks.idxOf j]?=aA e/\e.1=(j:Int):=λj n=>by
  let F:=o.mem_iff.mp n;let E:=nE.mpr F;let l2:ks.idxOf j<b.size:=()
  show⟨b[ks.idxOf j],by simp[l2],?_⟩;let g:=congrArg (λl=>l[ks.idxOf j]?) u;dsimp[af] at g;rw[aI E,dG,dY l2] at g;dsimp[fB,m7] at g;rw[g,qS]
 let B:∀l:List Nat,(∀j∈l,∃e,b[ks.idxOf j]?=aA e/\e.1=(j:Int))->(((l.map λj=>ks.idxOf j).filterMap λi=>b[i]?).map (·.1))=l.map λ(j:Nat)=>(j:Int):=by
  ext l
  induction l with
  | nil=>ext _;rfl
  | cons j l E2=>
   ext h;let⟨e,v,y⟩:=h j ⋯;rw[aa,fZ,v];dsimp[aa];rw[E2 λx A=>h x (by simp[A]),y]
 let' a:=((d.map λj=>ks.idxOf j).toArray.filterMap λi=>b[i]?);let f:a.toList.map (·.1)=d.map λ(j:Nat)=>(j:Int):=by rw[oJ];apply B d inj
 let I:a.size=la ks:=by let:=congrArg fK f;dsimp[aK,bJ] at this;rw[this,o.length_eq]
 let C:coversAll (d.map λj=>ks.idxOf j).toArray b.size=aD:=by delta coversAll;rw[List.isPerm_iff,p,<-m' r];apply o.map _
 let D:c.fits a.size=aD:=by
  delta lC jn;let:=o.length_eq;simp[c]
  lia
 show⟨a,c,?_,hp,rfl,f⟩;delta sd;rw[H];change(if(coversAll (d.map λj=>ks.idxOf j).toArray b.size&&c.fits a.size)=aD then(a,c,aC) else _)=_;rw[C,D];rfl
structure yL(led:Bool)(DH:Nat)(Fc:FE)(t:eN):Prop where
 tab:NS led t
 plain:t.plain=aD
 fits:t.fits Fc.size=aD
 val:∀e∈Fc.toList,∃IC,e.2=gM e.1 IC
 way:∃ks:List Nat,Fc.toList.map (·.1)=(ks.map λ(k:Nat)=>(k:Int))/\ks.Nodup/\(∀k∈ks,k<=31)/\((t.mask=7/\ks.length<=DH)\/(t.mask=31/\t.place.toList=ks))
def ra(xs:Array α)(p:Nat)(x:α):(cD xs p x).toList=xs.toList.take p++x::xs.toList.drop p:=by
 delta cD;dsimp[fg,lP];let drop:(xs.toList.extract p xs.size)=xs.toList.drop p:=by apply cK ⋯
 rw[drop];simp
def Vi{t:eN}{n:Nat}(h:t.fits n=aD):t.place.size=n:=by delta lC at h;dsimp[aX,beq_iff_eq] at h;apply h.1
def rr{led:Bool}{c:FE}{t:eN}(h:yL led 4 c t){k:Nat}(n:k<=31)(E:(k:Int)∉c.toList.map (·.1))(G:c.size<=17)(g:tD) :
  ∃b f,tT t c (k:Int) (.int k g)=(b,f,aC,aC)/\yL led 5 b f:=by
 let⟨ks,o,A,i,way⟩:=h.way;let w:ks.length=c.size:=by let:=congrArg fK o;simpa using this.symm
 let ps:=Vi h.fits;let q:=λz=>E (by rw[o];apply a9.mpr ⟨k,z,rfl⟩)
 obtain⟨j,l,B⟩:∃j,t.freeSlot (k:Int)=aA (j,aC)/\(t.mask=31->j=k):=by
  rcases way with⟨m,r⟩ | ⟨m,pl⟩
  ·let⟨j,l⟩:=Zah h.tab m () n;apply⟨j,l,λz=>()⟩
  ·apply⟨k,Zag h.tab () n (by rw[pl];apply q),λ_=>rfl⟩
 let D:fC t.dummies j=aC:=by rw[h.tab.tz];delta fC;simp
 let' p:=bx t.place j;let' f:={t with place:=cD t.place p j};let' b:=cD c p ((k:Int),gM (k:Int) g);let pt:t.put j=(f,p):=by delta tW;dsimp[D];rfl
 let l1:b.toList=c.toList.take p++((k:Int),gM (k:Int) g)::c.toList.drop p:=ra _ _ _;let La:f.place.toList=t.place.toList.take p++j::t.place.toList.drop p:=ra _ _ _
 let s1:b.size=c.size+1:=by
  let:=congrArg fK l1;rw[aq,bB,bz,fL] at this;dsimp[bJ] at this
  lia
 let F:f.place.size=c.size+1:=by
  let:=congrArg fK La;rw[aq,bB,bz,fL] at this;dsimp[bJ] at this
  lia
 let u:f.fits b.size=aD:=by
  delta lC jn;rw[F,s1];let d:f.dummies.size=0:=by change t.dummies.size=0;rw[h.tab.tz];rfl
  let m:f.mask=t.mask:=rfl;dsimp[beq_self_eq_true,tK,decide_eq_true_eq];rcases way with⟨m,r⟩ | ⟨m,pl⟩<;>lia
 let s:tT t c (k:Int) (.int k g)=(b,f,aC,aC):=by delta tT;rw[l];dsimp[pt];delta qL;rw[u];rfl
 let tk:=e1 h.tab c (k:Int) (.int k g);rw[s] at tk;show⟨b,f,s,tk,h.plain,u,λe v=>?_,ks.take p++k::ks.drop p,?_,?_,λx y=>?_,?_⟩
 ·rw[l1] at v;rcases ag.mp v with z | z
  ·apply h.val e (eD z)
  ·rcases aW.mp z with rfl | z
   ·apply⟨g,rfl⟩
   ·apply h.val e (gL z)
 ·rw[l1,bO,aa,nF,qD,o,bO,aa,nF,qD]
 ·let C:(ks.take p++k::ks.drop p).Perm (k::ks):=by
   let:=rV (a:=k) (l₁:=ks.take p) (l₂:=ks.drop p)
   rwa [jF] at this
  apply C.nodup_iff.mpr (au.mpr ⟨q,A⟩)
 ·rcases ag.mp y with z | z
  ·apply i x (eD z)
  ·rcases aW.mp z with rfl | z
   ·apply n
   ·apply i x (gL z)
 ·rcases way with⟨m,r⟩ | ⟨m,pl⟩
  ·left;show⟨m,?_⟩;rw[aq,bB,bz,fL]
   lia
  ·right;show⟨m,?_⟩;rw[La,pl,B m]
def KW(N:E1)(k:Int):List Int:=if k∈N then N else N++[k]
section
variable {prog:bC}{w:bU}{A:bX}{E:IE}{s:aN}
def Cc(prog:bC)(w:bU)(led:Bool)(h:b7)(a:aM)(N:E1):Prop:=
 ∃o Fc ep t,h.get? a=aA o/\o.ExactSet/\o.data = .set Fc ep t/\ElemsOf (l9 prog w) Fc.toList/\(Fc.toList.map (·.1)).Perm N/\yL led 4 Fc t
def Cc.keep(x:Cc prog w led h a N)(k:∀o,h.get? a=aA o->h'.get? a=aA o):Cc prog w led h' a N:=by let⟨o,b,ep,t,c,r⟩:=x;apply⟨o,b,ep,t,k o c,r⟩
def Rz{h:b7}{a:aM}{o:fH}{c es':FE}{ep:Nat}{t t':eN}(d:h.get? a=aA o)(b:o.data = .set c ep t):(h.update a (kA es' t')).get? a=aA {o with data:=.set es' (ep+1) t'}:=by let:=bZ (kA es' t') d (by rw[pX _ _ b];rfl);rw[pX _ _ b] at this;apply this
def Zew{k:Nat}(h:k<=31):hashInt (k:Int)=k:=by
 have:∀k,k<=31->hashInt ((k:Nat):Int)=(k:Int):=by decide +kernel
 apply this k h
def Zai{N:E1}{k:Nat}{D:tD}{led:Bool}{Q:Bool->aN->Prop}(hS:Cc prog w led s.heap a N)(P:k<=31)(Fg:la N<=17)
  (h:∀h' b,cu a s.heap h'->Cc prog w led h' a (KW N (k:Int))->Q b {s with heap:=h'}):ao (model prog w) A (rG a (.int k D) ((l9 prog w).hash k)) Q E s:=by
 let⟨o,B,ep,t,O,U,G,S,I,T⟩:=hS;let hf:=T.fits;let hz:B.size=la N:=by let:=I.length_eq;simpa using this
 let IF:B.size<scanBound:=by
  have:scanBound=4096:=rfl
  lia
 let M:(l9 prog w).is (k:Int) (.int k D)=aD:=qT _ _ _ _;let J:(gM (k:Int) D).scannable=aD:=rfl
 let f:∀e∈B.toList,(l9 prog w).is (k:Int) e.2=aD↔e.1=(k:Int):=λe F=>by
  let⟨u,Ft⟩:=T.val e F;rw[Ft];constructor
  ·ext z;apply(l9 prog w).inj _ _ _ (qT prog w e.1 u) z
  ·ext z;rw[z];apply qT _ _ _ _
 show b9 (aE (dw O G hf ?_));dsimp[byScan_of J IF S];show aE (aE (mO (aE (wpAny_setScan_of M O G hf S ?_))))
 cases q:List.findIdx? (λe=>(l9 prog w).is (k:Int) e.2) B.toList with
 | some j=>
  let⟨lj,pj,_⟩:=List.findIdx?_eq_some_iff_getElem.mp q;let X:=I.mem_iff.mp (a9.mpr ⟨_,cI lj,(f _ (cI lj)).mp pj⟩);show aJ (aJ ?_);let g:=h s.heap aC (cu.refl a s.heap);delta KW at g;rw[Be X] at g;apply g ⟨o,B,ep,t,O,U,G,S,I,T⟩
 | none=>
  let L:(k:Int)∉B.toList.map (·.1):=λz=>by let⟨e,F,Ko⟩:=a9.mp z;let:=List.findIdx?_eq_none_iff.mp q e F;rw[(f e F).mpr Ko] at this;cases this
  let nN:=λz=>L (I.mem_iff.mpr z);let hh:(l9 prog w).hash (k:Int)=(k:Int):=Zew P;rw[hh];let⟨c,n,ly,d⟩:=rr T P L () D;let pm:=layNew_perm t B (k:Int) (.int k D);rw[ly,kM] at pm;let H:ElemsOf (l9 prog w) c.toList:=by let:=S.push M J;rw[hh] at this;apply this.perm pm
  let p:(c.toList.map (·.1)).Perm (KW N (k:Int)):=by delta KW;rw[Fb nN];let p2:=pm.map (λe:Int×aG=>e.1);rw[bO] at p2;apply p2.trans (I.append_right [(k:Int)])
  let sz1:c.size=la N+1:=by let:=p.length_eq;delta KW at this;rw[Fb nN] at this;simpa using this
  dsimp[ly];show gS (λ_=>?_) (λz=>absurd d.plain z);show aE ?_;show aJ ?_;let pk:plainKind (gM (k:Int) D)=aD:=rfl;dsimp[pk,if_true];let room:∀{m:Nat},m<=18->m<=sizeLine:=λ{m} q=>by rw[dF];lia
  let W:=Rz (es':=c) (t':=n) O G;show aE (kU O G ?_ (room ()));let⟨ks,k1,E3,v,way⟩:=d.way;let lk:ks.length=c.size:=by let:=congrArg fK k1;simpa using this.symm
  show gS (λz=>?_) (λz=>?_)
  ·let l:n.tooFull=aD:=by simpa using z
   delta kh jn at l;rw[Vi d.fits,d.tab.tz] at l;dsimp[aU,lT,decide_eq_true_eq] at l
   let s5:c.size=5:=by
    rcases way with⟨m,l5⟩ | ⟨m,_⟩
    ·rw[m] at l;lia
    ·rw[m] at l;lia
   let gr:pN c.size=20:=by rw[s5];rfl
   let⟨i,R,rl,p2,abh,o2⟩:=ti k1 E3 v () d.plain;let tk:=rt d.tab c 20;let ft:=relayAll_fits n c 20;let C:=relayAll_perm n c 20;rw[rl] at tk ft C;rw[gr];dsimp[rl];show aE (aJ ?_);let g2:=Rz (es':=i) (t':=R) W rfl;let sz2:i.size=c.size:=by let:=C.length_eq;simpa using this
   show aE (kU W rfl ?_ (room ()));let nd2:R.place.toList.Nodup:=tk.rise.imp λq=>()
   let Y:∀x∈R.place.toList,x<=31:=λx Z=>by
    have:(x:Int)∈i.toList.map (·.1):=by rw[o2];apply a9.mpr ⟨x,Z,rfl⟩
    let:=(C.map (λe:Int×aG=>e.1)).mem_iff.mp this;rw[k1] at this;let⟨y,He,ey⟩:=a9.mp this;let:=v y He
    lia
   apply aJ (aJ (h _ aD ((cU s.heap a _).trans (cU _ a _)) ⟨_,i,_,R,g2,U,rfl,H.perm C,(C.map (λe:Int×aG=>e.1)).trans p,tk,p2,ft,λe F=>d.val e (C.mem_iff.mp F),R.place.toList,o2,nd2,Y,.inr ⟨abh,rfl⟩⟩))
  ·let l:n.tooFull=aC:=by
    cases q:n.tooFull with
    | false=>rfl
    | true=>apply absurd (by rw[q];rfl) z
   let t4:yL led 4 c n:=by
    show⟨d.tab,d.plain,d.fits,d.val,ks,k1,E3,v,?_⟩;rcases way with⟨m,l5⟩ | r
    ·left;delta kh jn at l;rw[Vi d.fits,m] at l;dsimp[decide_eq_false_iff_not] at l
     lia
    ·apply .inr r
   apply aJ (aJ (h _ aD (cU s.heap a _) ⟨_,c,_,n,W,U,rfl,H,p,t4⟩))
end
end _v
namespace _a
open PySem.W _l _v
structure GD(led:Bool)(Fc:FE)(t:eN):Prop where
 tab:NS led t
 plain:t.plain=aD
 fits:t.fits Fc.size=aD
section
variable {prog:bC}{w:bU}{A:bX}{E:IE}{s:aN}{it a:aM}{i ep:Nat}{o:fH}{Fc:FE}{t:eN}
def Od(k:s.heap.get? a=aA o)(d:o.data = .set Fc ep t)(b:GD (Lq w) Fc t)(n:i<=Fc.size)
  (h:Q (((Ll w a ep Fc)[i]?).map λe=>(e.2,Kx w t (i+1))) s):ao (model prog w) A (setNext a (Kx w t i) i ep) Q E s:=by
 let f:=b.fits;show aE (dw k d f ?_);show aE (RI ?_)
 cases q:w.params.followText "set-order" with
 | true=>
  let c:Ll w a ep Fc=rX (w.params.setOrder a ep) Fc:=by delta Ll;rw[Be q]
  let hs:∀j,Kx w t j=0:=λj=>by delta Kx;rw[Be q]
  rw[c,hs] at h;rw[hs];show gS (λ_=>?_) (λz=>absurd rfl z);show gS (λz=>absurd z ⋯) (λ_=>?_);show aE ?_;show aE (dw k d f ?_);show aE (RI ?_);rw[q];apply aE (nV (aJ (aJ h)))
 | false=>
  let c:Ll w a ep Fc=Fc:=by delta Ll;rw[Fb (by rw[q];decide)]
  let l:t.led=aD:=by rw[b.tab.led];delta Lq;rw[q];rfl
  let m:bx t.place (Kx w t i)=i:=by
   delta Kx;rw[Fb (by rw[q];decide)]
   cases i with
   | zero=>apply cy b.tab.rise
   | succ j=>
    let g:j<t.place.size:=by rw[Vi b.fits];lia
    simp only;rw[Sz g];apply hu b.tab.rise g
  rw[c] at h;show gS (λz=>absurd z ∅) (λ_=>?_);show gS (λz=>absurd (show(!t.plain&&decide (Fc.size>1))=aD from z) (by rw[b.plain];simp)) (λ_=>?_);show aE ?_;show gS (λz=>absurd z (by rw[l];simp)) (λ_=>aJ ?_);dsimp[m];by_cases z:i<Fc.size
  ·let La:i<t.place.size:=by rw[Vi b.fits];lia
   rw[dY z] at h ⊢;rw[dY La];have:Kx w t (i+1)=t.place[i]+1:=by delta Kx;rw[Fb (by rw[q];decide)];simp only;rw[Sz La]
   rw[this] at h;apply aJ h
  ·rw[iR ()] at h ⊢;apply aJ h
def e_(c:Aw s.heap it a (Kx w t i) i Fc.size ep)(k:s.heap.get? a=aA o)(g:o.data = .set Fc ep t)(j:GD (Lq w) Fc t)(h:(Ll w a ep Fc)[i]?=aA e)
  (m:∀h',Aw h' it a (Kx w t (i+1)) (i+1) Fc.size ep->cu it s.heap h'->Q (aA e.2) {s with heap:=h'}):ao (model prog w) A (jw (.ref it)) Q E s:=by
 let⟨n,d,p,b⟩:=id c
 let q:i<Fc.size:=by
  let:=(cL.mp h).1
  rwa [SE] at this
 show aE (gz (cg c.typeIs c8
  (cF c8 c.typeIs Vh ?_ (Ud _))))
 show aE (aJ ?_);show aE (mP d b ?_);show aE (l8 k g j.fits ?_);rw[Fb ⋯];dsimp[fV];show aE (Od k g j (eK q) ?_);rw[h];show aE (fX d b ⋯ ?_);let l:(s.heap.update it (gH (·.setIfInBounds 0 (fE (Kx w t (i+1)))))).get? it=aA (n.mapFields (·.setIfInBounds 0 (fE (Kx w t (i+1))))):=bZ _ d (fA (cH b _));let f:=cH b (·.setIfInBounds 0 (fE (Kx w t (i+1))));show aE (fX l f ⋯ ?_);show aJ ⟨_,rfl,aJ (m _ ⟨_,bZ _ l (fA (cH f _)),(gp ..).trans ((gp ..).trans p),?_⟩ ((cU ..).trans (cU ..)))⟩;rw[cH f];simp[fE]
def Yb(i:A.handled=aB)(b:Aw s.heap it a (Kx w t Fc.size) Fc.size Fc.size ep)(g:s.heap.get? a=aA o)(e:o.data = .set Fc ep t)(f:GD (Lq w) Fc t)
  (h:∀h',mZ it s.heap h'->Q aB {s with heap:=h'}):ao (model prog w) A (jw (.ref it)) Q E s:=by
 let⟨j,c,k,d⟩:=id b
 show aE (gz (cg b.typeIs c8
  (cF c8 b.typeIs Vh ?_ (Ud _))))
 show aE (aJ ?_);show aE (mP c d ?_);show aE (l8 g e f.fits ?_);rw[Fb ⋯];show aE (Od g e f (aZ _) ?_);rw[iR (by rw[SE];apply aZ _)];show aE (fX c d ⋯ ?_);show aE ?_;show aE (m:=oz _ _) (m4 rfl ?_);show cw ?_ (by size_fits);show aE (qA ?_);rw[i];show aE (aJ (rg ?_));show aE (ke ⟨_,aV _ rfl,rfl⟩ pA ?_);apply aJ (h _ (((cU ..).extBut.push _).push _))
def Zaj(b:s.heap.get? a=aA o)(h:o.ExactSet)(c:o.data = .set Fc ep t)(f:GD (Lq w) Fc t)
  (g:Q (.ref ⇑s) {s with heap:=s.heap.push {cls:=.type "set_iterator",data:=.fields #[.int 0 0,.int 0 0,.ref a,.int Fc.size 0,.int ep 0]}}):ao (model prog w) A (mq (.ref a)) Q E s:=by
 let e:s.TypeIs (.ref a) "set":=⟨o,b,h.1⟩;let d:=f.fits;show kN e o8 (cF o8 e P6 ?_ (PySem.F.args_set_iter_1 _));show aE (aE (aJ (aJ ?_)));show aE (aE (l8 b c d (aJ ?_)));show aE (aE (dw b c d (aE (RI (aJ ?_)))));show gS (λz=>absurd (show(!(w.params.followText "set-order")&&(!t.plain&&decide (Fc.size>1)))=aD from z) (by rw[f.plain];simp)) (λ_=>?_);show aE (aJ ?_);show aE (aE (dw b c d (aJ ?_)));show aE (cw (aJ ⟨_,rfl,"set_iterator",_,⟨_,aV _ rfl,rfl⟩,c8.lookup,?_⟩));simpa [fE] using g
end
section
variable {prog:bC}{w:bU}{a:aM}{ep:Nat}{o:fH}{Fc:FE}{t:eN}
def iv(r:A.handled=aB)(g:a≠it)(m:o.data = .set Fc ep t)(p:GD (Lq w) Fc t) :
  Walks prog w A it [it,a] [it] Fc.size (λi v=>∃e,(Ll w a ep Fc)[i]?=aA e/\v=e.2) (λi h=>Aw h it a (Kx w t i) i Fc.size ep/\h.get? a=aA o) where
 sub:=λb d=>by rw[aO.mp d];apply ah
 frame:=λ_ _ _ st n=>⟨st.1.at λo e=>n _ ⋯ o e,n a ⋯ o st.2⟩
 item:=λi f Q E s st c=>by
  let j:i<(Ll w a ep Fc).size:=by rw[SE];apply s
  show e_ st.1 st.2 m p (e:=(Ll w a ep Fc)[i]) ⋯ λh' k l=>?_;apply c _ h' f.toks ⟨(Ll w a ep Fc)[i],by simp[j],rfl⟩ ⟨k,l.extBut a o g st.2⟩ λb o d e=>l.extBut b o (λh=>d (by simp[h])) e
 done:=λf Q E st c=>Yb r st.1 st.2 m p λh' q=>c h' f.toks λb o d e=>q b o (λh=>d (by simp[h])) e
 self:=λ_ _ _ _ st c=>hb st.1 c
def Zex(d:o.ExactSet)(f:o.data = .set Fc ep t)(g:GD (Lq w) Fc t) :
  KdlSrc prog w "set" a a Fc.size (λi v=>∃e,(Ll w a ep Fc)[i]?=aA e/\v=e.2) (λh=>h.get? a=aA o) where
 type:=λ_ b=>⟨o,b,d.1⟩
 there:=λ_ b=>⟨aT b,aT b⟩
 keep:=λ_ _ b k=>k a (.inl rfl) o b
 notList:=∅
 notTuple:=∅
 hint:=λ_ _ _ _ b c=>hc ⟨o,b,d.1⟩ c
 iter:=λA s j b=>⟨_,λi h=>Aw h ⇑s a (Kx w t i) i Fc.size ep/\h.get? a=aA o,(λ_ _ c=>Zaj b d f g c),iv j (ay (aT b)) f g,⟨⟨_,aV _ rfl,rfl,by
  have:Kx w t 0=0:=by delta Kx;split<;>rfl
  rw[this];rfl⟩,aF _ b⟩⟩
end
section
variable {prog:bC}{w:bU}{A:bX}{E:IE}{s:aN}
def uo(N:A.handled=aB)(P:s.heap.get? a=aA o)(C:o.ExactSet)(G:o.data = .set Fc ep t)(J:GD (Lq w) Fc t)
  (y:∀e∈Fc.toList,∃IC,e.2=gM e.1 IC) (B:Fc.size<=20) (h:∀(D:aM)(g h':b7)(tk:Nat)(d:M_)(c:E1)(e:Nat),(∀b o,s.heap.get? b=aA o->g.get? b=aA o)->g.objs.size<=D->(∀b o,g.get? b=aA o->h'.get? b=aA o)->h'.get? D=aA (fF "list" d e)->
   jI d.toList c->c.Perm (Fc.toList.map (·.1))->c.Pairwise (·<=·)->Q (.ref D) {s with heap:=h',toks:=tk}) :
  ao (model prog w) A (call (.builtin "sorted") [.ref a]) Q E s:=by
 show j4 rj qv qw (qx _) ?_;show aE (aJ ?_);show aE (kdu_collect (Zex C G J) N P (by rw[dF];lia) λg tk acc I f=>?_)
 let n:acc.toList=(Ll w a ep Fc).toList.map (·.2):=by
  apply((gq));ext i;rw[af];by_cases q:i<acc.size
  ·let k:acc.toList[i]?=aA acc[i]:=by simp[q]
   let⟨e,m,L⟩:=f.2 i acc[i] (by simp[q]);rw[k,dG,m,L];rfl
  ·let k:acc.toList[i]?=aB:=by simp;lia
   let m:(Ll w a ep Fc).toList[i]?=aB:=by let:=f.1;let:=SE w a ep Fc;simp;lia
   rw[k,m];rfl
 let hp:acc.toList.Perm (Fc.toList.map (·.2)):=by rw[n];apply(xI w a ep Fc).map _
 let H:=R8 λv r=>by let⟨e,l,rfl⟩:=a9.mp (hp.mem_iff.mp r);let⟨u,p⟩:=y e l;apply⟨_,u,p⟩
 let x:(acc.toList.map A4).Perm (Fc.toList.map (·.1)):=by
  let k:(Fc.toList.map (·.2)).map A4=Fc.toList.map (·.1):=by rw[bR];show az λe l=>?_;let⟨u,p⟩:=y e l;change A4 e.2=e.1;rw[p];rfl
  rw[<-k];apply hp.map A4
 let z:acc.toList.length<=20:=by
  let:=x.length_eq;dsimp[aK,bJ] at this;rw[bJ]
  lia
 show aE (ku ?_ (by rw[dF];lia));let j:(g.push (fF "list" acc.toList.toArray 0)).get? g.objs.size=aA (fF "list" acc.toList.toArray 0):=aV _ rfl;show aE (b9 (cF pE ⟨_,j,rfl⟩ oW (list_sort_tree j H () λd c O M F=>⟨_,rfl,?_⟩) (pH _)));let⟨e,l⟩:=sortedHeap_at j;show aJ ⟨_,rfl,h g.objs.size g _ tk d c e I (aZ _) (λb o q=>?_) l O (M.trans x) F⟩;rw[sortedHeap_old (ay (aT q)) (by rw[qK];apply eY (aT q))];apply aF _ q
end
def Al(ns:Iw):List Int:=(ns.map λ(k:Nat)=>(k:Int)).foldl KW []
def ov(ns:Iw)(k:Nat):Al (ns++[k])=KW (Al ns) (k:Int):=by delta Al;rw[bO,m6];rfl
def Xo:∀(l N:E1),(l.foldl KW N).length<=la N+la l
 | [],N=>⋯
 | k::l,N=>by
  let:=Xo l (KW N k)
  let h:(KW N k).length<=la N+1:=by
   delta KW;split<;>simp
  rw[gQ,bB]
  lia
def Yf(ns:Iw):(Al ns).length<=la ns:=by let:=Xo (ns.map λ(k:Nat)=>(k:Int)) [];simpa [Al] using this
section
variable {prog:bC}{w:bU}{A:bX}{R:rP->aN->Prop}{I a:aM}{Ir wr:Gc}{G:Array lG->Array lG->Prop}{P:K_}{St:Nat->aN->Prop}{led:Bool}{ns:Iw}
def W3(W:WalksS prog w A.in1 I Ir wr G (la ns) P St)(j:a∉Ir)(B:∀i v,P i v->∃t,v = .int ((ns.getD i 0:Nat):Int) t)(f:∀k∈ns,k<=31)(D:la ns<=17) :
  ∀(m i:Nat)(s:aN),i+m=la ns->St i s->Cc prog w led s.heap a (Al (ns.take i))->
   (∀c,Moved (a::wr) G s c->Cc prog w led c.heap a (Al ns)->R (.ok (.ret .none)) c)->
   gk (model prog w) A (.builtin "set.update.loop" ⟨[.ref a,.ref I],[]⟩) R s
 | 0,i,s,e,st,hS,k=>by
  let h:i=la ns:=()
  subst h;let d:a∉wr:=λz=>j (W.sub _ z);rw[dQ] at hS;show di eV ?_;rw[fO cV _];show aE (m:=jw (.ref I)) (W.done s _ _ st λc g=>?_);apply aJ (k c (g.mono λb z=>aR _ z) (hS.keep λo z=>g.heap a o d z))
 | m+1,i,s,e,st,hS,k=>by
  let d:a∉wr:=λz=>j (W.sub _ z);let h:i<la ns:=()
  show di eV ?_;rw[fO cV _];show aE (m:=jw (.ref I)) (W.item i s _ _ () st λv c hp x g=>?_);let⟨t,rfl⟩:=B i v hp;let NN:ns.getD i 0=ns[i]:=by simp[h]
  rw[NN];show aE (m:=holding [gM ((ns[i]:Nat):Int) t] (setAdd a (.int ((ns[i]:Nat):Int) t))) (b9 ?_);delta setAdd;show b9 (aE ((l9 prog w).pyHash (k:=((ns[i]:Nat):Int)) (qT _ _ _ _) ?_));let n:Cc prog w led ({c with toks:=c.toks+1}:aN).heap a (Al (ns.take i)):=hS.keep λo z=>g.heap a o d z;show Zai (s:={c with toks:=c.toks+1}) n (f _ (cI h)) (by let:=Yf (ns.take i);rw[bz] at this;lia) λh' E C p=>?_;let r:Cc prog w led h' a (Al (ns.take (i+1))):=by rw[fY h,ov];apply p
  show aJ ⟨jC cV _,W3 W j B f D m (i+1) _ () (W.frame _ c _ _ x (lI _) λb z o e=>?_) r λy u l=>?_⟩
  ·rw[C.2 b λq:b=a=>j (by rw[<-q];apply z)];apply e
  ·show k y (Moved.trans W.gtrans ((g.mono λb z=>aR _ z).then_heap (lI _) λb o z e=>?_) u) l;rw[C.2 b λq:b=a=>z (by rw[q];apply ah)];apply e
end
section
variable {prog:bC}{w:bU}{A:bX}{E:IE}{s:aN}
def vv(hh:A.handled=aB)(Fg:s.heap.IsTuple l items)(S:jI items.toList (ns.map λ(k:Nat)=>(k:Int)))(y:∀k∈ns,k<=31)(n:ns.length<=17)
  (h:∀(h':b7)(tk:Nat),Cc prog w (Lq w) h' ⇑s (Al ns)->(∀b o,b<⇑s->s.heap.get? b=aA o->h'.get? b=aA o)->Q (.ref ⇑s) {s with heap:=h',toks:=tk}) :
  ao (model prog w) A (call (.type "set") [.ref l]) Q E s:=by
 let j:items.size=ns.length:=by let:=gd S;simpa using this
 let⟨c,Dx,N⟩:=F.called_set.mro;let aaw:=F.called_set.made;let x2:=F.called_set.sub;let x3:=F.called_set.notType;let x4:=F.called_set.canCreate;let x5:=F.typeCall_set_1 (.ref l);show iT (lV ?_);show aJ ⟨iV _ (by decide +kernel),di F.entry_type_call ?_⟩;rw[qU (o9 "set" [.ref l] []) rfl]
 repeat (any_goals (first | assumption | wp_step))
 show fU (Yn (.ref l) (E:=E) (Q:=λv d=>v = .ref ⇑s/\d={s with heap:=s.heap.push (Ae w)}) ⟨rfl,rfl⟩) λr d g=>?_
 cases r with
 | error e=>apply g
 | ok Dd=>
  cases Dd with
  | ret v=>
   let⟨rfl,rfl⟩:=g;let C:(s.heap.push (Ae w)).get? ⇑s=aA (Ae w):=aV _ rfl;let ty:tN {s with heap:=s.heap.push (Ae w)} (.ref ⇑s) "set":=⟨_,C,rfl⟩;let y1:=F.called_set.init.lookup;let y2:=F.called_set.init.bind (.ref ⇑s)
   repeat (any_goals (first | assumption | wp_step))
   show fU (fN (R:=wants (λr f=>r = .none/\∃h' tk,f={s with heap:=h',toks:=tk}/\Cc prog w (Lq w) h' ⇑s (Al ns)/\∀b o,b<⇑s->s.heap.get? b=aA o->h'.get? b=aA o) E) F.called_set.init.plain F.entry_set_init (check_set_init_1 ty ?_)) λm f a=>?_
   ·let⟨ol,T,O,H,J⟩:=Fg;let⟨IV,Dc,X,os⟩:=ol;simp only at O J;subst O J;let g4:(s.heap.push (Ae w)).get? l=aA {cls:=.type "tuple",dict:=Dc,data:=.seq items H,slots:=os}:=aF _ T;let G:(s.heap.push (Ae w)).IsTuple l items:=⟨_,g4,rfl,H,rfl⟩;let u1:=F.sub_tuple_set;let u2:=F.sub_tuple_frozenset;let u3:(jv "tuple"==jv "dict")=aC:=∅
    let u4:(s.heap.push (Ae w)).get? ⇑s=aA {cls:=.type "set",dict:=aB,data:=.set #[] 0 (.fresh 0 0 (Lq w))}:=C;delta km.«set.__init__» noKeywords lY;generalize x:mq=Aa
    wp_walk
    subst x;show mJ G (aE (pC ?_));let I:l<⇑s:=aT T;let MO:A.in1.in1.in1.handled=aB:=by simp[hh]
    let ne:l≠(s.heap.push (Ae w)).objs.size:=by rw[cT];apply ay (eY I)
    let W:⇑s∉[(s.heap.push (Ae w)).objs.size,l]:=by rw[cT];dsimp[aW,cM,or_false,not_or];apply⟨ay (iK _),gG I⟩
    let ga:((s.heap.push (Ae w)).push {cls:=.type "tuple_iterator",data:=.fields #[.ref l,.int 0 0]}).get? ⇑s=aA (Ae w):=aF _ C;let M:=(Walks.tuple (prog:=prog) (w:=w) MO _ l ne items).toS;rw[j] at M;show W3 (led:=Lq w) (ns:=ns) M W (λi v D=>?_) y n ns.length 0 _ () ⟨⟨_,aV _ rfl,rfl,rfl⟩,G.push _⟩ ?_ λU p z=>?_
    ·let P:i<items.size:=(cL.mp D).1;let⟨t,e⟩:=jI.int_at S i v (by rw[dG];apply D);show⟨t,e.trans ?_⟩;congr 1;rw[j] at P;simp[P]
    ·apply⟨_,#[],0,_,ga,⟨rfl,rfl,rfl⟩,rfl,λe B=>by simp at B,kR _,ct _,rfl,rfl,λe B=>by simp at B,[],rfl,cC,⋯,.inl ⟨rfl,⋯⟩⟩
    ·let⟨h',Y,aa9,q,u⟩:=U;let eg:Y=s.gens:=p.gens;let ed:aa9=s.drawn:=p.drawn;let Z:u=s.os:=p.os;subst eg ed Z;show aJ (aJ ⟨rfl,h',q,rfl,z,λb o L e=>?_⟩);show p.heap b o ?_ (aF _ (aF _ e));rw[cT];dsimp[aW,cM,or_false,not_or];apply⟨ay L,ay (eY L)⟩
   ·cases m with
    | error e=>apply a
    | ok f₂=>
     cases f₂ with
     | ret r=>
      let⟨rfl,h',tk,rfl,z1,z2⟩:=a
      repeat (any_goals (first | assumption | wp_step))
      apply h _ _ z1 z2
     | _=>apply a.elim
  | _=>apply g.elim
end
def Ib(K:aH)(MG:De):TE:=λU H Q=>MG U H λvs H1=>∃(p:aM) (ns:Iw),vs=[.ref p]/\DJ K H1 p (ns.map λ(k:Nat)=>V.int (k:Int))/\(∀k∈ns,k<=31)/\la ns<=17/\∀l,H1 l=aB->Q (.ref l) (upd H1 l (.lst ((_v.sortI (Al ns)).map V.int)))
section
variable {X:Cx}{a:bS}{MG:De}{p p2 pos eF:gy}
def ZU(u:X.calm=aD)(i:Gl X "sorted")(m:X.mg "sorted" = aB)(g:Gl X "set")(l:X.mg "set" = aB)(T:M8 X [a] MG)(hs:aL [a] X.env=[(aC,eval a X.env)]|>On)
  (S:aL [.Call (.Name "set" p2) [a] [] eF] X.env=(aC,eval (.Call (.Name "set" p2) [a] [] eF) X.env)::aL [] X.env|>On) (j:(cQ pos (aL [] X.env)).any (·.1)=aC|>On) :
  DC X (.Call (.Name "sorted" p) [.Call (.Name "set" p2) [a] [] eF] [] pos) (Ib X.K MG):=by
 ext G s U H Q I h;show cS (Yt I i m rfl ?_);show eM ?_ S j;show iS ?_;show sP (Yt I g l rfl (br (ZV (T eF G s U H _ I h) λus s1 ⟨vs,H1,w,M,y⟩=>?_) hs rfl));let⟨b,ns,e,N,k,c,q⟩:=y;subst e
 cases M with
 | cons r Dj=>
  cases Dj;cases r;let⟨IS,v,pl,hz⟩:=w.tuple N;rw[UB] at v;show vv (I.ok.hd u) pl (Vt v) k c λh' tk L J=>jH ?_;let⟨o,F,ep,t,Y,A,C,O,n,d⟩:=L;let ls:=Yf ns;let lz:F.size=(Al ns).length:=by let:=n.length_eq;simpa using this
  show uo (I.ok.hd u) Y A C ⟨d.tab,d.plain,d.fits⟩ d.val () λD MH ID r_ f Z e k1 k2 k3 P W R B=>?_;let x:=w.kept (t':=r_) λb o z=>k1 b o (J b o (aT z) z);let E:=_v.kn (R.trans n) B;subst E;let lo:(_v.sortI (Al ns)).length<=17:=by rw[(_v.sortI_perm _).length_eq];lia
  show⟨.ref D,_,x.laid k3 k2 (show NI X.prog X.w _ _ _ (.lst ((_v.sortI (Al ns)).map V.int)) from⟨?_,f.toList,e,?_,?_⟩),rfl,q D (x.Bh.fresh k2)⟩
  ·rw[aK,dF];lia
  ·apply VH W
  ·rw[lO];apply P
end
def Cw(ns:E1):Bool:=ns.all (λk=>decide (0<=k)&&decide (k<=31))&&decide (la ns<=17)
def CO:PV->Option PV
 | .tup l=>(F2 l).bind λns=>if Cw ns=aD then aA (.lst (iL (_v.sortI (ns.foldl KW [])))) else aB
 | _=>aB
def oy(A:X.calm=aD)(f:Gl X "sorted")(o:X.mg "sorted" = aB)(d:Gl X "set")(h:X.mg "set" = aB)(L:Kz X a fa)(hs:aL [a] X.env=[(aC,eval a X.env)]|>On)
  (J:aL [.Call (.Name "set" p2) [a] [] eF] X.env=(aC,eval (.Call (.Name "set" p2) [a] [] eF) X.env)::aL [] X.env|>On) (g:(cQ pos (aL [] X.env)).any (·.1)=aC|>On) :
  M3 X (.Call (.Name "sorted" p) [.Call (.Name "set" p2) [a] [] eF] [] pos) (NR CO fa):=
 DC.imp (ZU A f o d h (ZM L Xc hs) hs J g)<|by
  ext U H Q ⟨s,l,env,e,k⟩;let⟨x,G,t⟩:=Zc e;show⟨λ_=>False,s,[x],λ_ z=>z.elim,env,by change(fa s).bind _=_;rw[G];rfl,λvs N O s1 D _=>?_⟩;let⟨v,rfl,E⟩:=D.cb
  cases x with
  | tup m=>
   let⟨ns,I,i⟩:=Zc t;split at i
   case isFalse=>cases i
   rename_i b;cases i;let C:=Z9 I;subst C;let⟨p,xs,rfl,hp,M⟩:=E.b_;let⟨rfl,rfl⟩:=M.iL;delta Cw at b;dsimp[aX,decide_eq_true_eq,bK] at b
   let u:ns=(ns.map jD).map λ(k:Nat)=>(k:Int):=by
    rw[bR]
    conv=>lhs;rw[<-kG ns]
    show az λz c=>?_;let:=b.1 z c;change z=((z.toNat:Nat):Int)
    lia
   let F:ns.map V.int=(ns.map jD).map λ(k:Nat)=>V.int (k:Int):=by rw[UB,<-u]
   let B:Al (ns.map jD)=ns.foldl KW []:=by delta Al;rw[<-u]
   show⟨p,ns.map jD,rfl,?_,?_,by rw[aK];apply b.2,λq w=>?_⟩
   ·rw[<-F];apply .inl (.inl hp)
   ·ext j y;let⟨z,c,rfl⟩:=a9.mp y;let:=b.1 z c
    lia
   ·rw[B];show k _ _ [q] (s1.trans (MX.new w _)) (Is.lst a_ (KA.ofInts _)) ⋯ λr n=>?_;rw[aO.mp n];apply⟨MX.off s1 w,by rw[a_];apply cE⟩
  | _=>cases t
def Ie(K:aH)(MG:De):TE:=λU H Q=>MG U H λvs H1=>∃(p:aM) (ns:E1),vs=[.ref p]/\BZ K H1 p (ns.map V.int)/\la ns<=1000/\Q (.int ((ns.foldl sk []).length:Int)) H1
def TG(ns:E1):firstMet (λi=>ns.getD i 0) (la ns)=ns.foldl sk []:=by
 delta firstMet;congr 1;apply((gC))
 ·simp
 ·ext i b a;simp[a]
section
variable {X:Cx}{a:bS}{MG:De}{p p2 pos eF:gy}
def te(n:X.calm=aD)(f:Gl X "len")(j:X.mg "len" = aB)(d:Gl X "set")(i:X.mg "set" = aB)(G:M8 X [a] MG)(hs:aL [a] X.env=[(aC,eval a X.env)]|>On)
  (F:aL [.Call (.Name "set" p2) [a] [] eF] X.env=(aC,eval (.Call (.Name "set" p2) [a] [] eF) X.env)::aL [] X.env|>On) (g:(cQ pos (aL [] X.env)).any (·.1)=aC|>On) :
  DC X (.Call (.Name "len" p) [.Call (.Name "set" p2) [a] [] eF] [] pos) (Ie X.K MG):=by
 ext x s U H Q I h;show cS (Yt I f j rfl ?_);show eM ?_ F g;show iS ?_;show sP (Yt I d i rfl (br (ZV (G eF x s U H _ I h) λS s1 ⟨vs,M,l,B,m⟩=>?_) hs rfl));let⟨b,ns,e,C,P,q⟩:=m;subst e
 cases B with
 | cons r Dj=>
  cases Dj;cases r;let⟨E,k,pl,O⟩:=l.list C;let c:E.length=ns.length:=by let:=k.length;rw[aK] at this;apply this.symm
  let N:scanBound=4096:=rfl;show call_set_list (I.ok.hd n) pl.isList (Vt k) (by rw[aU];lia) λh' tk A y=>jH ?_;let⟨o,R,ep,t,L,u,w,_,_,T,v,J⟩:=A;let D:=l.kept (t':=tk) λb o z=>y b o (aT z) z;show qV L u w v () ?_;rw[J,aU,c,TG];apply⟨.int _,M,D.tok _ |>.tok _,⟨_,rfl⟩,q⟩
end
def L8:PV->Option PV
 | .lst l=>(F2 l).bind λns=>if ns.length<=1000 then aA (.int ((ns.foldl sk []).length:Int)) else aB
 | _=>aB
def ub(j:X.calm=aD)(c:Gl X "len")(h:X.mg "len" = aB)(b:Gl X "set")(f:X.mg "set" = aB)(w:Kz X a fa)(hs:aL [a] X.env=[(aC,eval a X.env)]|>On)
  (u:aL [.Call (.Name "set" p2) [a] [] eF] X.env=(aC,eval (.Call (.Name "set" p2) [a] [] eF) X.env)::aL [] X.env|>On) (d:(cQ pos (aL [] X.env)).any (·.1)=aC|>On) :
  M3 X (.Call (.Name "len" p) [.Call (.Name "set" p2) [a] [] eF] [] pos) (NR L8 fa):=
 DC.imp (te j c h b f (ZM w Xc hs) hs u d)<|by
  ext U H Q ⟨s,l,env,e,k⟩;let⟨x,r,i⟩:=Zc e;show⟨λ_=>False,s,[x],λ_ z=>z.elim,env,by change(fa s).bind _=_;rw[r];rfl,λvs C D s1 o _=>?_⟩;let⟨v,rfl,q⟩:=o.cb
  cases x with
  | lst m=>
   let⟨ns,t,g⟩:=Zc i;split at g
   case isFalse=>cases g
   rename_i y;cases g;let n:=Z9 t;subst n;let⟨p,xs,B,rfl,hp,A,_⟩:=q.lst_inv;let⟨rfl,rfl⟩:=A.iL;apply⟨p,ns,rfl,.inl (.inl hp),y,k _ _ [] s1 (by simp[Is]) ⋯ ⋯⟩
  | _=>cases i
end _a
namespace _p
open _l _v _z
def Ct:=Hw 8 (BS (Hs 3 (NR LJ (BO M5 [Dz 0])))
  (BS (FP [3] (Nk (Dz 2)) (.one 4) (BS (Hs 5 (FG (DA Hu (Dz 1) (Dz 4))))
  (BS (Hs 6 (FG (DA Hu (Dz 3) (DA Hu (Dz 5) (DB (.int 0))))))
  (BS (Hs 7 (FG (DA Hu (Dz 3) (DA Hu (Dz 5) (DB (.int 1))))))
  (Hs 3 (HC 1 [6,7] (Af (Dz 3)) (.one 0) Ac (FG (BM (xB (DA (KD aC) (Dz 0) (Dz 2))) (Dz 1) (Dz 0)))))))))
  (Hv (Dz 3))))
def JW:=Hw 3 (BS (Hs 2 (BO JA [Dz 0]))
  (BS (HB (HK (xB (DA (KD aD) (BO M5 [Dz 1]) (DA Tq (BO M5 [Dz 0]) (DB (.int 1))))) (HR (xB (BO K4 [HC 1 [2] (Nk (Dz 1)) (.one 0) Ac (Gg oLe Ah (DB (.int 0)) (Dz 0) (BO M5 [Dz 1]))])))) (Hv (FG (DB (.Iv aC)))) KI)
  (Hv (FG (DW (DA (KD aC) (BO Cg [Dz 1]) (NR _a.CO (Dz 1))) (DA (KD aC) (NR _a.L8 (BO Ct [Dz 0,Dz 2,Dz 1])) (DB (.int 1))))))))
end _p
namespace _v
open PySem.W _l
def HD(ns:E1):Int:=ns.foldl (λa x=>a*100+x) 0
def NC(m:Nat)(ns:E1):Bool:=decide (la ns=m)&&ns.all λx=>decide (0<=x)&&decide (x<100)
def UN(h:NC (m+1) (x::ns)=aD):0<=x/\x<100/\NC m ns=aD:=by delta NC at *;dsimp[aX,decide_eq_true_eq,bB,kq] at *;apply⟨h.2.1.1,h.2.1.2,(),h.2.2⟩
def EF(a:Int)(ns:E1):Int:=ns.foldl (λa x=>a*100+x) a
def Tf:∀(ns:E1)(a:Int),∃p:Int,0<p/\∀b,EF b ns-EF a ns=(b-a)*p/\(p:Int)=100^la ns
 | [],a=>⟨1,∅,λb=>⟨by change b-a=(b-a)*1;lia,rfl⟩⟩
 | x::ns,a=>by let⟨p,hp,h⟩:=Tf ns (a*100+x);show⟨100*p,(),λb=>?_⟩;let⟨d,c⟩:=h (b*100+x);show⟨?_,by rw[bB,Int.pow_succ,c];lia⟩;change EF (b*100+x) ns-EF (a*100+x) ns=_;rw[d,show b*100+x-(a*100+x)=(b-a)*100 by lia,gY]
def Zak:∀{ns:E1},NC m ns=aD->0<=EF 0 ns/\EF 0 ns<100^la ns:=by
 induction m with
 | zero=>
  ext ns h;have:ns=[]:=by delta NC at h;dsimp[aX,decide_eq_true_eq] at h;apply bY.mp h.1
  subst this;apply⟨∅,∅⟩
 | succ m E2=>
  ext ns h
  cases ns with
  | nil=>delta NC at h;simp at h
  | cons x ns=>
   let⟨b,j,a⟩:=UN h;let⟨i,g⟩:=E2 a;let⟨p,hp,hs⟩:=Tf ns 0;let⟨s1,s2⟩:=hs x;let e:EF 0 (x::ns)=EF (0*100+x) ns:=rfl;rw[e,show(0:Int)*100+x=x by lia,bB];let f:(x-0)*p=x*p:=by rw[Int.sub_zero]
   let c:0<=x*p:=sr b ();let d:x*p<=99*p:=kj () ()
   lia
def QX(a:NC m ns=aD)(b:NC m ms=aD):(x<y->HD (x::ns)<HD (y::ms))/\(x=y->HD (x::ns)-HD (y::ms)=HD ns-HD ms):=by
 let⟨p,hp,hs⟩:=Tf ns 0;let⟨q,l,e⟩:=Tf ms 0;let l1:ns.length=m:=by delta NC at a;dsimp[aX,decide_eq_true_eq] at a;apply a.1
 let l2:ms.length=m:=by delta NC at b;dsimp[aX,decide_eq_true_eq] at b;apply b.1
 let⟨i,o⟩:=Zak a;let⟨r,KC⟩:=Zak b;let⟨s1,s2⟩:=hs x;let⟨f,d⟩:=e y;let c:q=p:=by rw[d,s2,l1,l2]
 subst c;let j:HD (x::ns)=EF x ns:=by change EF (0*100+x) ns=_;rw[show(0:Int)*100+x=x by lia]
 let k:HD (y::ms)=EF y ms:=by change EF (0*100+y) ms=_;rw[show(0:Int)*100+y=y by lia]
 let n:HD ns=EF 0 ns:=rfl;let g:HD ms=EF 0 ms:=rfl;rw[Int.sub_zero] at s1 f;show⟨λh=>?_,λh=>by subst h;lia⟩;have:x*q+q<=y*q:=by let:=kj (show x+1<=y by lia) (show 0<=q by lia);rw[me] at this;lia
 lia
def a5:∀{m:Nat}{ns ms:E1},NC m ns=aD->NC m ms=aD->HD ns=HD ms->ns=ms
 | 0,ns,ms,MH,ID,_=>by delta NC at MH ID;dsimp[aX,decide_eq_true_eq] at MH ID;rw[bY.mp MH.1,bY.mp ID.1]
 | m+1,[],_,MH,_,_=>by delta NC at MH;simp at MH
 | m+1,_::_,[],_,ID,_=>by delta NC at ID;simp at ID
 | m+1,x::ns,y::ms,MH,ID,e=>by
  let⟨j,k,b⟩:=UN MH;let⟨l,i,c⟩:=UN ID;let⟨d,f⟩:=QX (x:=x) (y:=y) b c;let⟨g,_⟩:=QX (x:=y) (y:=x) c b
  let a:x=y:=by
   rcases rH x y with h | h | h
   ·let:=d h;lia
   ·apply h
   ·let:=g h;lia
  let:=f a;rw[a,a5 b c ()]
def Li(l:Iz):List (List Int):=l.mergeSort λa b=>decide (HD a<=HD b)
def VN(l:Iz):(Li l).Perm l:=p0 l _
def Z5(l:Iz):(Li l).Pairwise λa b=>HD a<=HD b:=by let:=nP (le:=λa b:List Int=>decide (HD a<=HD b)) (λa b c e d=>by dsimp[decide_eq_true_eq] at *;lia) (λa b=>by dsimp[ig,decide_eq_true_eq];lia) l;apply this.imp λh=>of_decide_eq_true h
def Zal(ok:∀p∈l,NC n p=aD)(hp:m.Perm l)(hs:m.Pairwise λa b=>HD a<=HD b):m=Li l:=
 mz (λa b c d f e=>a5 (ok a (hp.mem_iff.mp c)) (ok b ((VN l).mem_iff.mp d)) ()) hs (Z5 l) (hp.trans (VN l).symm)
def LC(h:b7)(b:aM)(ns:E1):Prop:=∃IS:List aG,jI IS ns/\sL h b IS.toArray
def LC.keep(x:LC h b p)(k:∀o,h.get? b=aA o->h'.get? b=aA o):LC h' b p:=by let⟨t,u,o,e,c⟩:=x;apply⟨t,u,o,k o e,c⟩
section
variable {prog:bC}{w:bU}{A:bX}{E:IE}{s:aN}
def yS:∀{m i:Nat}{vs ws:E4}{ns ms:E1},jI vs ns->jI ws ms->NC m ns=aD->NC m ms=aD->Q (decide (HD ns<HD ms)) s->KatLex prog w A aD aC Q (vs.zip ws) i s
 | 0,i,vs,ws,ns,ms,IU,hw,MH,ID,h=>by
  let a:ns=[]:=by delta NC at MH;dsimp[aX,decide_eq_true_eq] at MH;apply bY.mp MH.1
  let f:ms=[]:=by delta NC at ID;dsimp[aX,decide_eq_true_eq] at ID;apply bY.mp ID.1
  subst a f;cases IU;cases hw;apply kat_nil h
 | m+1,i,_,_,_,_,.nil,_,MH,_,_=>by delta NC at MH;simp at MH
 | m+1,i,_,_,_,_,.cons _ _ _,.nil,_,ID,_=>by delta NC at ID;simp at ID
 | m+1,i,_,_,_,_,.cons (ns:=ns) x t IU,.cons (ns:=ms) y u hw,MH,ID,h=>by
  let⟨k,l,b⟩:=UN MH;let⟨n,j,c⟩:=UN ID;let⟨d,e⟩:=QX (x:=x) (y:=y) b c;let⟨g,_⟩:=QX (x:=y) (y:=x) c b;rw[gA];show kat_cons (wpAny_eqBool_int (kat_go (λa=>kat_yes (yS IU hw b c ?_)) λa=>kat_no ?_))
  ·let a:x=y:=by simpa using a
   let:=e a;rw[show decide (HD ns<HD ms)=decide (HD (x::ns)<HD (y::ms)) from decide_eq_decide.mpr ()];apply h
  ·let a:x≠y:=by simpa using a
   have:decide (HD (x::ns)<HD (y::ms))=decide (x<y):=decide_eq_decide.mpr ⟨λz=>by
    rcases rH x y with q | q | q
    ·apply q
    ·apply absurd q a
    ·let:=g q;lia,d⟩
   rw[this] at h
   cases i with
   | zero=>apply oneLt_int h
   | succ i=>apply kat_one _ _ (lt_int h)
def Zey(d:LC s.heap x p)(i:LC s.heap y q)(b:NC m p=aD)(c:NC m q=aD)(h:Q (decide (HD p<HD q)) s) :
  ao (model prog w) A (keyLt' (tuples' aD) (.ref x) (.ref y)) Q E s:=by
 let⟨t,it,n,f,o,IA,j⟩:=d;let⟨t',a,r,g,l,v,k⟩:=i;let l1:=it.length;let l2:=a.length;let u:p.length=m:=by delta NC at b;dsimp[aX,decide_eq_true_eq] at b;apply b.1
 let o2:q.length=m:=by delta NC at c;dsimp[aX,decide_eq_true_eq] at c;apply c.1
 show kat_lt f j g k ?_;let e:decide (t.toArray.size<t'.toArray.size)=aC:=decide_eq_false (by rw[aU,aU];lia);rw[e];apply yS it a b c h
def wh:∀{bs:Gc}{ps:Iz},(∀(i:Nat)(b:aM)(p:E1),bs[i]?=aA b->ps[i]?=aA p->LC s.heap b p)->(∀p∈ps,NC (m+1) p=aD)->la bs=la ps->∃fs:List aG,KatTups s.heap (bs.map bp) fs/\fs.length=la bs/\∀v∈fs,∃n t,v = .int n t
 | [],[],_,_,_=>⟨[],KatTups.nil,rfl,⋯⟩
 | b::bs,p::ps,h,Fu,Fg=>by
  let⟨fs,u,l,g⟩:=wh (bs:=bs) (ps:=ps) (λi f w r j=>h (i+1) f w (~~~r) (~~~j)) (λq k=>Fu q (by simp[k])) (~~~Fg);let⟨y,it,o,e,c,n,d⟩:=h 0 b p rfl rfl
  cases it with
  | nil=>have:=Fu [] ⋯;delta NC at this;simp at this
  | cons x t it=>
   show⟨.int x t::fs,KatTups.cons e c d rfl u,by simp[l],λv a=>?_⟩;rcases aW.mp a with rfl | a
   ·apply⟨_,_,rfl⟩
   ·apply g v a
def Wq{d:aM}{o:fH}{ep:Nat}{bs:Gc}{ps:Iz}{Q:IE}(Fu:s.heap.get? d=aA o)(P:o.cls = .type "list")(U:o.data = .seq (bs.map bp).toArray ep)
  (G:la bs=la ps) (H:la ps<64) (BH:∀(i:Nat)(b:aM)(p:E1),bs[i]?=aA b->ps[i]?=aA p->LC s.heap b p) (f:∀p∈ps,NC (m+1) p=aD) (M:ps.Nodup)
  (h:∀(D:aM)(g h':b7)(p:N_)(e:Nat),(∀b o,s.heap.get? b=aA o->g.get? b=aA o)->g.objs.size<=D->(∀b o,g.get? b=aA o->h'.get? b=aA o)->h'.get? D=aA (fF "list" (jX (p.toList.map λi=>(bs.map bp).getD i fQ)) e)->
   Pm (la ps) p->DZ (λi=>HD (ps.getD i [])) p (la ps)->Q (.ref D) {s with heap:=h'}) :
  ao (model prog w) A (call (.builtin "sorted") [.ref d]) Q E s:=by
 show j4 rj qv qw (qx _) ?_;show aE (aJ ?_);show aE (wpAny_collect_seq d (.inl rfl) Fu P U (λg I=>?_) (by rw[aU,aK,G,dF];lia));show aE (ku ?_ (by rw[aK,G,dF];lia));let B:(g.push (fF "list" (bs.map bp).toArray 0)).get? g.objs.size=aA (fF "list" (bs.map bp).toArray 0):=aV _ rfl
 let y:∀h':b7,(∀b o,b≠g.objs.size->(g.push (fF "list" (bs.map bp).toArray 0)).get? b=aA o->h'.get? b=aA o)->∀(i:Nat)(b:aM)(p:E1),bs[i]?=aA b->ps[i]?=aA p->LC h' b p:=λh' k i b p z F=>
  (BH i b p z F).keep λo e=>k b o (ay (aT (I b o e))) (aF _ (I b o e))
 let c:(bs.map bp).length=la ps:=by rw[aK,G]
 let a:∀i,i<la ps->ps[i]?=aA (ps.getD i []):=λi l=>by simp[l]
 let u:∀i,i<la ps->∃b,bs[i]?=aA b/\(bs.map bp).getD i fQ = .ref b:=λi l=>⟨bs[i]'(),by simp[show i<la bs by lia],by simp[show i<la bs by lia]⟩;show aE (b9 (cF pE ⟨_,B,rfl⟩ oW ?body (pH _)))
 case body=>
  show xQ (r:=λi=>HD (ps.getD i [])) (κ:=tuples' aD) B (by rw[c];apply H) (λi j l x e=>?_) (λID h' k Q Z=>?_) (λh' k i j l x C W=>?_) λp hp N=>⟨_,rfl,?_⟩
  ·rw[c] at l x;let z:=a i l;let F:=a j x;let:=a5 (f _ (aw z)) (f _ (aw F)) e;rw[this] at z;let⟨S,J⟩:=aS.mp z;let⟨h2',L⟩:=aS.mp F;apply(jV M).mp (J.trans L.symm)
  ·let⟨fs,f1,f2,X⟩:=wh (s:={s with heap:=h'}) (y h' k) f G;apply kat_kind (T:=.type "int") f1 () (λv R=>by let⟨n,t,rfl⟩:=X v R;apply .now) rfl Z
  ·rw[c] at l x;let⟨KC,z,g1⟩:=u i l;let⟨O,F,Y⟩:=u j x;delta kas_ask;rw[g1,Y];apply Zey (y h' k i KC _ z (a i l)) (y h' k j O _ F (a j x)) (f _ (aw (a i l))) (f _ (aw (a j x))) W
  ·rw[c] at hp N;let⟨e,he⟩:=sortedHeap_at B;show aJ ⟨_,rfl,h g.objs.size g _ p e I (aZ _) (λb o q=>?_) he hp N⟩;rw[sortedHeap_old (ay (aT q)) (by rw[qK];apply eY (aT q))];apply aF _ q
end
structure uw(H:Hp)(bs:Gc)(ps:Iz):Prop where
 len:la bs=la ps
 at':∀(i:Nat)(b:aM)(p:E1),bs[i]?=aA b->ps[i]?=aA p->H b=aA (.tup (p.map V.int))
def JX(K:aH):List V->Hp->IG->Prop:=λxs H Q=>∃(d:aM) (bs:Gc) (ps:Iz) (m:Nat),xs=[.ref d]/\BZ K H d (bs.map V.ref)/\uw H bs ps/\(∀p∈ps,NC (m+1) p=aD)/\la ps<64/\ps.Nodup/\
 ∀(l:aM)(cs:Gc),H l=aB->uw H cs (Li ps)->Q (.ref l) (upd H l (.lst (cs.map V.ref)))
def Zmf(ok:FI P w H h)(e:H b=aA (.tup (p.map V.int))):LC h b p:=by let⟨_,a,r,q⟩:=(ok b _ e);apply⟨a,Vt r,q⟩
def RL:∀{bs:Gc}{us:E4},Bj (bs.map V.ref) us->us=bs.map bp
 | [],_,.nil=>rfl
 | b::bs,_,.cons h t=>by rw[RL t];cases h;rfl
def Xh{X:Cx}:Ag X (.builtin "sorted") (JX X.K):=by
 ext Z s U H xs us Q I r h;let⟨d,bs,ps,m,rfl,E,v,l,L,C,q⟩:=h;let⟨u,rfl,G⟩:=W9 r;cases G;let⟨IS,P,pl,Y⟩:=I.list E;let⟨o,O,N,n,F⟩:=pl.isList;let:=RL P;subst this;show Wq O N F v.len L (λi b p f k=>Zmf I.Bh (v.at' i b p f k)) l C λD R S p e f1 z J T hp W=>?_;let A:=I.kept (t':=s.toks) f1;let' a:=p.toList.map λi=>bs.getD i 0;let' t:=p.toList.map λi=>ps.getD i [];let g:=Zgs hp;let lx:=v.len
 let x:=Zal l (bl hp) (by
  rw[j6];ext i j B c y;dsimp[t,aK,bJ,hp.E9] at B c;let:=W i j y c;dsimp[t,iO];rw[YJ,YJ] at this;dsimp[hp.E9,B,c,dY] at this;apply Int.le_of_lt this)
 let w:uw H a (Li ps):=by
  rw[<-x];show⟨by simp[a,t],λi b q f k=>?_⟩;dsimp[a,t,af] at f k
  cases IM:p.toList[i]? with
  | none=>rw[IM] at f;cases f
  | some j=>
   rw[IM] at f k;let c:=g j (aw IM);show v.at' j b q ?_ ?_
   ·rw[<-f];simp[show j<bs.length by lia]
   ·rw[<-k];simp[c]
 let M:(p.toList.map λi=>(bs.map bp).getD i fQ)=a.map bp:=by rw[bR];show az λj c=>?_;let:=g j c;change _=bp (bs.getD j 0);rw[ec bp bs 0 ()]
 show⟨.ref D,upd H D (.lst (a.map V.ref)),A.laid J z (⟨?_,a.map bp,e,Uy a,?_⟩),rfl,q D a (A.Bh.fresh z) w⟩
 ·dsimp[a,aK,bJ,hp.E9];rw[dF];lia
 ·rw[<-M];apply T
def Ce:List PV->Option (List (List Int))
 | []=>aA []
 | .tup l::r=>(F2 l).bind λns=>(Ce r).map (ns::·)
 | _=>aB
def Qb{l:List PV}:∀{ps:Iz},Ce l=aA ps->l=ps.map λp=>.tup (iL p):=by
 induction l with
 | nil=>ext ps h;cases h;rfl
 | cons x r E2=>
  ext ps h
  cases x with
  | tup l=>
   let⟨ns,c,b⟩:=Zc (show(F2 l).bind _=_ from h);let⟨e,d,a⟩:=map_some b;subst a;rw[aa,<-E2 d,Z9 c]
  | _=>cases h
def VP:∀ps:List (List Int),Ce (ps.map λp=>.tup (iL p))=aA ps
 | []=>rfl
 | p::ps=>by rw[aa];change(F2 (iL p)).bind _=_;rw[Yl,aY,VP ps];rfl
def LM:List PV->Option PV
 | [.lst l]=>(Ce l).bind λps=>if ps.length<64/\ps.Nodup/\1<=(ps.headD []).length/\ps.all (NC (ps.headD []).length)=aD then aA (.lst ((Li ps).map λp=>.tup (iL p))) else if ps=[] then aA (.lst []) else aB
 | _=>aB
def eP{K:aH}{H:Hp}:∀{cs:Gc}{MQ:Iz},uw H cs MQ->KA K H (MQ.map λp=>.tup (iL p)) (cs.map V.ref) []
 | [],[],_=>by simp[KA]
 | [],_::_,h=>by let:=h.len;simp at this
 | _::_,[],h=>by let:=h.len;simp at this
 | c::cs,q::MQ,h=>by let f:=h.at' 0 c q rfl rfl;let d:uw H cs MQ:=⟨by let:=h.len;simpa using this,λi b p a e=>h.at' (i+1) b p (~~~a) (~~~e)⟩;rw[aa,aa];delta KA;show⟨_,_,[],[],rfl,?_,eP d,rfl⟩;delta Is;apply⟨c,_,rfl,f,KA.ofInts _⟩
def VM{K:aH}{H:Hp}:∀{MQ:Iz}{xs:List V}{Ir:Gc},KA K H (MQ.map λp=>.tup (iL p)) xs Ir->∃d:List aM,xs=d.map V.ref/\uw H d MQ
 | [],xs,Ir,h=>by dsimp[kJ,KA] at h;apply⟨[],h.1,rfl,λi b p e=>by simp at e⟩
 | q::MQ,xs,Ir,h=>by
  rw[aa] at h;delta KA at h;let⟨x,r,f1,l,rfl,j,g,_⟩:=h;let⟨d,rfl,f⟩:=VM g;let⟨p,ys,rfl,hp,k⟩:=j.b_;let⟨rfl,rfl⟩:=k.iL;show⟨p::d,rfl,by simp[f.len],λi b z c a=>?_⟩
  match i,c,a with
  | 0,c,a=>
   simp at c a;subst c a;apply hp
  | i+1,c,a=>apply f.at' i b z (~~~c) (~~~a)
def uw.upd(h:uw H cs MQ)(d:H l=aB)(o:HO):uw (upd H l o) cs MQ:=
 ⟨h.len,λi b p a c=>by
  let:=h.at' i b p a c;rw[a0 (Zh this d)];apply this⟩
def Zmg(a:uw H cs (Li [])):uw H cs []:=by
 let b:Li []=[]:=by simp[Li]
 rw[b] at a;apply a
def XN{K:aH}:Gf K (JX K) LM:=λH vs ls l u h e Q k=>by
 delta LM at e;split at e
 ·rename_i m;let⟨ps,j,c⟩:=Zc e;let g:=Qb j;subst g;let⟨v,rfl,i⟩:=h.cb;let⟨p,xs,t,rfl,hp,s,_⟩:=i.lst_inv;let⟨bs,rfl,b⟩:=VM s;split at c
  ·rename_i d;cases c;show⟨p,bs,ps,(ps.headD []).length-1,rfl,.inl (.inl hp),b,λq a=>?_,d.1,d.2.1,λq o a b=>k _ _ [q] (MX.new a _) (Is.lst a_ (eP (b.upd a _))) ⋯ λr f=>?_⟩
   ·rw[show(ps.headD []).length-1+1=(ps.headD []).length by lia];apply bK.mp d.2.2.2 q a
   ·rw[aO.mp f];apply⟨a,by rw[a_];apply cE⟩
  ·split at c
   ·rename_i n;cases c;subst n;show⟨p,bs,[],0,rfl,.inl (.inl hp),b,λq a=>by simp at a,⋯,⋯,λq o a b=>k _ _ [q] (MX.new a _) (Is.lst a_ (eP ((Zmg b).upd a _))) ⋯ λr f=>?_⟩;rw[aO.mp f];apply⟨a,by rw[a_];apply cE⟩
   ·cases c
 ·cases e
end _v
namespace _z
open _l _v
def GR(K:aH)(fy:XF)(E:Kp):TE:=λU H _=>∃s n l,c7 K (λ_=>False) H s U/\fy s=aA (n,l)/\CC K E H n l
def AS(X:Cx)(E:Kp)(e:bS)(fy:XF):Prop:=DC X e (GR X.K fy E)
section
variable {X:Cx}{O W:Iw}{E:Kp}{k n:Nat}{x:bH}{ps:Kn}{R:List PV->Option (bH×PV)}{e:bS}{Fc:Fj}{fs:List XE}{p cp pos:gy}{fy:XF}
def Yi(W:qb X.prog X.w X.K X.mg X.base x ps (HJ X.K R n) k)(hr:MN k X.A)(IL:Gl X x)(Ff:Na X.Hb (e::Fc) fs)(P:Gq X E)(Fm:la fs=n|>On)
  (A:(x==("__debug__" : bH))=aC|>Op) (he:aL (e::Fc) X.env=(aC,eval e X.env)::aL Fc X.env|>On) (w:(cQ cp (aL Fc X.env)).any (·.1)=aC|>On) :
  AS X E (.Call (.Name x p) (e::Fc) [] cp) (JQ R fs):=by
 intro r s U H Q I ⟨Fv,m,lv,env,Y,q⟩;let⟨ls,G,IM⟩:=Zc Y;let⟨fa,fd,l,t,y,F⟩:=W.ex;show cS (Wz I IL l ?_ A);show jy (h₀:=X.base) I.ok.mod.aaf t ?_ he w;show bQ (Ff cp r s U H (λvs a=>MX H a/\∃h,KA X.K a ls vs h) (I.Kr _) ⟨λ_=>False,Fv,ls,λ_ z=>z.elim,env,G,λvs a h s1 i _=>⟨s1,h,i⟩⟩) (λj s1 ⟨vs,a,b,D,T,h,i⟩=>?_) λ_ _ z=>z.elim;let b:Inv X r U a s1:=b.MS;let g:vs.length=n:=by rw[i.len,X4 G,Fm]
 let d:HJ X.K R n vs a (λ_ _=>False) E:=⟨g,ls,h,m,lv,i,IM,λC Z S u z L M o a1 a2 N a4=>q C Z S u z L M (T.trans o) a1 a2 N a4⟩;let O:(j++[]).length=la ps:=by rw[ck,<-D.length,g];let:=F.len _ _ _ _ d;lia
 let c:=y s1 j b.Fs O;rw[ck] at c;show⟨b.Fs,iT (fU (F.run X.A X.stack s1 a ⟨j,[]⟩ j vs _ _ hr b.aas c D d) λB J f=>?_)⟩
 cases B with
 | ok Dd=>
  cases Dd with
  | ret u=>let⟨_,_,_,_,_,_,_,z⟩:=f;apply z.elim
  | next=>apply cR f
  | brk=>apply cR f
  | cont=>apply cR f
 | error v=>apply Zeh P (λ_ _ _ z=>z) r U a s1 v J b f
def AS.pi(h:AS X E e fy):Aa X IC e (λU H _=>∃s n l,c7 X.K (λ_=>False) H s U/\fy s=aA (n,l)/\CC X.K E H n l):=λa s U H R I q=>
 bQ (h a s U H (λ_ _=>False) I q) (λv s1 ⟨_,_,_,_,z⟩=>z.elim) λ_ _ z=>z
def Oh(own fr:Kn)(f:Iw){c g a:bS}{d:Fj}{b:jd}(h:AS X E a fy)(S:HZ X.N X.env.scope b own fr f=aD)(hs:(∀x,cY a X.env x=pure x)|>Pi) :
  AS X E (.ListComp c [⟨g,a,d,0⟩] b pos) fy:=by
 ext e s U H Q I q;let S:=Rv S;show jm rfl hs (WV (S.aa1 I)) S.kind S.names (bQ (h e s U H (λ_ _=>False) I q) (λv s1 ⟨_,_,_,_,z⟩=>z.elim) λ_ _ z=>z)
def VI{a:bS}(e:Gl X "sorted")(d:X.mg "sorted" = aB)(h:AS X E a fy)(c:aL [a] X.env=(aC,eval a X.env)::aL [] X.env|>On)(b:(cQ cp (aL [] X.env)).any (·.1)=aC|>On) :
  AS X E (.Call (.Name "sorted" p) [a] [] cp) fy:=by
 ext f s U H Q I q;show cS (Yt I e d rfl ?_);show eM ?_ c b;apply bQ (ZA h Yc (hs:=c) cp f s U H (λ_ _=>False) I q) (λv s1 ⟨_,_,_,_,z⟩=>z.elim) λ_ _ z=>z
def yM(h:AS X E e fy):Ck X O E (.Return (aA e) pos) fy:=by intro f s U H D I ⟨t,bD,o,m,p,r,i,q⟩;show wpAny_Return_some (bQ (h f s U H (λ_ _=>False) I ⟨o,m,p,r.env,i,λC j d u z a b g n k c l=>q C j d u z a b (r.same.trans g) n k c l⟩) (λv s1 ⟨_,_,_,_,z⟩=>z.elim) λ_ _ z=>z)
end
def Zez{X:Cx}{O h a:Iw}{f g:XS}{st:cJ}{tw:L_}{hs:List kz}(B:DO X.Hb O h st f)(y:AA X hs tw (NW X.K O a g))(w:∀s o,f s=aA o->∃Kl,o = .IA Kl):AA X hs (st::tw) (NW X.K O (h++a) (BS f g)):=by
 intro n s U H D I ⟨m,bD,F,l,r,e,k⟩;let⟨G,p,e⟩:=Zc e;let⟨s1,rfl⟩:=w _ _ p;let i:∀j,j∉h++a->j∉h:=λj b z=>b (aj _ z);let c:∀j,j∉h++a->j∉a:=λj b z=>b (bA _ z);show iG (bQ (B n s U H {IA:=NW X.K O a g D,E7:=λ_ _=>False} (I.Kr _) ⟨m,bD,F,.IA s1,r,p,λd U1 J x v=>?_⟩) (λA s1 q=>?_) λ_ _ z=>z.elim)
 ·apply⟨m,d,s1,l,x,e,k.same (λj b=>v j (i j b)) c⟩
 ·cases A with
  | next=>
   let⟨E,t,C,q⟩:=q;apply y n s1 E t D C.MS q
  | ret u=>let⟨_,_,_,_,_,z⟩:=q;apply z.elim
  | brk=>let⟨_,_,_,z⟩:=q;apply z.elim
  | cont=>let⟨_,_,_,z⟩:=q;apply z.elim
section
variable {X:Cx}{O W:Iw}{k n i:Nat}{x cx nm:bH}{ps:Kn}{R:List PV->Option (bH×PV)}{e:bS}{Fc:Fj}{fs:List XE}{p cp ep np hp pos:gy}{b₀:cJ}{ka:L_}{f:XS}{Cb:aM}{tw:List kz}{wl:List PV}{ws:List V}
theorem μ(CX:∃f fd ts,X.mg x=aA (.ref f)/\eB X.K (.ref f)=aD/\Binds X.K fd ps ts/\FD X.prog X.w X.K X.mg X.base (BN X.prog X.w) k f fd ps (HJ X.K R n)/\Bj ws ts)(hw:∀H,KA X.K H wl ws [])(hr:MN k X.A)(IL:Gl X x)(Ff:Na X.Hb (e::Fc) fs)(IJ:X.ex=[])(hst:X.stack=X.env::X.outer)(hfr:X.env.frame=aA X.env.locals)
  (Fw:X.N.Nodup) (E5:X.N[i]?=aA nm) (MK:X.env.scope.names.lookup nm=aA .local) (hgc:Gl X cx) (hmc:X.mg cx=aA (.ref Cb)) (hB:fP X.K Cb "BaseException" = aD)
  (hR:∀ls m l,R ls=aA (m,l)->∃C,cB X.K bP m=aA (aA (.ref C))/\fP X.K C "BaseException" = aD/\AO X.K C Cb=aD)
  (hs:∀e,Ls (Cx.mark X e) O W (b₀::ka) f) (y:i∉O) (Fm:la fs+la wl=n) (hsw:iH (.Call (.Name x p) (e::Fc) [] cp) aB ep.line X.env=pure aC|>On)
  (v3:(x==("__debug__" : bH))=aC|>Op) (L:(cx==("__debug__" : bH))=aC|>Op) (he:aL (e::Fc) X.env=(aC,eval e X.env)::aL Fc X.env|>On) (zx:(cQ cp (aL Fc X.env)).any (·.1)=aC|>On) :
  AA X (.ExceptHandler (aA (.Name cx np)) (aA nm) (b₀::ka) hp::tw) [.Expr (.Call (.Name x p) (e::Fc) [] cp) ep] (NW X.K O (i::W) (Jt (λls=>R (ls++wl)) fs i f)):=by
 intro Iu s U H D I ⟨H0,bD,Fv,out,r,N,ok⟩;let⟨ls,e2,N⟩:=Zc N;let⟨⟨m,lv⟩,IM,N⟩:=Zc N;let⟨o1,e4,rfl⟩:=map_some N;let⟨C,Y,hC,IF⟩:=hR _ m lv IM;let⟨fa,fd,ts,hmx,hkp,hbd,F,vw⟩:=CX;show iG (wpAny_Expr_any ?_ I.quiet hsw);show cS (Wz I IL hmx ?_ v3);show jy (h₀:=X.base) I.ok.mod.aaf hkp ?_ he zx;show bQ (Ff cp Iu s U H (λvs d=>MX H d/\∃Z,KA X.K d ls vs Z) (I.Kr _) ⟨λ_=>False,Fv,ls,λ_ z=>z.elim,r.env,e2,λvs d Z s1 i1 _=>⟨s1,Z,i1⟩⟩) (λus s1 ⟨vs,d,A,rv,sm,Z,i1⟩=>?_) λ_ _ z=>z.elim;let A:Inv X Iu U d s1:=A.MS;let ω:(vs++ws).length=n:=by rw[aq,i1.len,X4 e2,<-Fm,(hw d).len]
 let Q:HJ X.K R n (vs++ws) d (λ_ _=>False) (λS dd c=>S = .ref C/\∃E J u z,dd=aA E/\c E=aA (.Km J (.own E))/\NY J (Jn m) u/\RelV z u/\Is X.K c lv z []/\MX d c):=⟨ω,ls++wl,Z++[],m,lv,i1.append (hw d),IM,λC' E J u z c Fq sm a1 a2 a3 a4=>⟨by rw[Y] at Fq;cases Fq;rfl,E,J,u,z,rfl,a1,a2,a3,a4,sm⟩⟩;let wA:=Td rv vw;let Fg:(us++ts).length=la ps:=by rw[<-wA.length,ω];let:=F.len _ _ _ _ Q;lia
 let yt:=hbd s1 us A.Fs Fg;show⟨A.Fs,iT (fU (F.run X.A X.stack s1 d ⟨us,[]⟩ (us++ts) (vs++ws) _ _ hr A.aas yt wA Q) λres g MO=>?_)⟩
 cases res with
 | ok Dd=>
  cases Dd with
  | ret u=>let⟨_,_,_,_,_,_,_,z⟩:=MO;apply z.elim
  | next=>apply cR MO
  | brk=>apply cR MO
  | cont=>apply cR MO
 | error v=>
  let⟨ea,S,dd,c,rfl,hos,hgn,u,Bh,⟨T,xx,hH,zJ,he0,hT0⟩,rfl,E,J,MV,aah,rfl,KC,b2,b3,b4,sm1⟩:=MO;let I2:Inv X Iu U c g:=A.abi hos u Bh hgn λb IF=>nomatch IF;show Zof I2 IJ hst hfr xx hH zJ (tC A IJ he0) (tC A IJ hT0) Fw E5 MK hgc hmc hC hB IF (hs ea) (λoe MH ID h3=>?_) L;let zf:MX H (upd c ea (.Km oe (.own ea))):=λb o q=>by let MR:=sm1 b o (sm b o q);rw[a0 (Zh MR hH)];apply MR
  let M:MX c (upd c ea (.Km oe (.own ea))):=MX.new hH _;let iE:Is X.K (upd c ea (.Km oe (.own ea))) (.Bs m lv) (.ref ea) []:=by dsimp[Is];apply⟨⟨ea,oe,ea,C,E,J,MV,aah,rfl,a_,MH,Y,ID,h3,M _ _ KC,b2,b3,b4.mono M⟩,trivial⟩
  let hlt:i<Fv.length:=by let:=(aS.mp E5).1;rw[r.len,I.len];apply this
  let Hl:=(r.grow zf).set (i:=i) iE (λz=>absurd z y) (λk _ _ p hp=>by simp at hp);show⟨H0,_,_,o1,Hl,e4,?_⟩;let G:∀(t:L3)(w:NO)(a:Hp)(g:ZG),(∀j,j∉W->w[j]?=(U.set i (aA (V.ref ea)))[j]?/\NH (t j) (Ja bD Fv.length i [] j))->∀j,j∉i::W->(w.set i aB)[j]?=U[j]?/\NH (if j=i then [] else t j) (bD j):=λt w a g h j hj=>by let B:j≠i:=λz=>hj (by rw[z];apply .head _);let⟨a1,a2⟩:=h j λz=>hj (.tail _ z);rw[dW (bN B)] at a1 ⊢;rw[Z0 B] at a2;rw[Fb B];apply⟨a1,a2⟩
  cases o1 with
  | IA g=>apply λt w a P k'=>ok _ _ _ (P9 y P) (G t w a g k')
  | MM g=>apply λt w a P k'=>ok _ _ _ (P9 y P) (G t w a g k')
  | Bi g=>apply λt w a P k'=>ok _ _ _ (P9 y P) (G t w a g k')
  | E7 l=>apply ok
variable {uG:bH}{C:aM}
def Zoj(Q:Q3 uG X.prog X.w X.K X.mg X.base C Cb)(z:qb X.prog X.w X.K X.mg X.base x ps (HJ X.K R n) k)(s:∀ls m l,R ls=aA (m,l)->m=uG)(G:MN k X.A)(F:Gl X x)(D:Na X.Hb (e::Fc) fs)(r:X.ex=[])(a:X.stack=X.env::X.outer)(d:X.env.frame=aA X.env.locals)
  (q:X.N.Nodup) (J:X.N[i]?=aA nm) (w:X.env.scope.names.lookup nm=aA .local) (o:Gl X "PurseError")
  (hs:∀e,Ls (Cx.mark X e) O W (b₀::ka) f) (b:i∉O) (E:fs.length=n|>On) (c:iH (.Call (.Name x p) (e::Fc) [] cp) aB ep.line X.env=pure aC|>On)
  (j:(x==("__debug__" : bH))=aC|>Op) (B:aL (e::Fc) X.env=(aC,eval e X.env)::aL Fc X.env|>On) (g:(cQ cp (aL Fc X.env)).any (·.1)=aC|>On) :
  AA X (.ExceptHandler (aA (.Name "PurseError" np)) (aA nm) (b₀::ka) hp::tw) [.Expr (.Call (.Name x p) (e::Fc) [] cp) ep] (NW X.K O (i::W) (Jt R fs i f)):=by
 let⟨t,v,A,y,u,I⟩:=z.ex
 let:=μ (wl:=[]) (ws:=[]) (hp:=hp) (tw:=tw) (np:=np) (p:=p) (cp:=cp) (ep:=ep) ⟨t,v,[],A,y,u,I,.nil⟩ (λH=>by simp[KA]) G F D r a d q J w o Q.χ Q.kb (λls m l h=>by
  obtain rfl:=s ls m l h;apply⟨C,Q.f.no,Q.f.Dd.Hi.kt,Q.f.Iv⟩) hs b E c j ∅ B g
 simpa using this
def Zmh(Q:Q3 uG X.prog X.w X.K X.mg X.base C Cb)(A:pb X.prog X.w X.K X.mg X.base x ps (HJ X.K R n) k dv)(s:∀ls m l,R ls=aA (m,l)->m=uG)(I:MN k X.A)(G:Gl X x)(E:Na X.Hb (e::Fc) fs)(r:X.ex=[])(a:X.stack=X.env::X.outer)(d:X.env.frame=aA X.env.locals)
  (q:X.N.Nodup) (L:X.N[i]?=aA nm) (y:X.env.scope.names.lookup nm=aA .local) (o:Gl X "PurseError")
  (hs:∀e,Ls (Cx.mark X e) O W (b₀::ka) f) (b:i∉O) (F:fs.length+1=n|>On) (c:iH (.Call (.Name x p) (e::Fc) [] cp) aB ep.line X.env=pure aC|>On)
  (j:(x==("__debug__" : bH))=aC|>Op) (D:aL (e::Fc) X.env=(aC,eval e X.env)::aL Fc X.env|>On) (g:(cQ cp (aL Fc X.env)).any (·.1)=aC|>On) :
  AA X (.ExceptHandler (aA (.Name "PurseError" np)) (aA nm) (b₀::ka) hp::tw) [.Expr (.Call (.Name x p) (e::Fc) [] cp) ep] (NW X.K O (i::W) (Jt (λls=>R (ls++[.int dv])) fs i f)):=by
 let⟨u,w,t,B,z,v,J⟩:=A.ex
 apply μ (wl:=[.int dv]) (ws:=[.int dv]) ⟨u,w,_,B,z,v,J,.cons ⟨t,rfl⟩ .nil⟩ (λH=>KA.one (Is.int _)) I G E r a d q L y o Q.χ Q.kb (λls m l h=>by
  obtain rfl:=s ls m l h;apply⟨C,Q.f.no,Q.f.Dd.Hi.kt,Q.f.Iv⟩) hs b F c j ∅ D g
end
end _z
namespace _h
inductive k6(t:eN):Nat->jS->Prop
 | here:t.slot p.j = .empty->p.dummy=aB->k6 t n p
 | step:p.dummy=aB->k6 t n (t.advance p)->k6 t (n+1) p
def k6.up(h:k6 t n p):∀m,n<=m->k6 t m p:=by
 induction h with
 | here a b=>apply λm _=>.here a b
 | step a b E2=>
  ext m c;obtain⟨k,rfl⟩:∃k,m=k+1:=⟨m-1,()⟩;apply .step a (E2 k ())
def La(mask:Nat):Nat->Nat×Nat->Nat×Nat
 | 0,z=>z
 | n+1,z=>La mask n (gX mask z.1 z.2)
def PC:dN mask i-i<=9:=by
 delta dN;split<;>lia
def Ze0(t:eN):∀(k m:Nat)(p:jS),p.dummy=aB->p.more=m->m<=9->t.slot (La t.mask (k+1) (p.i,p.perturb)).1 = .empty->k6 t (m+1+10*k) p:=by
 ext k
 induction k with
 | zero=>
  ext m
  induction m with
  | zero=>
   ext⟨j,e,i,c,d⟩ b a-h;simp only at b a;subst b a;apply .step rfl (.here h rfl)
  | succ m E2=>
   ext⟨j,e,i,c,d⟩ b a f h;simp only at b a;subst b a;show .step rfl (E2 _ rfl ?_ () ?_)
   ·simp[iN]
   ·simpa [iN] using h
 | succ k E2=>
  ext m
  induction m with
  | zero=>
   ext⟨j,e,i,c,d⟩ b a-h;simp only at b a;subst b a;show .step rfl ((E2 _ (t.advance ⟨j,0,i,c,aB⟩) rfl rfl PC h).up _ ?_);let:=PC (mask:=t.mask) (i:=(gX t.mask i c).1);change dN _ (gX t.mask i c).1-(gX t.mask i c).1+_+_<=_;generalize dN _ _-_=u at this ⊢
   lia
  | succ m im=>
   ext⟨j,e,i,c,d⟩ b a f h;simp only at b a;subst b a;show(k6.step rfl (im _ rfl ?_ () ?_)).up _ ()
   ·simp[iN]
   ·simpa [iN] using h
def Cf(m:Nat):Prop:=m=7\/m=31\/m=127
def Cp(m:Nat):Nat->Nat->Nat
 | 0,_=>0
 | n+1,i=>2^i ||| Cp m n ((i*5+1)%(m+1))
def Ze1:∀m∈[7,31,127],∀i∈aQ (m+1),Cp m (m+1) i=2^(m+1)-1:=by decide +kernel
def Zam:∀(n i j:Nat),(Cp m n i).testBit j=aD->∃k,k<n/\(La m k (i,0)).1=j
 | 0,_,_,h=>by simp[Cp] at h
 | n+1,i,j,h=>by
  dsimp[Cp,Nat.testBit_or,Nat.testBit_two_pow,ig,decide_eq_true_eq] at h;rcases h with h | h
  ·apply⟨0,(),h⟩
  ·let⟨k,b,a⟩:=Zam n _ j h;apply⟨k+1,(),by simpa [La,gX] using a⟩
def Zan(m:Nat):∀(a b:Nat)(z:Nat×Nat),La m (a+b) z=La m b (La m a z)
 | 0,b,z=>by simp[La]
 | a+1,b,z=>by rw[show a+1+b=(a+b)+1 by lia];apply Zan m a b _
def Zao(m:Nat):∀(a:Nat)(z:Nat×Nat),(La m a z).2=z.2/32^a/\(0<a->(La m a z).1<m+1)
 | 0,z=>by simp[La]
 | a+1,z=>by
  let⟨c,b⟩:=Zao m a (gX m z.1 z.2);show⟨?_,λ_=>?_⟩
  ·change(La m a _).2=_;rw[c];change z.2/32/32^a=_;rw[Nat.div_div_eq_div_mul,Nat.pow_succ']
  ·by_cases e:a=0
   ·subst e;apply qN _ ()
   ·apply b ()
def v_(a:Cf m)(hp:p<2^64)(h:j<=m):∃k,k<=m+13/\0<k/\(La m k (i,p)).1=j:=by
 let⟨f,d⟩:=Zao m 13 (i,p);let c:=d ∅;let e:(La m 13 (i,p)).2=0:=by rw[f];apply Nat.div_eq_of_lt (ar hp ∅)
 let b:=Ze1 m (by rcases a with rfl | rfl | rfl<;>simp) _ (av.mpr c);let⟨k,l,g⟩:=Zam (m+1) (La m 13 (i,p)).1 j (by rw[b,Nat.testBit_two_pow_sub_one,decide_eq_true_eq];lia);show⟨13+k,(),(),?_⟩;rw[Zan,<-g];congr 2;apply t6 rfl e
def xK(h:Int):dC h<2^64:=by
 delta dC;have:h%(2^64:Int)<2^64:=iY _ ∅
 lia
structure Tab(t:eN)(n:Nat):Prop where
 size:t.place.size=n
 tz:t.dummies = #[]
 rm:t.mask=7/\n<=4\/t.mask=31/\n<=18\/t.mask=127/\n<=76
def Tab.room(T:Tab t n):n<t.mask:=by
 let:=T.rm
 lia
def Tab.mask(T:Tab t n):Cf t.mask:=by
 let:=T.rm;delta Cf
 lia
def Ze2{l:Iw}(h:la l<m):∃j,j<m/\j∉l:=by
 show eO λz=>?_;let b:∀j∈aQ m,j∈l:=λj a=>eO λq=>z ⟨j,av.mp a,q⟩;let:=_v.nt gD b;rw[b8] at this
 lia
def Zap{t:eN}(a:t.dummies = #[])(h:j∉t.place.toList):t.slot j = .empty:=by
 delta jB;simp only;rw[Fb,Fb]
 ·delta fC;rw[a];simp
 ·ext q;show h ?_;let:=Array.mem_of_getElem? (eq_of_beq q);apply jO.mpr this
def Tab.near(T:Tab t n)(h:Int):k6 t (10*t.mask+130) (t.probeStart h):=by
 let⟨j,e,b⟩:=Ze2 (l:=t.place.toList) (m:=t.mask+1) (by rw[bJ,T.size];let:=T.room;lia);let⟨k,c,d,a⟩:=v_ (i:=dC h%(t.mask+1)) T.mask (xK h) (show j<=t.mask by lia);obtain⟨k,rfl⟩:∃q,k=q+1:=⟨k-1,()⟩;show(Ze0 t k _ (t.probeStart h) rfl rfl PC ?_).up _ ?_
 ·change t.slot (La t.mask (k+1) (dC h%(t.mask+1),dC h)).1=_;rw[a];apply Zap T.tz b
 ·let:=PC (mask:=t.mask) (i:=dC h%(t.mask+1));change dN _ _-_+_+_<=_
  lia
def Tab.live(T:Tab t n)(h:t.slot j = .live i):i<n:=by
 delta jB at h;simp only at h;split at h
 ·rename_i q;injection h with e;let:=(cL.mp (eq_of_beq q)).1;rw[<-T.size]
  lia
 ·split at h<;>cases h
def Tab.xf(T:Tab t n):t.slot j≠.dummy:=by
 delta jB;simp only;split
 ·apply λh=>by cases h
 ·rw[Fb]
  ·apply λh=>by cases h
  ·delta fC;rw[T.tz];simp
def SA(T:Tab t n)(b:Fp)(h:Int):∀(m f:Nat)(p:jS),k6 t m p->m<f->
  (∃j,cZ t b h f p=aA (.empty j aB))\/∃j i q a,cZ t b h f p=aA (.candidate j i q)/\t.slot j = .live i/\a<m/\k6 t a q:=by
 ext m f p N
 induction N generalizing f with
 | @here n p e d=>
  ext l;obtain⟨f,rfl⟩:∃k,f=k+1:=⟨f-1,()⟩;apply .inl ⟨p.j,by dsimp[cZ,e,d]⟩
 | @step n p d N E2=>
  ext l;obtain⟨f,rfl⟩:∃k,f=k+1:=⟨f-1,()⟩
  cases e:t.slot p.j with
  | empty=>apply .inl ⟨p.j,by dsimp[cZ,e,d]⟩
  | dummy=>apply(T.xf e).elim
  | live i=>
   by_cases q:(b i==h)=aD
   ·apply .inr ⟨p.j,i,t.advance p,n,by dsimp[cZ,e,q,if_true],e,(),N⟩
   ·rcases E2 f () with⟨j,z⟩ | ⟨j,o,g,a,z,z1,z2,c⟩
    ·apply .inl ⟨j,by dsimp[cZ,e,q];apply z⟩
    ·apply .inr ⟨j,o,g,a,by dsimp[cZ,e,q];apply z,z1,(),c⟩
def eG{l:List (Option Nat)}(h:(l.filterMap id).length<la l):∃j:Nat,l[j]?=aA aB:=by
 induction l with
 | nil=>simp at h
 | cons x l E2=>
  cases x with
  | none=>apply⟨0,rfl⟩
  | some k=>
   let⟨j,e⟩:=E2 (~~~h);apply⟨j+1,by simpa using e⟩
def Oe:∀{l:List (Option Nat)}{j k:Nat},l[j]?=aA aB->((l.set j (aA k)).filterMap id).Perm (k::l.filterMap id)
 | [],_,_,h=>by simp at h
 | none::l,0,k,_=>⋯
 | some x::l,0,k,h=>by simp at h
 | none::l,j+1,k,h=>by simpa using Oe (l:=l) (k:=k) (~~~h)
 | some x::l,j+1,k,h=>by let:=(Oe (l:=l) (k:=k) (~~~h)).cons x;simpa using this.trans (se _ _ _)
def Ze3(a:Hx):∀(k f i p:Nat),k<f->a[(La m k (i,p)).1]?=aA aB->∃j,cz m a f i p=aA j/\a[j]?=aA aB:=by
 ext k
 induction k with
 | zero=>
  ext f i p c h;obtain⟨f,rfl⟩:∃q,f=q+1:=⟨f-1,()⟩
  cases e:(aQ (dN m i+1-i)).find? λk=>(a.getD (i+k) (aA 0)).isNone with
  | some q=>
   show⟨i+q,by dsimp[cz,e],?_⟩;let:=jt e;rw[gW] at this
   cases z:a[i+q]? with
   | none=>rw[z] at this;cases this
   | some y=>cases y<;>simp_all
  | none=>
   let:=iZ.mp e 0 (av.mpr (by delta dN;split<;>lia));rw[gW] at this;dsimp[La,lu] at h this;rw[h] at this;simp at this
 | succ k E2=>
  ext f i p c h;obtain⟨f,rfl⟩:∃q,f=q+1:=⟨f-1,()⟩
  cases e:(aQ (dN m i+1-i)).find? λk=>(a.getD (i+k) (aA 0)).isNone with
  | some q=>
   show⟨i+q,by dsimp[cz,e],?_⟩;let:=jt e;rw[gW] at this
   cases z:a[i+q]? with
   | none=>rw[z] at this;cases this
   | some y=>cases y<;>simp_all
  | none=>
   let⟨j,d,b⟩:=E2 f (gX m i p).1 (gX m i p).2 () h;apply⟨j,by dsimp[cz,e];apply d,b⟩
def wJ(b:Cf m):∀(hs:E1)(owner:Hx)(k:Nat),owner.size=m+1->(owner.toList.filterMap id).Perm (aQ k)->k+la hs<=m->
  ∃a,hs.foldl (λacc h=>do
   let(owner,k) <-acc;let j <-cz m owner (eJ m) (dC h%(m+1)) (dC h)
   pure (owner.setIfInBounds j (aA k),k+1)) (aA (owner,k))=aA (a,k+la hs)/\a.size=m+1/\(a.toList.filterMap id).Perm (aQ (k+la hs))
 | [],owner,k,MH,ID,_=>⟨owner,rfl,MH,ID⟩
 | h::hs,owner,k,MH,ID,h3=>by
  rw[bB] at h3;let⟨c,d⟩:=eG (l:=owner.toList) (by rw[ID.length_eq,b8,bJ];lia)
  let r:c<m+1:=by
   let:=(aS.mp d).1;rw[bJ] at this
   lia
  let⟨q,s,u,o⟩:=v_ (i:=dC h%(m+1)) b (xK h) (show c<=m by lia);let⟨j,f1,g⟩:=Ze3 (m:=m) owner q (eJ m) _ (dC h) (by delta eJ;lia) (by rw[o,<-dG];apply d);let t:=(cL.mp g).1
  let⟨a,f,p,n⟩:=wJ b hs (owner.setIfInBounds j (aA k)) (k+1) (~~~MH) (by
   rw[Array.toList_setIfInBounds];show(Oe (by rw[dG];apply g)).trans ?_;rw[lZ];apply(ID.cons k).trans (List.perm_append_comm (l₁:=[k]))) ()
  let e:k+1+la hs=k+(h::hs).length:=by rw[bB];lia
  rw[e] at f n;show⟨a,?_,p,n⟩;rw[gQ,<-f];congr 1;change(cz m owner (eJ m) (dC h%(m+1)) (dC h)).bind _=_;rw[f1];rfl
def Ze4(h:Cf m)(a:Array Int)(l:a.size<=m):∃t' order,ky m finger moves led pl a=aA (t',order)/\t'.mask=m/\t'.dummies = #[]/\t'.place.size=a.size/\order.toList.Perm (aQ a.size):=by
 let⟨b,f,k,c⟩:=wJ h a.toList (lX (m+1) aB) 0 ⋯ ⋯ (~~~l);rw[jW,bJ] at f c;let n:jM m a=aA b:=by delta jM;rw[<-qR];apply congrArg (Option.map (·.1)) f
 let d:((aQ (m+1)).filterMap λj=>(b.getD j aB).map (j,·)).map (·.2)=b.toList.filterMap id:=by
  have:b.toList=(aQ (m+1)).map λj=>b.getD j aB:=by
   apply((gC))
   ·simp[k]
   ·ext i g o;dsimp[iO,mR,gx];simp at g;simp[mQ,g]
  rw[this,qM,jz];congr 1;funext j;cases e:b.getD j aB<;>simp[Function.comp,e]
 show⟨_,_,by delta ky;rw[n];rfl,rfl,rfl,?_,?_⟩
 ·let:=congrArg fK d;rw[aK,c.length_eq,b8] at this;simpa using this
 ·apply d▸c
def xc{b:FE}{a:N_}(h:a.toList.Perm (aQ b.size)):(a.filterMap (b[·]?)).toList.Perm b.toList:=by
 rw[oJ];show(h.filterMap _).trans ?_
 have:(aQ b.size).map (b[·]?)=b.toList.map aA:=by
  apply((gC))
  ·simp
  ·ext i c d;simp at c;simp[c]
 let e:(aQ b.size).filterMap (b[·]?)=b.toList:=by let:=congrArg (List.filterMap id) this;rw[jz,jz] at this;simpa [ma] using this
 rw[e]
def Zaq(T:Tab t n)(a:Fp)(h:Int)(N:k6 t m p)(b:m<10*t.mask+150) :
  (∃j,t.probe a h p=aA (.empty j aB))\/∃j i q Bu,t.probe a h p=aA (.candidate j i q)/\t.slot j = .live i/\Bu<m/\k6 t Bu q:=
 SA T a h m _ p N (by delta eJ;lia)
def Tab.fits(T:Tab t n):t.fits n=aD:=by
 let:=T.room;let:=T.size;delta lC jn;rw[T.tz];simp
 lia
def Tab.way(T:Tab t n):t.gaveWay=aC:=by
 delta eN.gaveWay;rcases T.rm with h | h | h<;>rw[h.1]<;>rfl
section
variable {prog:bC}{w:bU}{A:bX}{E:IE}{s:aN}{κ:Type} [DecidableEq κ] {knd:KeyKind prog w κ}
def y8(x:fG knd h k b)(up:∀b o,h.get? b=aA o->h'.get? b=aA o):fG knd h' k b:=by let⟨a,e,n,d,c⟩:=x;apply⟨a,e,n,up _ _ d,c⟩
def T3{x:aM}(b:fG knd s.heap k x)(h:Q aC s):ao (model prog w) A (kX 8 (.ref x)) Q E s:=by
 let ty:=b.typeIs;let⟨o,l,n,d,j,c,f⟩:=b;delta kX;show aE (lh ty ?_);show aE (aJ ?_);dsimp[qE,dZ,if_false];show aE (dh d c ?_);show aE ?_;rw[<-qW];show nY _ (λtw r a=>r.1=aB/\a=s/\∀v∈tw,carriedByValue v=aD) _ ?_ ?_ _ _ ⟨rfl,rfl,f.byValue⟩
 ·ext v tw r a ⟨e,rfl,all⟩
  have:∀n,kX n v=pure aC:=λn=>by
   let:=all v ah;cases v<;>first | (cases this;done) | (delta kX;rfl)
  rw[this];show aE (aJ ?_);apply aJ ⟨rfl,rfl,λu z=>all u (aR _ z)⟩
 ·ext⟨i,g⟩ a ⟨e,rfl,_⟩;simp only at e;subst e;apply aJ h
def Zar{x:aM}(d:fG knd s.heap k x)(h:Q aC s){l:E4}(g:∀v∈l,∃b k',v = .ref b/\fG knd s.heap k' b):ao (model prog w) A (mf (.ref x) l) Q E s:=by
 delta mf;show aE ?_;show nY _ (λtw r c=>r.1=aB/\c=s/\∀v∈tw,∃b k',v = .ref b/\fG knd s.heap k' b) _ ?_ ?_ _ _ ⟨rfl,rfl,g⟩
 ·ext v tw r c ⟨e,rfl,all⟩;let⟨b,k',rfl,f⟩:=all v ah;let a:(∀v∈tw,∃b k',v = .ref b/\fG knd c.heap k' b):=λu z=>all u (aR _ z);simp only;split
  ·apply aJ ⟨rfl,rfl,a⟩
  ·show aE (og d ?_);dsimp[qE,dZ,if_false];show aE (og f ?_);dsimp[qE,dZ,if_false];show aE (T3 d ?_);dsimp[dZ,if_false];show aE (T3 f ?_);dsimp[dZ,if_false];apply aJ ⟨rfl,rfl,a⟩
 ·ext⟨j,i⟩ c ⟨e,rfl,_⟩;simp only at e;subst e;apply aJ h
def Zjg(c:Bool){x:aM}{l:E4}{m:tY SetFound}{Q:SetFound->aN->Prop}{u:Dg}(d:fG knd s.heap k x)(a:∀v∈l,∃b k',v = .ref b/\fG knd s.heap k' b)(h:ao (model prog w) A m Q E s) :
  ao (model prog w) A (if(!c)=aD then mf (.ref x) l >>= λb=>if b=aD then(unsupported u >>= λ(_:Unit)=>m) else m else m) Q E s:=by
 split
 ·apply aE (Zar d h a)
 ·apply h
def q5{Q:SetFound->aN->Prop}{a x:aM}{h:Int}{d:FE}(B:s.heap.get? a=aA o)(l:o.data = .set d ep t)(T:Tab t d.size)(u:∀e∈d.toList,∃b k',e.2 = .ref b/\fG knd s.heap k' b/\k'≠k)
  (p:fG knd s.heap k x) (U:A.units<fu) (H:∀j,Q (.free j aC) s) :
  ∀(f m:Nat)(st:Option jS),k6 t m (st.getD (t.probeStart h))->m<f->m<10*t.mask+150->ao (model prog w) A (setSearchFrom a (.ref x) h aD f st) Q E s:=by
 ext f
 induction f with
 | zero=>apply λm st _ F=>(Nat.not_lt_zero _ F).elim
 | succ f E2=>
  ext m st N W C;delta setSearchFrom;show aE (dw B l T.fits ?_);dsimp[T.way,dZ,if_false];let P:=λR=>Zaq T R h N C;generalize n:t.probe _ h (st.getD (t.probeStart h))=z;rcases P _ with⟨j,e⟩ | ⟨j,i,q,O,e,r,X,M⟩
  ·rw[n] at e;subst e;apply aJ (H j)
  ·rw[n] at e;subst e;let I:=T.live r;let⟨b,k',G,S,ne⟩:=u d[i] ⋯;let g:d[i]?=aA (d[i].1,.ref b):=by rw[dY I,<-G]
   let L:t.sameMemory t.moves t.mask=aA aD:=by simp[eN.sameMemory]
   dsimp[g];show Zjg _ p (λv D=>?_) (aE (b9 (wpAny_eqBool_tuple U S p (aE (dw B l T.fits ?_)))))
   ·let⟨y,J,rfl⟩:=a9.mp D;let⟨c,k2,z1,z2,_⟩:=u y (jO.mpr (Array.mem_of_mem_filter (jO.mp J)));apply⟨c,k2,z1,z2⟩
   ·dsimp[decide_eq_false ne,sX,dZ,if_false,L,if_true,r,g];show aE (wpAny_isSame_ref_self (aE (aJ ?_)));apply E2 O (aA q) M () ()
def Zas{x:aM}(c:fG knd s.heap k x)(h:∀b,Q b s):ao (model prog w) A (pO 8 (.ref x)) Q E s:=by
 let ty:=c.typeIs;let⟨o,p,n,g,m,d,i⟩:=c;delta pO;show aE (oQ ty F.slot_tuple_hash.lookup ?_);show aE (dh g d ?_);show aE ?_;dsimp[Option.getD_some];rw[<-qW];show nY _ (λtw r a=>r.1=aB/\a=s/\∀v∈tw,carriedByValue v=aD) _ ?_ ?_ _ _ ⟨rfl,rfl,i.byValue⟩
 ·ext v tw r a ⟨e,rfl,all⟩
  have:∀n,∃b,pO n v=pure b:=λn=>by
   let:=all v ah;cases v<;>first | (cases this;done) | (delta pO;apply⟨_,rfl⟩)
  let⟨b,f⟩:=this 7;rw[f];show aE (aJ ?_);cases b
  ·apply aJ (aJ (h _))
  ·apply aJ ⟨rfl,rfl,λu z=>all u (aR _ z)⟩
 ·ext⟨l,j⟩ a ⟨e,rfl,_⟩;simp only at e;subst e;apply aJ (h _)
def Of{a:Type}(xs:Array a)(p:Nat)(x:a):(cD xs p x).size=xs.size+1:=by
 delta cD;simp
 lia
def Ze5{a:Type}{xs:Array a}{x y:a}(h:y∈(cD xs p x).toList):y=x\/y∈xs.toList:=by
 delta cD at h;dsimp[fg,kM,lP,ag,aO] at h;rcases h with(h | h) | h
 ·apply .inr (gL (eD h))
 ·apply .inl h
 ·apply .inr (gL (eD h))
def GJ(knd:KeyKind prog w κ)(h₀ h:b7)(a:aM)(ks:List (List κ)):Prop:=
 ∃o Fc ep t,h.get? a=aA o/\o.ExactSet/\o.data = .set Fc ep t/\Tab t Fc.size/\Fc.size=la ks/\∀e∈Fc.toList,∃b k,e.2 = .ref b/\fG knd h₀ k b/\k∈ks
def Zat{Q:Unit->aN->Prop}{c:FE}(j:s.heap.get? a=aA o)(r:o.ExactSet)(d:o.data = .set c ep t)(l:t.fits c.size=aD)(p:wd=20/\c.size=5\/wd=76/\c.size=19)
  (h:∀es' t',es'.toList.Perm c.toList->Tab t' es'.size->Q .unit {s with heap:=s.heap.update a (kA es' t')}):ao (model prog w) A (setRelay a wd) Q E s:=by
 delta setRelay;show aE (dw j d l ?_)
 let hs:kB wd=32/\c.size=5\/kB wd=128/\c.size=19:=by
  rcases p with⟨rfl,e⟩ | ⟨rfl,e⟩
  ·apply .inl ⟨rfl,e⟩
  ·apply .inr ⟨rfl,e⟩
 let k:Cf (kB wd-1):=by delta Cf;lia
 let⟨t',b,n,m,q,g,i⟩:=Ze4 (finger:=t.finger) (moves:=t.movedTo (kB wd-1)) (led:=t.led) (pl:=t.plain) k (c.map (·.1)) (by rw[pI];lia);rw[pI] at g i;let f:=xc i
 let E9:(b.filterMap (c[·]?)).size=c.size:=by
  let:=f.length_eq
  rwa [bJ,bJ] at this
 simp only;rw[Fb (by rw[dF];lia)];show aE ?_;rw[show t.relaid (c.map (·.1)) wd=aA (t',b) from n];change ao _ _ (if((b.filterMap (c[·]?)).size != c.size)=aD then _ else _) _ _ _;rw[E9,Fb ⋯];show aJ (kU j d (h _ _ f ⟨by rw[g,E9],q,by rw[m];lia⟩) (by rw[E9,dF];lia))
def Zau{Q:Bool->aN->Prop}{a x:aM}{ks:List (List κ)}(f:Int)(up:∀b o,h₀.get? b=aA o->s.heap.get? b=aA o)(l:fG knd h₀ k x)(W:k∉ks)(Fg:la ks<70)(X:A.units<fu)(R:GJ knd h₀ s.heap a ks)
  (h:∀h',cu a s.heap h'->GJ knd h₀ h' a (ks++[k])->Q aD {s with heap:=h'}):ao (model prog w) A (rG a (.ref x) f) Q E s:=by
 let⟨o,d,ep,t,r,C,i,T,Z,J⟩:=R
 let m:∀(p:Nat)(h':b7)(es':FE)(g:Nat)(t':eN)(n:fH),h'.get? a=aA n->n.ExactSet->n.data = .set es' g t'->Tab t' es'.size->es'.toList.Perm (cD d p (f,.ref x)).toList->GJ knd h₀ h' a (ks++[k]):=by
  ext p h' es' g t' n U S P L y;show⟨n,es',g,t',U,S,P,L,?_,λe z=>?_⟩
  ·let:=y.length_eq;rw[bJ,bJ,Of] at this;rw[aq,bu]
   lia
  ·rcases Ze5 (y.mem_iff.mp z) with rfl | z
   ·apply⟨x,k,rfl,l,⋯⟩
   ·let⟨b,k',z1,z2,D⟩:=J e z;apply⟨b,k',z1,z2,by simp[D]⟩
 replace l:=y8 l up
 delta rG setAddHashedIn;show b9 (aE (dw r i T.fits ?_));let bs:byScan (.ref x) d=aC:=rfl;dsimp[bs,dZ,if_false];delta setSearch;show aE (q5 (k:=k) r i T (λe z=>?_) l X (λj=>?_) 100000 _ aB (T.near f) (by let:=T.rm;lia) ())
 ·let⟨b,k',z1,z2,D⟩:=J e z;apply⟨b,k',z1,y8 z2 up,λq=>W (q▸D)⟩
 show aE (dw r i T.fits ?_);simp only;let v:(t.put j).1.dummies = #[]:=by delta tW;simp only;rw[T.tz];rfl
 let ps:(t.put j).1.place.size=d.size+1:=by rw[<-T.size];apply Of _ _ _
 let G:(t.put j).1.mask=t.mask:=rfl;generalize t.put j=pj at v ps G
 let I:∀c:eN,c.mask=t.mask->c.place=pj.1.place->c.dummies=pj.1.dummies->
   ao (model prog w) A (storeSet a (cD d pj.2 (f,.ref x)) c >>= λ_=>if(!false&&c.tooFull)=aD then setRelay a (pN (d.size+1)) >>= λ_=>pure aD else pure aD) Q E s:=by
  ext c u Y O;rw[<-Y] at ps;rw[<-O] at v;let E9:=Of d pj.2 (f,bp x);let KC:=cU s.heap a (kA (cD d pj.2 (f,.ref x)) c);let B:(s.heap.update a (kA (cD d pj.2 (f,.ref x)) c)).get? a=aA (kA (cD d pj.2 (f,.ref x)) c o):=bZ _ r (by rw[pX _ _ i];rfl);let rm:=T.rm;let F:c.fill=d.size+1:=by delta jn;rw[ps,v];rfl
  rw[pX _ _ i] at B;show aE (kU r i ?_ (by rw[E9,dF];lia));by_cases q:c.tooFull=aD
  ·rw[Be (by rw[q];rfl)];dsimp[kh,F,u,decide_eq_true_eq] at q;show aE (Zat (s:={s with heap:=_}) B C rfl ?_ ?_ λes' t' y M=>?_)
   ·delta lC;rw[F,E9,ps,u];simp
    lia
   ·delta pN;rw[Fb (),E9]
    lia
   ·let N:=KC.trans (cU _ a (kA es' t'));let H:=bZ (kA es' t') B;rw[pX es' t' rfl] at H;apply aJ (h _ N (m pj.2 _ es' _ t' _ (H rfl) C rfl M y))
  ·rw[Fb (~~~q)];dsimp[kh,F,u,decide_eq_true_eq] at q;apply aJ (h _ KC (m pj.2 _ _ _ c _ B C rfl ⟨by rw[ps,E9],v,by rw[E9,u];lia⟩ (kR _)))
 split
 ·apply aE (Zas l λb=>I _ (by cases b<;>apply G) (by cases b<;>rfl) (by cases b<;>rfl))
 ·apply aE (aJ (I _ G rfl rfl))
end
open PySem.W _l _v _a
section
variable {prog:bC}{w:bU}{A:bX}{R:rP->aN->Prop}{I a:aM}{Ir wr:Gc}{G:Array lG->Array lG->Prop}{P:K_}{St:Nat->aN->Prop}{κ:Type} [DecidableEq κ] {knd:pf prog w κ}{ks:List (List κ)}{h₀:b7}
def iF(W:WalksS prog w A.in1 I Ir wr G (la ks) P St)(n:a∉Ir)(E:∀b∈a::wr,h₀.get? b=aB)(M:∀i k,ks[i]?=aA k->∃b,(∀v,P i v->v = .ref b)/\fG knd h₀ k b)(N:ks.Nodup)(S:la ks<=70)(F:A.units+1<fu) :
  ∀(m i:Nat)(s:aN),i+m=la ks->St i s->(∀b o,h₀.get? b=aA o->s.heap.get? b=aA o)->GJ knd h₀ s.heap a (ks.take i)->
   (∀d,Moved (a::wr) G s d->GJ knd h₀ d.heap a ks->R (.ok (.ret .none)) d)->
   gk (model prog w) A (.builtin "set.update.loop" ⟨[.ref a,.ref I],[]⟩) R s
 | 0,i,s,e,st,up,f,k=>by
  let p:i=la ks:=()
  subst p;let h:a∉wr:=λz=>n (W.sub _ z);rw[dQ] at f;show di eV ?_;rw[fO cV _];show aE (m:=jw (.ref I)) (W.done s _ _ st λd j=>?_);let⟨o,y,ep,t,J,f⟩:=f;apply aJ (k d (j.mono λb z=>aR _ z) ⟨o,y,ep,t,j.heap a o h J,f⟩)
 | m+1,i,s,e,st,up,f,k=>by
  let h:a∉wr:=λz=>n (W.sub _ z);let p:i<la ks:=()
  show di eV ?_;rw[fO cV _];show aE (m:=jw (.ref I)) (W.item i s _ _ () st λv d hp D j=>?_);let⟨b,T,O⟩:=M i ks[i] (aI p);cases T v hp;let g:∀b o,h₀.get? b=aA o->d.heap.get? b=aA o:=λc o z=>j.heap c o (λq=>by rw[E c (aR _ q)] at z;cases z) (up c o z);show aE (m:=holding [bp b] (setAdd a (.ref b))) (b9 ?_);delta setAdd;show b9 (aE (wpAny_pyHash_tuple F (y8 O g) ?_));let⟨o,y,ep,t,J,f⟩:=f
  let B:ks[i]∉ks.take i:=by
   ext z;let⟨q,Q,L⟩:=dJ z;rw[List.getElem_take] at L;rw[bz] at Q;let:=(jV N).mp L
   lia
  show Zau (s:={d with toks:=d.toks+(ks[i].length+1)}) _ g O B (by rw[bz];lia) F ⟨o,y,ep,t,j.heap a o h J,f⟩ λh' u l=>?_;let x:∀b o,h₀.get? b=aA o->h'.get? b=aA o:=λc o z=>by rw[u.2 c λq:c=a=>by rw[q,E a ah] at z;cases z];apply g c o z
  rw[<-fY p] at l;show aJ ⟨jC cV _,iF W n E M N S F m (i+1) _ () (W.frame _ d _ _ D (gZ _ _) λb z o e=>?_) x l λH C r=>?_⟩
  ·rw[u.2 b λq:b=a=>n (by rw[<-q];apply z)];apply e
  ·show k H (Moved.trans W.gtrans ((j.mono λb z=>aR _ z).then_heap (gZ _ _) λb o z e=>?_) C) r;rw[u.2 b λq:b=a=>z (by rw[q];apply ah)];apply e
end
section
variable {prog:bC}{w:bU}{A:bX}{E:IE}{s:aN}{κ:Type} [DecidableEq κ] {knd:pf prog w κ}{ks:List (List κ)}
def jg{a:M_}(hh:A.handled=aB)(Z:s.heap.IsList l a)(E5:∀(i:Nat)(k:List κ),ks[i]?=aA k->∃b,a[i]?=aA (bp b)/\fG knd s.heap k b)(q:a.size=la ks)(W:ks.Nodup)(n:la ks<=70)(Ft:A.units+20<fu)
  (h:∀(h':b7)(tk:Nat),GJ knd s.heap h' ⇑s ks->(∀b o,b<⇑s->s.heap.get? b=aA o->h'.get? b=aA o)->Q (.ref ⇑s) {s with heap:=h',toks:=tk}) :
  ao (model prog w) A (call (.type "set") [.ref l]) Q E s:=by
 let⟨c,Dx,J⟩:=F.called_set.mro;let aaw:=F.called_set.made;let x2:=F.called_set.sub;let x3:=F.called_set.notType;let x4:=F.called_set.canCreate;let x5:=F.typeCall_set_1 (.ref l);show iT (lV ?_);show aJ ⟨iV _ (by decide +kernel),di F.entry_type_call ?_⟩;rw[qU (o9 "set" [.ref l] []) rfl]
 repeat (any_goals (first | assumption | wp_step))
 show fU (Yn (.ref l) (E:=E) (Q:=λv f=>v = .ref ⇑s/\f={s with heap:=s.heap.push (Ae w)}) ⟨rfl,rfl⟩) λr f j=>?_
 cases r with
 | error e=>apply j
 | ok Dd=>
  cases Dd with
  | ret v=>
   let⟨rfl,rfl⟩:=j;let y:(s.heap.push (Ae w)).get? ⇑s=aA (Ae w):=aV _ rfl;let ty:tN {s with heap:=s.heap.push (Ae w)} (.ref ⇑s) "set":=⟨_,y,rfl⟩;let y1:=F.called_set.init.lookup;let y2:=F.called_set.init.bind (.ref ⇑s)
   repeat (any_goals (first | assumption | wp_step))
   show fU (fN (R:=wants (λr g=>r = .none/\∃h' tk,g={s with heap:=h',toks:=tk}/\GJ knd s.heap h' ⇑s ks/\∀b o,b<⇑s->s.heap.get? b=aA o->h'.get? b=aA o) E) F.called_set.init.plain F.entry_set_init (check_set_init_1 ty ?_)) λm g d=>?_
   ·let⟨Y,M,L,C,G⟩:=Z;let⟨IV,Dc,P,os⟩:=Y;simp only at L G;subst L G;let g4:(s.heap.push (Ae w)).get? l=aA {cls:=.type "list",dict:=Dc,data:=.seq a C,slots:=os}:=aF _ M;let B:(s.heap.push (Ae w)).IsList l a:=⟨_,g4,rfl,C,rfl⟩;let u1:=F.sub_list_set;let u2:=F.sub_list_frozenset;let u3:(jv "list"==jv "dict")=aC:=∅
    let u4:(s.heap.push (Ae w)).get? ⇑s=aA {cls:=.type "set",dict:=aB,data:=.set #[] 0 (.fresh 0 0 (Lq w))}:=y;delta km.«set.__init__» noKeywords lY;generalize x:mq=Aa
    wp_walk
    subst x;show mX B (aE (pC ?_));let D:l<⇑s:=aT M;let MO:A.in1.in1.in1.handled=aB:=by simp[hh]
    let ne:l≠(s.heap.push (Ae w)).objs.size:=by rw[cT];apply ay (eY D)
    let O:⇑s∉[(s.heap.push (Ae w)).objs.size,l]:=by rw[cT];dsimp[aW,cM,or_false,not_or];apply⟨ay (iK _),gG D⟩
    let ga:((s.heap.push (Ae w)).push {cls:=.type "list_iterator",data:=.fields #[.ref l,.int 0 0]}).get? ⇑s=aA (Ae w):=aF _ y;let I:=(Walks.list (prog:=prog) (w:=w) MO _ l ne a).toS;rw[q] at I;show iF (knd:=knd) (h₀:=s.heap) I O (λb z=>?_) (λi k e=>?_) W n (by change A.units+1+1+1<fu;lia) (la ks) 0 _ () ⟨⟨_,aV _ rfl,rfl,rfl⟩,B.push _⟩ (λb o e=>aF _ (aF _ e)) ?_ λN p z=>?_
    ·show fJ ?_;rw[cT] at z;dsimp[aW,cM,or_false] at z
     lia
    ·let⟨b,Ko,e2⟩:=E5 i k e;apply⟨b,λv IM=>bG (IM.symm.trans Ko),e2⟩
    ·apply⟨_,#[],0,_,ga,⟨rfl,rfl,rfl⟩,rfl,⟨rfl,rfl,.inl ⟨rfl,∅⟩⟩,rfl,λe he=>by simp at he⟩
    ·let⟨h',S,U,t,u⟩:=N;let X:S=s.gens:=p.gens;let ed:U=s.drawn:=p.drawn;let T:u=s.os:=p.os;subst X ed T;show aJ (aJ ⟨rfl,h',t,rfl,z,λb o H e=>?_⟩);show p.heap b o ?_ (aF _ (aF _ e));rw[cT];dsimp[aW,cM,or_false,not_or];apply⟨ay H,ay (eY H)⟩
   ·cases m with
    | error e=>apply d
    | ok f₂=>
     cases f₂ with
     | ret r=>
      let⟨rfl,h',tk,rfl,z1,z2⟩:=d
      repeat (any_goals (first | assumption | wp_step))
      apply h _ _ z1 z2
     | _=>apply d.elim
  | _=>apply j.elim
end
def Ic(K:aH)(MG:De):TE:=λU H Q=>MG U H λvs H1=>∃(p:aM) (bs:Gc) (ps:Iz),vs=[.ref p]/\BZ K H1 p (bs.map V.ref)/\uw H1 bs ps/\ps.Nodup/\la ps<=64/\Q (.int (la ps:Int)) H1
section
variable {X:Cx}{a:bS}{MG:De}{p p2 pos eF:gy}
def bF(Ft:X.A.units+64<fu)(w:X.calm=aD)(g:Gl X "len")(m:X.mg "len" = aB)(f:Gl X "set")(l:X.mg "set" = aB)(O:M8 X [a] MG)(hs:aL [a] X.env=[(aC,eval a X.env)]|>On)
  (N:aL [.Call (.Name "set" p2) [a] [] eF] X.env=(aC,eval (.Call (.Name "set" p2) [a] [] eF) X.env)::aL [] X.env|>On) (j:(cQ pos (aL [] X.env)).any (·.1)=aC|>On) :
  DC X (.Call (.Name "len" p) [.Call (.Name "set" p2) [a] [] eF] [] pos) (Ic X.K MG):=by
 ext F s U H Q I h;show cS (Yt I g m rfl ?_);show eM ?_ N j;show iS ?_;show sP (Yt I f l rfl (br (ZV (O eF F s U H _ I h) λus s1 ⟨vs,R,d,J,v⟩=>?_) hs rfl));let⟨b,bs,ps,e,L,n,B,W,q⟩:=v;subst e
 cases J with
 | cons r Dj=>
  cases Dj;cases r;let⟨IS,C,pl,S⟩:=d.list L;let:=RL C;subst this;let c:=n.len;show jg (knd:=F7 X.prog X.w) (ks:=ps.map (·.map gU)) (I.ok.hd w) pl.isList (λi k e=>?_) (by simp[c]) ?_ (by rw[aK];lia) ?_ λh' tk G E=>jH ?_
  ·rw[af] at e
   cases Ko:ps[i]? with
   | none=>rw[Ko] at e;cases e
   | some z=>
    rw[Ko] at e;cases e;let Z:=(aS.mp Ko).1;show⟨bs[i],by simp[show i<bs.length by lia],Pd d.Bh ?_⟩;rw[n.at' i _ z (aI ()) Ko,bR];rfl
  ·show dU.mpr (B.imp λ{x y} ne e=>ne ?_);apply(qJ λa b z=>rh z).mp e
  ·lia
  ·let⟨o,Y,ep,t,P,A,D,T,u,_⟩:=G;let M:=d.kept (t':=tk) λb o z=>E b o (aT z) z;show qV P A D T.fits (by rw[u,aK];lia) ?_;rw[u,aK];apply⟨.int _,R,M.tok _ |>.tok _,⟨_,rfl⟩,q⟩
end
def GF:PV->Option PV
 | .lst l=>(Ce l).bind λps=>if ps.Nodup/\ps.length<=64 then aA (.int (ps.length:Int)) else aB
 | _=>aB
def sh(B:X.A.units+64<fu)(n:X.calm=aD)(c:Gl X "len")(h:X.mg "len" = aB)(b:Gl X "set")(f:X.mg "set" = aB)(A:Kz X a fa)(hs:aL [a] X.env=[(aC,eval a X.env)]|>On)
  (y:aL [.Call (.Name "set" p2) [a] [] eF] X.env=(aC,eval (.Call (.Name "set" p2) [a] [] eF) X.env)::aL [] X.env|>On) (d:(cQ pos (aL [] X.env)).any (·.1)=aC|>On) :
  M3 X (.Call (.Name "len" p) [.Call (.Name "set" p2) [a] [] eF] [] pos) (NR GF fa):=
 DC.imp (bF B n c h b f (ZM A Xc hs) hs y d)<|by
  ext U H Q ⟨s,l,env,e,k⟩;let⟨x,u,i⟩:=Zc e;show⟨λ_=>False,s,[x],λ_ z=>z.elim,env,by change(fa s).bind _=_;rw[u];rfl,λvs E F s1 q _=>?_⟩;let⟨v,rfl,t⟩:=q.cb
  cases x with
  | lst m=>
   let⟨ps,w,g⟩:=Zc i;split at g
   case isFalse=>cases g
   rename_i j;cases g;let o:=Qb w;subst o;let⟨p,xs,D,rfl,hp,C,_⟩:=t.lst_inv;let⟨bs,rfl,r⟩:=VM C;apply⟨p,bs,ps,rfl,.inl (.inl hp),r,j.1,j.2,k _ _ [] s1 (by simp[Is]) ⋯ ⋯⟩
  | _=>cases i
end _h
namespace _v
open _l
def C3(i:Nat):XS:=λs=>(Lu s i).bind λ_=>aA (.IA (s.set i (aA (.lst []))))
def Zaw{X:Cx}{O:Iw}{st:cJ}{i:Nat}(h:Df X st (NA (Ex X.K "list" B6 (KU i) M6)))(c:i∈O|>Op):DO X O [i] st (C3 i):=Df.imp h<|by ext D U H ⟨n,bD,s,d,r,e,k⟩;let⟨m,a,e⟩:=Zc e;let a:=Ve a;cases e;let⟨p,xs,j,b,hp,l,f⟩:=r.lB c a;show⟨.ref p,b,x_ hp,p,xs,rfl,rfl,hp,?_⟩;apply k _ _ _ (r.nk c a f b KA.nil ⋯ λq g=>by simp at g) R9
end _v
namespace _z
open _l _v
def ew{c:Const}{k:Nat}{p:gy}{r:Fj}{env:n8}:aL (.Constant c k p::r) env=(aC,eval (.Constant c k p) env)::aL r env:=rfl
def Zjh{i:Nat}{f:XE}:∀s o,Hs i f s=aA o->∃Kl,o = .IA Kl:=λs o h=>by let⟨l,_,rfl⟩:=map_some h;apply⟨_,rfl⟩
def Zg0{X:Cx}{hs:List kz}{a:L_}{O W:Iw}{f:XS}(c:Iw)(h:AA X hs a (NW X.K O W f))(l:∀j∈W,j∈c):AA X hs a (NW X.K O c f):=
 λi s U H D I ⟨g,bD,m,b,r,e,k⟩=>h i s U H D I ⟨g,bD,m,b,r,e,k.same (λj _=>⟨rfl,NH.refl _⟩) λj d z=>d (l j z)⟩
section
variable {K:aH}{P:bC}{w:bU}{mg:Bp}{base:b7}{x:bH}{st:cJ}{N ps:Kn}{k n:Nat}{O W:Iw}{dv:Int}
def wc(m:Nat)(u:XF)(D:UI K mg x st dv)(S:Bz N ps (DG st))
  (L:∀(T:aM)(t:tD)(FH c p:aG)(r:I')(b Bi:aG)(f:E4),f.length+1=la ps->∃q:Option (Array aG)->tY (List (bH×aG)),
   i8 (cX x x (HI st) (FQ st) (DG st) (.ref T) FH c p r b Bi) ⟨f,[]⟩=kF (.ref T) >>= q/\q (aA #[.int dv t])=pure (ps.zip (f++[.int dv t])))
  (J:la ps=n) (v:la N=m) (F:∀i∈O,n<=i)
  (d:∀(e:aM)(b:aG)(A:bX)(a:Dk)(s:aN)(H:Hp)(E:Kp),MN k (A.deeper (jE x (DG st) ⇑s e b))->LA (K3 (BN P w) P w K mg base N x (DG st) e b A a s H E) O E (FQ st) u) :
  pb P w K mg base x ps (HJ K (AM m u) n) (k+1) dv:=by
 subst v;let⟨e,T,t,o,U,W,Y,FH,c,p,r,b,Bi,y,g,R,l,B,lt,z⟩:=D.ex;show⟨e,_,t,g,B,λs f X C=>?_,Yu R l S (λvs H Q E h=>by rw[J];apply h.1) λA a s H vs Q E M j=>⟨_,d e b A a s H E M,lg F j⟩⟩;let⟨q,I,G⟩:=L T t FH c p r b Bi f (~~~C);apply ij X rfl lt z I G
def wb(m:Nat)(u:XF)(D:UI K mg x st dv)(S:Bz N ps (DG st))
  (L:∀(T:aM)(t:tD)(FH c p:aG)(r:I')(b Bi:aG)(f:E4),f.length=la ps->∃q:Option (Array aG)->tY (List (bH×aG)),
   i8 (cX x x (HI st) (FQ st) (DG st) (.ref T) FH c p r b Bi) ⟨f,[]⟩=kF (.ref T) >>= q/\q (aA #[.int dv t])=pure (ps.zip f))
  (J:la ps=n) (y:la N=m) (F:∀i∈O,n<=i)
  (d:∀(e:aM)(b:aG)(A:bX)(a:Dk)(s:aN)(H:Hp)(E:Kp),MN k (A.deeper (jE x (DG st) ⇑s e b))->LA (K3 (BN P w) P w K mg base N x (DG st) e b A a s H E) O E (FQ st) u) :
  qb P w K mg base x ps (HJ K (AM m u) n) (k+1):=by
 subst y;let⟨e,T,t,o,U,W,Y,FH,c,p,r,b,Bi,z,g,R,l,C,lt,B⟩:=D.ex;show⟨e,_,g,C,λs f X v=>?_,Yu R l S (λvs H Q E h=>by rw[J];apply h.1) λA a s H vs Q E M j=>⟨_,d e b A a s H E M,lg F j⟩⟩;rw[ck] at v ⊢;let⟨q,I,G⟩:=L T t FH c p r b Bi f v;apply ij X rfl lt B I G
end
end _z
namespace _v
open _l
def N7:bS->Option Int
 | .Constant (.int i) _ _=>aA i
 | _=>aB
def JK:bS->Option (List Int)
 | .Tuple Fc _ _=>if Fc.length<=9 then Fc.mapM N7 else aB
 | _=>aB
def zP(h:N7 e=aA i):Kz X e (DB (.int i))/\∀r,aL (e::r) X.env=(aC,eval e X.env)::aL r X.env:=by
 cases e with
 | Constant c k p=>
  cases c with
  | int j=>cases h;apply⟨Zi,λ_=>rfl⟩
  | _=>cases h
 | _=>cases h
def w5:∀(vs:List PV)(s:ZG),HE (vs.map DB) s=aA vs
 | [],_=>rfl
 | v::vs,s=>by change((DB v s).bind λx=>(HE (vs.map DB) s).map (x::·))=_;rw[w5 vs];rfl
def wm(vs:List PV):DU (vs.map DB)=DB (.tup vs):=by funext s;change(HE (vs.map DB) s).map PV.tup=_;rw[w5];rfl
def lp:∀{Fc:Fj}{ns:E1},Fc.mapM N7=aA ns->Na X Fc ((ns.map PV.int).map DB)
 | [],_,h=>by cases h;apply Xc
 | e::Fc,ns,h=>by rw[pQ] at h;let⟨i,a,h⟩:=Zc h;let⟨r,b,h⟩:=Zc h;cases h;apply ZM (zP a).1 (lp b) ((zP a).2 Fc)
def QT:∀{Fc:Fj}{ns:E1},Fc.mapM N7=aA ns->la ns=la Fc
 | [],_,h=>by cases h;rfl
 | e::Fc,ns,h=>by rw[pQ] at h;let⟨i,b,h⟩:=Zc h;let⟨r,a,h⟩:=Zc h;cases h;simp[QT a]
def RY(h:JK e=aA ns):Kz X e (DB (.tup (iL ns)))/\∀r,aL (e::r) X.env=(aC,eval e X.env)::aL r X.env:=by
 cases e with
 | Tuple Fc k p=>
  let h:(if Fc.length<=9 then Fc.mapM N7 else aB)=aA ns:=h;split at h
  ·show⟨?_,λ_=>rfl⟩;let:=YT (k:=k) (pos:=p) (lp (X:=X) h) (by rw[aK,aK,QT h];lia)
   rwa [wm] at this
  ·cases h
 | _=>cases h
def JY:bS->Option (List (List Int))
 | .Tuple Fc _ _=>if Fc.length<=9 then Fc.mapM JK else aB
 | _=>aB
def Qy:∀{Fc:Fj}{ns:Iz},Fc.mapM JK=aA ns->la ns=la Fc/\Na X Fc ((ns.map λl=>PV.tup (iL l)).map DB)
 | [],_,h=>by cases h;apply⟨rfl,Xc⟩
 | e::Fc,ns,h=>by rw[pQ] at h;let⟨i,a,h⟩:=Zc h;let⟨r,b,h⟩:=Zc h;cases h;let⟨l,v⟩:=Qy (X:=X) b;apply⟨by simp[l],ZM (RY a).1 v ((RY a).2 Fc)⟩
def Ze7(h:JY e=aA ns):Kz X e (DB (.tup (ns.map λl=>.tup (iL l)))):=by
 cases e with
 | Tuple Fc k p=>
  let h:(if Fc.length<=9 then Fc.mapM JK else aB)=aA ns:=h;split at h
  ·let⟨l,v⟩:=Qy (X:=X) h;let:=YT (k:=k) (pos:=p) v (by rw[aK,aK,l];lia)
   rwa [wm] at this
  ·cases h
 | _=>cases h
structure VSW(X:Cx)(O W:Iw)(st:cJ)(f:XS):Prop where
 h:DO X O W st f
def Ze8{i:Nat}{x:bH}(a:X.N.Nodup)(d:X.N[i]?=aA x)(b:BP X.env.scope x)(h:JY e=aA ns)(c:X.fn x=aD\/X.env.scope.names.lookup x=aA .local|>Pv) :
  VSW X O [i] (.Assign [.Name x pos'] e pos) (Hs i (FG (DB (.tup (ns.map λl=>.tup (iL l)))))):=
 ⟨Y9 a d b (Kz.pure (Ze7 h)) (by cases e<;>first | rfl | cases h) c⟩
def o_{X:Cx}{O b a:Iw}{st:cJ}{tw:L_}{f g:XS}(d:VSW X O b st f)(c:Ls X O a tw g):Ls X O (b++a) (st::tw) (BS f g):=Zd d.h c
end _v
namespace _l
def Og(h:([(x,a)]:Dt).lookup y=aA c):c=a:=by grind
def Qc(h:([(x,a)]:Dt).lookup y=aA c):y=x:=by grind
end _l
namespace _v
open _l
variable {K:aH}
def DT(H:Hp)(e:aM):Hp:=λb=>if b=e then aB else H b
def Zg:DT H e e=aB:=by delta DT;rw[Be rfl]
def Xq(h:b≠e):DT H e b=H b:=by delta DT;rw[Fb h]
def Tg(h:H b=aB):DT H e b=aB:=by
 delta DT;split
 ·rfl
 ·apply h
def Ze9(h:DT H e b=aA o):b≠e/\H b=aA o:=by
 delta DT at h;split at h
 ·cases h
 ·rename_i n;apply⟨n,h⟩
def Wj{H:Hp}{e b:aM}{o u:HO}(a:H e=aA o)(c:H b=aA u)(d:u≠o):b≠e:=by grind
section
variable {P:bC}{w:bU}{H H':Hp}{h h':b7}{e:aM}{eo:fH}{fs:Gc}
def Zay(x:FI P w H h)(c:H e=aA (.Km eo (.own 1))):FI P w (DT H e) h:=λa o d=>by
 let⟨ne,d⟩:=Ze9 d
 apply(x a o d).MP (λ_ _ _ q=>q) (λb q=>by rw[Xq (Wj c q (by nofun))];apply q) (λb xs q=>by rw[Xq (Wj c q (by nofun))];apply q)
  λb u q=>by rw[Xq (Wj c q ⋯)];apply q
def T5(x:FI P w H h)(a:H e=aB)(d:h.get? e=aA eo):FI P w (upd H e (.Km eo (.own 1))) h:=λb u q=>by
 by_cases z:b=e
 ·subst z;rw[a_] at q;cases q;apply⟨d,_,d⟩
 ·rw[a0 z] at q;apply(x b u q).MP (λ_ _ _ r=>r) (λc r=>by rw[a0 (Zh r a)];apply r) (λc xs r=>by rw[a0 (Zh r a)];apply r) λc v r=>by rw[a0 (Zh r a)];apply r
def DY.rm{mg:Bp}{a:b7}(t:DY K mg a H)(f:H e=aA (.Km eo (.own 1))):DY K mg a (DT H e):=λq c h i=>by let⟨Pt,ps,tk,g,b,j,d⟩:=t q c h i;apply⟨Pt,ps,tk,g,by rw[Xq (Wj f b (by nofun))];apply b,j,d⟩
def DY.add(t:DY K mg base H)(d:H e=aB):DY K mg base (upd H e (.Km eo (.own 1))):=λq c f g=>by let⟨Pt,ps,tk,h,a,i,b⟩:=t q c f g;apply⟨Pt,ps,tk,h,by rw[a0 (Zh a d)];apply a,i,b⟩
def Zfa(u:Fo fs [] (DT H e) H' h h')(c:H e=aA (.Km eo (.own 1)))(d:H' e=aB):Fo fs [] H (upd H' e (.Km eo (.own 1))) h h' where
 keep b o q n hf IJ:=u.keep b o q (Tg n) hf IJ
 slot b o q n hf IJ:=u.slot b o q (Tg n) hf IJ
 free b o q n IJ:=by rw[a0 (λz=>by rw[z,c] at n;cases n)];apply u.free b o q (Tg n) IJ
 there:=u.there
 BA b xs q:=by let ne:=Wj c q (by nofun);rw[a0 ne];apply u.BA b xs (by rw[Xq ne];apply q)
 Dr b o v q:=by
  by_cases z:b=e
  ·subst z;rw[c] at q;cases q;apply a_
  ·rw[a0 z];apply u.Dr b o v (by rw[Xq z];apply q)
 Bw b ps q:=by let ne:=Wj c q (by nofun);let⟨a,z⟩:=u.Bw b ps (by rw[Xq ne];apply q);apply⟨a,by rw[a0 ne];apply z⟩
def Zji(u:Fo fs [] (upd H e (.Km eo (.own 1))) H' h h')(g:H e=aB)(l:h.get? e=aA eo)(i:e∉fs)(f:FI P w H' h'):Fo fs [] H (DT H' e) h h':=by
 let k:=u.Dr e eo _ a_;let j:=(f e _ k).1;show⟨λb o q n d a=>?_,λb o q n d a=>?_,λb o q n a=>?_,u.there,λb xs q=>?_,λb o v q=>?_,λb ps q=>?_⟩
 ·by_cases z:b=e
  ·subst z;rw[l] at q;cases q;apply j
  ·apply u.keep b o q (by rw[a0 z];apply n) d a
 ·let z:b≠e:=λz=>i (z▸d);apply u.slot b o q (by rw[a0 z];apply n) d a
 ·by_cases z:b=e
  ·subst z;apply Zg
  ·apply Tg (u.free b o q (by rw[a0 z];apply n) a)
 ·let z:=Zh q g;rw[Xq z];apply u.BA b xs (by rw[a0 z];apply q)
 ·let z:=Zh q g;rw[Xq z];apply u.Dr b o v (by rw[a0 z];apply q)
 ·let z:=Zh q g;let⟨c,y⟩:=u.Bw b ps (by rw[a0 z];apply q);apply⟨c,by rw[Xq z];apply y⟩
end
mutual
def NP:PV->Bool
 | .IB=>aD
 | .Iv _=>aD
 | .int _=>aD
 | .str _=>aD
 | .ty _=>aD
 | .exc _=>aC
 | .Bs _ _=>aC
 | .nv _ _=>aC
 | .tup l=>Lj l
 | .lst l=>Lj l
 | .cst l=>Lj l
 | .IK _ l=>Lj l
 | .E6 _ l=>Lj l
def Lj:List PV->Bool
 | []=>aD
 | x::r=>NP x&&Lj r
end
def B3.rm{H:Hp}{e:aM}{c:fH}(a:H e=aA (.Km c (.own 1))){p:aM}{u:HO}(d:u≠.own 1)(b:∀o v,u≠.Km o v)(r:B3 H p u):B3 (DT H e) p u:=by
 rcases r with r | ⟨o,r⟩
 ·apply .inl (by rw[Xq (Wj a r (b _ _))];apply r)
 ·apply .inr ⟨o,by rw[Xq (Wj a r (by ext z;cases z;apply d rfl))];apply r⟩
mutual
def Is.rm{H:Hp}{e:aM}{k:fH}(b:H e=aA (.Km k (.own 1))):∀(l:PV)(v:V)(Ir:Gc),NP l=aD->Is K H l v Ir->Is K (DT H e) l v Ir
 | .IB,_,_,_,h=>by simpa only[Is] using h
 | .Iv _,_,_,_,h=>by simpa only[Is] using h
 | .int _,_,_,_,h=>by simpa only[Is] using h
 | .str _,_,_,_,h=>by simpa only[Is] using h
 | .ty _,_,_,_,h=>by simpa only[Is] using h
 | .exc _,_,_,hp,_=>by simp[NP] at hp
 | .Bs _ _,_,_,hp,_=>by simp[NP] at hp
 | .nv _ _,_,_,hp,_=>by simp[NP] at hp
 | .tup l,v,Ir,hp,h=>by dsimp[Is] at h ⊢;let⟨p,xs,c,a,d⟩:=h;apply⟨p,xs,c,by rw[Xq (Wj b a (by nofun))];apply a,KA.rm b l xs Ir (by simpa only[NP] using hp) d⟩
 | .lst l,v,Ir,hp,h=>by dsimp[Is] at h ⊢;let⟨p,xs,f,c,a,d,g⟩:=h;apply⟨p,xs,f,c,by rw[Xq (Wj b a (by nofun))];apply a,KA.rm b l xs f (by simpa only[NP] using hp) d,g⟩
 | .cst l,v,Ir,hp,h=>by
  dsimp[Is] at h ⊢;let⟨p,xs,c,a,d⟩:=h;show⟨p,xs,c,?_,KA.rm b l xs Ir (by simpa only[NP] using hp) d⟩;rcases a with⟨o,a⟩ | a
  ·apply .inl ⟨o,by rw[Xq (Wj b a (by ext z;cases z))];apply a⟩
  ·apply .inr a
 | .IK ks l,v,Ir,hp,h=>by dsimp[Is] at h ⊢;let⟨p,i,f,c,a,j,d,g⟩:=h;apply⟨p,i,f,c,B3.rm b (λz=>HO.noConfusion z) (λ_ _ z=>HO.noConfusion z) a,j,KA.rm b l _ f (by simpa only[NP] using hp) d,g⟩
 | .E6 ks l,v,Ir,hp,h=>by dsimp[Is] at h ⊢;let⟨p,i,f,c,a,j,d,g⟩:=h;apply⟨p,i,f,c,B3.rm b (λz=>HO.noConfusion z) (λ_ _ z=>HO.noConfusion z) a,j,KA.rm b l _ f (by simpa only[NP] using hp) d,g⟩
def KA.rm(a:H e=aA (.Km eo (.own 1))):∀(l:List PV)(xs:List V)(Ir:Gc),Lj l=aD->KA K H l xs Ir->KA K (DT H e) l xs Ir
 | [],_,_,_,h=>by simpa only[KA] using h
 | l::ls,xs,Ir,hp,h=>by dsimp[Lj,aX] at hp;let⟨x,r,f1,b,f,g,c,d⟩:=h.inv;subst f d;apply KA.cons (Is.rm a l x f1 hp.1 g) (KA.rm a ls r b hp.2 c)
end
structure SK(N ps:Kn)(L:q_):Prop where
 kind:L.scope.kind = .function
 co:L.scope.isCoroutine=aC
 gen:L.scope.isGenerator=aC
 aa0:∀y∈L.scope.names,y.2≠.cell
 E3:N.Nodup
 eq:N=ps++[L.free]
 par:∀x∈ps,L.scope.names.lookup x=aA .local
 fre:L.scope.names.lookup L.free=aA .free
 one:∀y∈L.scope.names,y.2 = .free->y.1=L.free
 aaj:Eg L.qual=aC
def J'(P:bC)(w:bU)(K:aH)(mg:Bp)(base:b7)(N:Kn)(L:q_)(f c e:aM)(A:bX)(outer:Dk)(s:aN)(H:Hp):Cx where
 prog:=P
 w:=w
 K:=K
 mg:=mg
 base:=base
 A:=A.deeper (oK L.qual L.scope ⇑s f (.ref c) [(L.free,e)])
 N:=N
 s₀:=s
 H₀:=H
 env:=oK L.qual L.scope ⇑s f (.ref c) [(L.free,e)]
 outer:=outer
 stack:=oK L.qual L.scope ⇑s f (.ref c) [(L.free,e)]::outer
 ex:=[]
 calm:=aD
 fn:=λ_=>aC
 Dp:=[]
 Bk:=λ_ _=>False
def Za0:∀{ps:Kn}{a:E4}{i:Nat}{x:bH}{u:aG},ps.Nodup->ps[i]?=aA x->a[i]?=aA u->(ps.zip a).reverse.lookup x=aA u:=by
 ext ps
 induction ps with
 | nil=>ext a i x u _ h _;simp at h
 | cons p r E2=>
  ext a i x u c d b
  cases a with
  | nil=>simp at b
  | cons v a=>
   rw[gA,List.reverse_cons,List.lookup_append]
   cases i with
   | zero=>
    let e:p=x:=by simpa using d
    let g:v=u:=by simpa using b
    subst e g
    let nm:(r.zip a).reverse.lookup p=aB:=by
     rw[List.lookup_eq_none_iff];ext q f;let:=(jo (List.mem_reverse.mp f)).1
     first
      | (ext z;rw[<-z] at this;apply(au.mp c).1 this)
      | (simp;ext z;rw[<-z] at this;apply(au.mp c).1 this)
    rw[nm];simp[cG]
   | succ i=>
    rw[E2 (au.mp c).2 (~~~d) (~~~b)];rfl
variable {K:aH}
section
variable {P:bC}{w:bU}{mg:Bp}{base:b7}
def Zfb
  (S:SK N ps L) (I:A.handled=aB) (j:Hh P w K mg base A outer s H) (Q:vs.length=ps.length) (r:Bj vs us) (Y:H e=aB) (F:s.heap.IsCell e (aA u)) (M:RelV x u)
  (C:h₁.Ns ⇑s (λy=>(ps.zip us).reverse.lookup y)) (l:∀b o,s.heap.get? b=aA o->h₁.get? b=aA o) :
  Inv (J' P w K mg base N L f c e A outer s H) [] (vs.map aA++[aA x]) H {s with heap:=h₁,toks:=tk}:=by
 let k:∀b:aM,b∉(J' P w K mg base N L f c e A outer s H).ex:=λb z=>absurd (show b∈([]:Gc) from z) ⋯;let B:ps.Nodup:=by let:=S.E3;rw[S.eq] at this;apply(dt.mp this).1
 let t:=F.keeps l
 show⟨⟨j.mod,S.kind,rfl,rfl,aZ _,λy z a g d=>(Qc g).trans (Qc d).symm,λy m=>?_,λy a z=>(by cases z),λ_=>I,oj j.frames,.inr ⟨rfl,rfl⟩,λb z=>absurd z (k b),j.bs,j.Hg,λb _ _=>k b,λb z=>absurd z (k b),j.FA,j.Hj,j.tab,λq _ T E=>?_⟩,
  rfl,j.bare,Fo.kept l,⟨_,C,λi y v g d Z=>?_⟩,λy a h=>?_,j.Bh.fresh (aZ _),λy a h=>?_,λp hp=>absurd (show p∈([]:MI) from hp) ⋯,j.Bh.kept l,?_⟩
 ·let m:=m;rcases m with m | m
  ·apply absurd rfl (S.aa0 _ (eQ m))
  ·let R:y=L.free:=S.one _ (eQ m) rfl;show⟨e,?_⟩;change([(L.free,e)]:Dt).lookup y=_;rw[R];simp[cG]
 ·let:=(Ob (T)).symm;rw[this,S.aaj] at E;cases E
 ·let g:N[i]?=aA y:=g;rw[S.eq] at g;by_cases D:i<vs.length
  ·rw[bM (~~~D),af] at d;rw[bM ()] at g
   cases q:vs[i]? with
   | none=>rw[q] at d;cases d
   | some a=>
    rw[q] at d;cases d;let⟨z,J,G⟩:=r.get q;apply⟨z,G,.inl ⟨S.par y (aw g),Za0 B g J⟩⟩
  ·rw[bc (~~~D),aK] at d;rw[bc ()] at g
   let U:i-vs.length=0:=by
    cases q:i-vs.length with
    | zero=>rfl
    | succ n=>rw[q] at d;simp at d
   let O:i-ps.length=0:=()
   rw[U] at d;rw[O] at g;let W:x=v:=by simpa using d
   let X:L.free=y:=by simpa using g
   subst W X;show⟨u,M,.inr ⟨.inr S.fre,e,?_,t⟩⟩;change([(L.free,e)]:Dt).lookup L.free=_;simp[cG]
 ·let h:=h;rw[Og h];apply⟨_,t⟩
 ·let h:=h;rw[Og h];apply Y
 ·change _=N.length;rw[S.eq];simp[Q]
def C5(K:aH)(L:q_)(f:aM)(D:PV->List PV->Option PV)(n:Nat):By:=λvs H Q _=>vs.length=n/\∃l ls u x Ir bD r,Cr H L (.ref f) u/\RelV x u/\Is K H l x Ir/\NP l=aD/\KA K H ls vs bD/\Lj ls=aD/\D l ls=aA r/\HA r=aD/\
 ∀v H',MX H H'->Is K H' r v []->Q v H'
def J3(P:bC)(w:bU)(K:aH)(mg:Bp)(base:b7)(k:Nat)(L:q_)(D:PV->List PV->Option PV)(n:Nat):Prop:=
 ∀(A:bX)(outer:Dk)(s:aN)(H:Hp)(f:aM)(us:E4)(vs:List V)(Q:IG)(E:Kp),MN k A->Hh P w K mg base A outer s H->Bj vs us->C5 K L f D n vs H Q E->
  gk (model P w) A (.call (.ref f) ⟨us,[]⟩) (CR Nc outer P w H s Q E) s
def Hh.rm(a:Hh P w K mg base A outer s H)(c:H e=aA (.Km eo (.own 1))):Hh P w K mg base A outer s (DT H e):=
 ⟨a.frames,a.mod,λb o q=>⟨(a.bs b o q).1,Tg (a.bs b o q).2⟩,a.Hg,a.FA,λb d=>Tg (a.Hj b d),DY.rm a.tab c,Zay a.Bh c,a.bare⟩
def Za1(f:XE)(S:SK N ps L)
  (R:∀(cl:Dt)(pm BC Bi:aG)(F:E4),F.length=ps.length->i8 (jR "<lambda>" L.qual L.params L.body L.scope cl pm BC Bi) ⟨F,[]⟩=pure (ps.zip F)) (Fm:ps.length=n)
  (B:∀(C c e:aM)(A:bX)(d:Dk)(s:aN)(H:Hp),MN k (A.deeper (oK L.qual L.scope ⇑s C (.ref c) [(L.free,e)]))->Kz (J' P w K mg base N L C c e A d s H) L.body f) :
  J3 P w K mg base (k+1) L (λl ls=>f (ls.map aA++[aA l])) n:=by
 ext A d s H C F vs Q E hr j rv hsp;let⟨Fg,l,ls,u,x,Ir,bD,r,⟨fa',fo,c,IV,e,X,pm,Bi,IU,hf,Y,Fq,hco,h,zE⟩,rx,il,pl,is,pls,hD,pr,q⟩:=hsp;cases IU;let Fu:=(j.Bh C _ hf).1;let zB:=(j.Bh c _ Fq).1;let O:=(j.Bh e _ h).1;let⟨cvs,ctk,hcd,hcq⟩:=hco;let U:vs.length=ps.length:=by rw[Fg,Fm]
 let lim:=j.mod.nolimit.keeps λb o e=>(j.bs b o e).1;show PySem.W.kla_callFunE hr.depth Fu Y S.co S.gen rfl ⟨c,IV,cvs,ctk,rfl,zB,hcd,hcq⟩ ?_;rw[R _ _ _ _ F (by rw[<-rv.length];apply U)];show aJ (ou S.aa0 (λy p=>S.par y.1 (jo p).1) (λh₁ hns hsb=>?_) S.kind);let G:=λb o q=>hsb.extBut b o (ay (aT q)) (aF _ q);show⟨lim.keeps G,?_⟩;show PySem.W.kla_codeExpr ?_;let Ko:=Hh.rm j h;let I:=Zfb (f:=C) (c:=c) (tk:=s.toks+(ps.zip F).length) S hr.hd Ko U rv Zg ⟨X,O,zE⟩ rx hns G
 let env:c7 K (λ_=>False) (DT H e) (ls.map aA++[aA l]) (vs.map aA++[aA x]):=⟨λi a g=>by
  let hlv:=is.len;by_cases T:i<ls.length
  ·rw[bM (~~~T),af] at g
   cases z:ls[i]? with
   | none=>rw[z] at g;cases g
   | some b=>
    rw[z] at g;cases g;let⟨v,f1,MH,ID,_⟩:=is.get z;show⟨v,f1,?_,Is.rm h _ _ _ ?_ ID,λ_ _ z=>z⟩
    ·rw[bM (by rw[aK];lia),af,MH];rfl
    ·let all:∀(m:List PV),Lj m=aD->∀y∈m,NP y=aD:=by
      ext m
      induction m with
      | nil=>ext _ y p;simp at p
      | cons a r E2=>
       ext hm y p;dsimp[Lj,aX] at hm;rcases aW.mp p with rfl | p
       ·apply hm.1
       ·apply E2 hm.2 y p
     apply all ls pls _ (aw z)
  ·rw[bc (~~~T),aK] at g
   let z:i-ls.length=0:=by
    cases q:i-ls.length with
    | zero=>rfl
    | succ n=>rw[q] at g;simp at g
   rw[z] at g;let IM:l=a:=by simpa using g
   subst IM;show⟨x,Ir,?_,Is.rm h _ _ _ pl il,λ_ _ z=>z⟩;rw[bc (by rw[aK];lia),aK,show i-vs.length=0 by lia];rfl⟩
 show bQ (B C c e A d s (DT H e) (hr.deeper _) [] _ _ _ (λv D=>MX (DT H e) D/\∃W,Is K D r v W) I ⟨λ_=>False,_,r,λ_ z=>z.elim,env,hD,λv D W sm i _=>⟨sm,W,i⟩⟩) (λy Kl hs=>?_) λ_ _ hs=>hs.elim;let⟨v,D,J,ry,sm,W,i⟩:=hs;let t:=J.Dq L.free e (by change([(L.free,e)]:Dt).lookup L.free=_;simp[cG]);let M:Fo (DV d) [] (DT H e) D s.heap Kl.heap:=J.base;let Z:e∉DV d:=λz=>by rw[j.Hj e z] at h;cases h
 let he':=M.keep e X O Zg Z ⋯;let i2:=Is.pure _ _ _ pr i;subst i2
 let zf:MX H (upd D e (.Km X (.own 1))):=λb o R=>by
  by_cases z:b=e
  ·subst z;rw[h] at R;cases R;apply a_
  ·rw[a0 z];apply sm b o (by rw[Xq z];apply R)
 apply⟨v,_,J.os,J.bare,Zfa M h t,T5 J.Bh t he',ry,q v _ zf (i.mono (MX.new t _))⟩
end
def A3(T:q_->PV->List PV->Option PV)(i:Nat)(fs:List XE):XE:=λs=>match s[i]? with
 | some (aA (.nv L l))=>(HE fs s).bind λls=>if(NP l&&Lj ls)=aD then(T L l ls).bind (λr=>if HA r=aD then aA r else aB) else aB
 | _=>aB
section
variable {X:Cx}{x:bH}{k:Nat}{e:bS}{Fc:Fj}{fs:List XE}{p pos:gy}
def Zjj(i:Nat)(Fw:X.N[i]?=aA x)(IU:Gp X.env.scope x)(hT:∀L,(∃l ls r,T L l ls=aA r)->J3 X.prog X.w X.K X.mg X.base k L (T L) n)(hr:MN k X.A)(Ff:Na X (e::Fc) fs)(Fm:la fs=n|>On)
  (M:(x==("__debug__" : bH))=aC|>Op) (D:(x==("__classdict__" : bH))=aC|>Op) (he:aL (e::Fc) X.env=(aC,eval e X.env)::aL Fc X.env|>On) (J:(cQ pos (aL Fc X.env)).any (·.1)=aC|>On) :
  M3 X (.Call (.Name x p) (e::Fc) [] pos) (A3 T i fs):=by
 intro C s U H Q I ⟨st,r,env,t,q⟩;delta A3 at t;split at t
 ·rename_i L l hs;let⟨ls,S,G⟩:=Zc t;split at G
  ·rename_i hp;dsimp[aX] at hp;let⟨IW,W,P⟩:=Zc G;split at P
   ·rename_i A;cases P;let⟨v,Ir,F,E5,_⟩:=env.is i _ hs;let E:=E5;let⟨u,y,b,ry,il⟩:=E;let⟨f,R,c,IV,ce,eo,pm,Bi,N,Z,w,_⟩:=id b;subst N;let a:∀{s1:aN}{d:Hp},Inv X C U d s1->d f=aA (.Km R (.own 0))->PySem.W.FnAt f s1.heap:=λ{s1 d} o MH=>by let:=(o.Bh f _ MH).1;let⟨oc',od',dat,sl'⟩:=R;cases (w);apply⟨_,_,_,_,this⟩
    show cS (ZV (Vl Fw IU M D C s U H (λY d=>Y = .ref f/\d=H) I ⟨_,F,rfl,rfl⟩) λuf s1 ⟨Y,d,o,aal,ef,eH⟩=>?_);subst ef eH;obtain rfl:=aal;show PySem.W.callWith_F (a o Z) (ZV (Ff pos C s1 U d (λvs h=>MX d h/\∃bD,KA X.K h ls vs bD) o ⟨λ_=>False,st,ls,λ_ z=>z.elim,env,S,λvs h bD g m _=>⟨g,bD,m⟩⟩) λus s2 ⟨vs,h,B,rv,g,bD,m⟩=>⟨a B (g f _ Z),?_⟩) he J;show iT (fU (hT L ⟨l,ls,r,W⟩ X.A X.stack s2 h f us vs Q E0 hr B.aas rv ⟨by rw[m.len,X4 S,Fm],l,ls,u,y,Ir,bD,r,b.IT (MX.r_ g),ry,il.mono g,hp.1,m,hp.2,W,A,λv H' O i'=>q v H' [] (g.trans O) i' cC λp hp=>by simp at hp⟩) λDj Kl j=>?_)
    cases Dj with
    | error er=>apply(j).elim
    | ok Dd=>
     cases Dd with
     | ret MV=>apply B.after j
     | next=>apply cR j
     | brk=>apply cR j
     | cont=>apply cR j
   ·cases P
  ·cases G
 ·cases t
end
variable {K:aH}
def so{pos pos':gy}{c v:aG}{a b:Int}(l:E4)(h:TriplesOk l)(d:mF pos (l++[fE a,fE b,c])=aA v):mF pos l=aA v\/v=c:=by
 fun_induction TriplesOk l with
 | case1=>
  dsimp[oP,mF,fE] at d;split at d
  ·apply .inr (bG d).symm
  ·cases d
 | case2 a' t b' u x tw E2=>
  dsimp[nZ,mF] at d ⊢;split at d
  ·rename_i e;rw[Be e];apply .inl d
  ·rename_i e;rw[Fb e];apply E2 h d
 | case3 l MH ID=>apply h.elim
def Nr(X:Cx)(L:q_):TE:=λ_ H Q=>∀f fo c IV e pm Bi H1,MX H H1->H1 f=aA (.Km fo (.own 0))->fo.data = .func (jR "<lambda>" L.qual L.params L.body L.scope [(L.free,e)] pm (.ref c) Bi)->
 H1 c=aA (.Km IV (.own 0))->Hq IV L.qual->X.env.cells.lookup L.free=aA e->Q (.ref f) H1
section
variable {X:Cx}
def Zjk{q:bH}{L:q_}{f:gy}(hfn:X.env.func≠aB)(MO:X.env.qual=q++".<locals>.")(O:Eg q=aD)(hL:L.qual=Jh q)(S:su L.params X.env=([],[]))
  (x:∃e,X.env.cells.lookup L.free=aA e/\oF L.scope X.env=pure [(L.free,e)]):DC X (.Lambda L.params L.body L.scope f) (Nr X L):=by
 ext Iu s U H Q I h;let⟨e,yq,x⟩:=x;let j:=I.ok.aa3 q hfn MO O
 obtain⟨p,g⟩:∃p,X.env.code = .ref p:=by
  cases z:X.env.code with
  | ref c=>apply⟨c,rfl⟩
  | _=>rw[z] at j;simp[da] at j
 rw[g] at j;let⟨Pt,ps,tk,hC,hP,N,hB⟩:=(DY.un I.ok.tab I.base) q p O j;let⟨MR,ι,R,eq,IL,w,P⟩:=(show NI X.prog X.w H s.heap Pt (.Ku ps) from I.Bh Pt _ hP);rw[N] at eq;injection eq with eq;injection eq with zqa zqb;subst zqa zqb;let C:s.heap.Ns bP X.mg:=I.mod.glob.keeps I.MM;let hgP:bP≠Pt:=λz=>by let⟨o,Fc,ep,G,hd,_⟩:=C;rw[z,IL] at G;cases G;cases hd
 let M:s.heap.BuiltinsAt X.mg Pt:=by let⟨bm,Du,KC,b2,b3,b4,b5,b6⟩:=hB;apply⟨bm,Du,KC,b2,b3,b4,I.MM _ _ b5,b6⟩
 let D:X.env.qual++"<lambda>" = L.qual:=by rw[MO,hL];rfl
 let fresh:∀b,⇑s<=b->H b=aB:=λb a=>I.Bh.fresh a;show PySem.W.kla_eval S ?_;rw[D]
 cases hf:mF f R.toList with
 | none=>
  show PySem.W.kla_makeFunction (mg:=X.mg) x I.ok.glob C g (hC.keeps I.MM) IL w hf hgP M λd i h' r_ IJ F Y T htb=>?_;let⟨c2,r,vs,t,e2,zB,hd,IU⟩:=T;cases e2;generalize m:PySem.W.kla_obj "<lambda>" L.qual L.params L.body L.scope [(L.free,e)] ((X.mg "__name__").getD .none) d i=fo;let y:fo.data = .func (jR "<lambda>" L.qual L.params L.body L.scope [(L.free,e)] ((X.mg "__name__").getD .none) (.ref d) i):=by rw[<-m]
  let W:h'.objs.size≠d:=gG Y;let l:⇑s<=h'.objs.size:=cA F (eK Y);let nc:H d=aB:=fresh _ F;let nf:H h'.objs.size=aB:=fresh _ l;let hP1:Pt<⇑s:=aT IL;let up:∀b o,H b=aA o->upd (upd H d (.Km r (.own 0))) h'.objs.size (.Km fo (.own 0)) b=aA o:=λb o a=>by rw[a0 (Zh a nf),a0 (Zh a nc)];apply a
  let A:∀b o,b≠Pt->s.heap.get? b=aA o->(h'.push fo).get? b=aA o:=λb o a B=>aF _ (IJ b o a B);let gP:(h'.push fo).get? Pt=aA (jT (R++#[fE f.line,fE f.col,.ref d])):=aF _ htb
  let un:Fo X.fs [] H (upd (upd H d (.Km r (.own 0))) h'.objs.size (.Km fo (.own 0))) s.heap (h'.push fo):=by
   show⟨λb o a n _ _=>A b o (λz=>by rw[z,hP] at n;cases n) a,λb o a n _ _=>⟨o.slots,A b o (λz=>by rw[z,hP] at n;cases n) a⟩,λb o a n _=>?_,λb o a _=>?_,λb xs a=>up b _ a,λb o u a=>up b _ a,λb ps a=>⟨#[],by rw[up b _ a];simp⟩⟩
   ·let Z:=aT a;rw[a0 (ay (ar Z l)),a0 (ay (ar Z F))];apply n
   ·by_cases z:b=Pt
    ·rw[z];apply⟨_,gP⟩
    ·apply⟨o,A b o z a⟩
  let gc:(h'.push fo).get? d=aA r:=aF _ zB;let J:(h'.push fo).get? h'.objs.size=aA fo:=aV _ (by rw[<-m];rfl);let η:upd (upd H d (.Km r (.own 0))) h'.objs.size (.Km fo (.own 0)) d=aA (.Km r (.own 0)):=by rw[a0 (bN W),a_]
  let E:FI X.prog X.w (upd (upd H d (.Km r (.own 0))) h'.objs.size (.Km fo (.own 0))) (h'.push fo):=λb u a=>by
   by_cases z1:b=h'.objs.size
   ·subst z1;rw[a_] at a;cases a;apply⟨J,_,J⟩
   ·rw[a0 z1] at a;by_cases z2:b=d
    ·subst z2;rw[a_] at a;cases a;apply⟨gc,_,gc⟩
    ·rw[a0 z2] at a;by_cases z3:b=Pt
     ·subst z3;rw[hP] at a;cases a;show⟨_,tk,_,N,gP,?_,λpos v k=>?_⟩
      ·rw[fg];apply TriplesOk_snoc _ _ _ _ w
      ·rw[fg] at k;rcases so (pos':=pos) _ w k with k | k
       ·let⟨c3,o3,G,e2,IM⟩:=P pos v k;apply⟨c3,o3,G,up _ _ e2,IM⟩
       ·apply⟨d,r,k,η,vs,t,hd,by rw[<-hL];apply IU⟩
     ·apply(I.Bh b u a).MP (λb' o hb' q=>A b' o (by
       rcases hb' with z | z
       ·rw[z];apply z3
       ·apply λaah=>by rw[aah,hP] at z;cases z) q) (λb' q=>up _ _ q) (λb' xs q=>up _ _ q) λb' MV q=>up _ _ q
  let I1:=I.un (t':=r_) un E;apply⟨.ref h'.objs.size,_,I1,rfl,h _ fo d r e _ i _ up a_ y η ⟨vs,t,hd,IU⟩ yq⟩
 | some cv=>
  let⟨d,r,G,hc1,hc2⟩:=P f cv hf;subst G;show PySem.W.kla_makeFunctionHit (mg:=X.mg) x I.ok.glob C g (hC.keeps I.MM) IL w hf M λi h' r_ MK l=>?_;generalize m:({cls:=.type "function",data:=.func (jR "<lambda>" L.qual L.params L.body L.scope [(L.free,e)] ((X.mg "__name__").getD .none) (.ref d) i)}:fH)=fo;let y:fo.data = .func (jR "<lambda>" L.qual L.params L.body L.scope [(L.free,e)] ((X.mg "__name__").getD .none) (.ref d) i):=by rw[<-m]
  let nf:H h'.objs.size=aB:=fresh _ l;let up:∀b o,H b=aA o->upd H h'.objs.size (.Km fo (.own 0)) b=aA o:=λb o a=>by rw[a0 (Zh a nf)];apply a
  let A:∀b o,s.heap.get? b=aA o->(h'.push fo).get? b=aA o:=λb o B=>aF _ (MK b o B);let J:(h'.push fo).get? h'.objs.size=aA fo:=aV _ (by rw[<-m];rfl);let un:Fo X.fs [] H (upd H h'.objs.size (.Km fo (.own 0))) s.heap (h'.push fo):=Fo.laid A l nf;let E:FI X.prog X.w (upd H h'.objs.size (.Km fo (.own 0))) (h'.push fo):=I.Bh.laid A l ⟨J,_,J⟩;let I1:=I.un (t':=r_) un E;apply⟨.ref h'.objs.size,_,I1,rfl,h _ fo d r e _ i _ up a_ y (up _ _ hc1) (by rw[hL];apply hc2) yq⟩
end
section
variable {X:Cx}{x:bH}{ps:Kn}{Fv:By}{k:Nat}{e:bS}{Fc:Fj}{t:De}{p pos:gy}
def EX(X:Cx)(i:Nat)(y:bH)(Fv:By)(t:De):TE:=λU H Q=>t U H λvs H1=>∀ce eo u v,X.env.cells.lookup y=aA ce->H1 ce=aB->U[i]?=aA (aA v)->RelV v u->eo.data = .cell (aA u)->
 ∃Q':IG,Fv vs (upd H1 ce (.Km eo (.own 1))) Q' E0/\∀z H',H' ce=aA (.Km eo (.own 1))->Q' z H'->Q z (DT H' ce)
def Za3(C:BL X.prog X.w X.K X.mg X.base x ps Fv k)(hr:MN k X.A)(IL:Gl X x)(i:Nat){y:bH}(Fw:X.N[i]?=aA y)(Z:X.env.scope.names.lookup y=aA .cell)(N:X.fn y=aD)(hU:∀U H Q,t U H Q->∃v,U[i]?=aA (aA v))(Ff:M8 X (e::Fc) t)
  (T:(x==("__debug__" : bH))=aC|>Op) (he:aL (e::Fc) X.env=(aC,eval e X.env)::aL Fc X.env|>On) (R:(cQ pos (aL Fc X.env)).any (·.1)=aC|>On) :
  DC X (.Call (.Name x p) (e::Fc) [] pos) (EX X i y Fv t):=by
 let⟨f,fd,hm,P,j,F⟩:=C.ex;ext Iu s U H Q I h;let⟨v,Y⟩:=hU U H _ h;show cS (Wz I IL hm ?_ T);show jy I.ok.mod.aaf P (ZV (Ff pos Iu s U H _ I h) λL s1 ⟨vs,H1,a,r,q⟩=>⟨a.Fs,?_⟩) he R;let⟨m,hns,Fg⟩:=a.loc;let⟨u,ru,lk⟩:=Fg i y v Fw Y (.inr (.inl Z));rcases lk with⟨z,_⟩ | ⟨_,c,l,M,G,hd⟩
 ·let z:X.env.scope.names.lookup y=aA .local:=z;rw[Z] at z;cases z
 let g:=a.Dq y c l;let⟨Q',w,O⟩:=q c M u v l g Y ru hd;let n:=a.ok.aag y c N l
 let J:c∉DV X.stack:=λz=>by
  rcases aW.mp (a.aa4 c z) with z | z
  ·apply a.Dv y c l z
  ·let⟨_,o,Fu,_⟩:=a.ok.FA.mem z;apply absurd (ar (aT Fu) n) (cO _)
 let d:=a.aas
 let Ko:Hh X.prog X.w X.K X.mg X.base X.A X.stack s1 (upd H1 c (.Km M (.own 1))):=by
  show⟨d.frames,d.mod,λb o j=>⟨(d.bs b o j).1,?_⟩,d.Hg,d.FA,λb j=>?_,DY.add d.tab g,T5 d.Bh g G,d.bare⟩
  ·have:b≠c:=λz=>by let:=aT j;let ID:=a.ok.Hg;rw[z] at this;apply absurd (ar this (cA ID n)) (cO _)
   rw[a0 this];apply(d.bs b o j).2
  ·let nb:b≠c:=λz=>by rw[z] at j;apply J j
   rw[a0 nb];apply d.Hj b j
 let S:L.length=la ps:=by rw[<-r.length];apply F.len _ _ _ _ w
 let E:=j s1 L a.Fs (~~~S);rw[ck] at E;show iT (fU (F.run X.A X.stack s1 _ ⟨L,[]⟩ L vs Q' E0 hr Ko E r w) λDj Kl B=>?_)
 cases Dj with
 | error er=>apply(B).elim
 | ok Dd=>
  cases Dd with
  | ret MV=>
   let⟨BE,W,os,A,un,D,rv,qq⟩:=(B);let MH:=un.Dr c M _ a_;apply a.after ⟨BE,DT W c,os,A,Zji un g G J D,Zay D MH,rv,O BE W MH qq⟩
  | next=>apply cR B
  | brk=>apply cR B
  | cont=>apply cR B
end
variable {K:aH}
def Ka(D:List PV->Option PV)(f1 f2:XE)(L:q_)(i:Nat):XE:=λs=>(f1 s).bind λl1=>(f2 s).bind λl2=>match s[i]? with
 | some (aA l)=>(D [l1,l2,.nv L l]).bind λr=>if NP r=aD then aA r else aB
 | _=>aB
section
variable {X:Cx}{x:bH}{ps:Kn}{k:Nat}{a b:bS}{f1 f2:XE}{p pos jl:gy}
def Za4(C:BL X.prog X.w X.K X.mg X.base x ps (DS X.K D 3) k)(hr:MN k X.A)(IL:Gl X x)(i:Nat)(Fw:X.N[i]?=aA L.free)(MK:X.env.scope.names.lookup L.free=aA .cell)(G:X.fn L.free=aD)
  (MH:Kz X a f1) (ID:Kz X b f2) (P:X.env.func≠aB) (MO:X.env.qual=q++".<locals>.") (O:Eg q=aD) (hL:L.qual=Jh q) (E:su L.params X.env=([],[]))
  (Y:∃e,X.env.cells.lookup L.free=aA e/\oF L.scope X.env=pure [(L.free,e)])
  (A:aL (a::b::[.Lambda L.params L.body L.scope jl]) X.env=(aC,eval a X.env)::aL (b::[.Lambda L.params L.body L.scope jl]) X.env) (yp:aL (b::[.Lambda L.params L.body L.scope jl]) X.env=(aC,eval b X.env)::aL [.Lambda L.params L.body L.scope jl] X.env)
  (M:aL [.Lambda L.params L.body L.scope jl] X.env=(aC,eval (.Lambda L.params L.body L.scope jl) X.env)::aL [] X.env) (zx:(cQ pos (aL (b::[.Lambda L.params L.body L.scope jl]) X.env)).any (·.1)=aC)
  (v3:(x==("__debug__" : bH))=aC|>Op):M3 X (.Call (.Name x p) (a::b::[.Lambda L.params L.body L.scope jl]) [] pos) (Ka D f1 f2 L i):=by
 let pa:=ZA MH (ZA ID (ZA (Zjk P MO O hL E Y) Yc M) yp) A;let S:=M8.imp pa (t':=λU H Q=>(∃v,U[i]?=aA (aA v))/\_) λU H Q z=>z.2;show DC.imp (Za3 C hr IL i Fw MK G (λU H Q z=>z.1) S v3 A zx) ?_;ext U H Q ⟨s,r,env,e,qq⟩;let⟨l1,Ko,e⟩:=Zc e;let⟨l2,e2,e⟩:=Zc e;split at e
 ·rename_i lc hs;let⟨IW,hD,e⟩:=Zc e;split at e
  ·rename_i J;cases e;let⟨v,W,IU,ic,_⟩:=env.is i _ hs;show⟨⟨v,IU⟩,λ_=>False,s,l1,λ_ z=>z.elim,env,Ko,λv1 H1 v7 s1 i1 _=>⟨λ_=>False,s,l2,λ_ z=>z.elim,env.mono s1,e2,λv2 H2 v5 s2 i2 _=>?_⟩⟩;ext f fo c IV d pm Bi t B hf I Fq T m ce l u BE yq Fm w ru hd;let n:=bG (m.symm.trans yq);subst n;rw[IU] at w;cases w;let j:MX t (upd t d (.Km l (.own 1))):=MX.new Fm _;let N:Is X.K (upd t d (.Km l (.own 1))) (.nv L lc) (.ref f) W:=by apply⟨u,v,⟨f,fo,c,IV,d,l,pm,Bi,rfl,j _ _ hf,I,j _ _ Fq,T,a_,hd⟩,ru,ic.mono (((s1.trans s2).trans B).trans j)⟩
   show⟨λz h=>∃g,MX (upd t d (.Km l (.own 1))) h/\Is X.K h r z g/\g.Nodup/\∀p∈g,upd t d (.Km l (.own 1)) p=aB/\DK (h p),?_,λz h hz ⟨g,sm,Z,E3,R⟩=>?_⟩
   ·apply⟨rfl,[l1,l2,.nv L lc],_,r,KA.cons (i1.mono ((s2.trans B).trans j)) (KA.cons (i2.mono (B.trans j)) (KA.one N)),hD,λz h g sm Z E3 R=>⟨g,sm,Z,E3,R⟩⟩
   ·let s5:MX H (DT h d):=λy o He=>by let h3:=((s1.trans s2).trans B) y o He;rw[Xq (Zh h3 Fm)];apply sm y o (j y o h3)
    show qq z _ g s5 (Is.rm hz _ _ _ J Z) E3 λy He=>?_;let⟨F,n2⟩:=R y He;let ne:y≠d:=λz=>by rw[z,a_] at F;cases F
    rw[a0 ne] at F;apply⟨MX.off ((s1.trans s2).trans B) F,by rw[Xq ne];apply n2⟩
  ·cases e
 ·cases e
def vz(t:L.params=pa)(n:L.body=bo)(m:L.scope=sc)(C:BL X.prog X.w X.K X.mg X.base x ps (DS X.K D 3) k)(E:MN k X.A)(B:Gl X x)(u:X.N[i]?=aA L.free)(v:X.env.scope.names.lookup L.free=aA .cell)(j:X.fn L.free=aD)
  (z:Kz X a f1) (y:Kz X b f2) (l:X.env.func≠aB) (w:X.env.qual=q++".<locals>.") (h:Eg q=aD) (A:L.qual=Jh q) (c:su pa X.env=([],[]))
  (g:∃e,X.env.cells.lookup L.free=aA e/\oF sc X.env=pure [(L.free,e)])
  (d:aL (a::b::[.Lambda pa bo sc jl]) X.env=(aC,eval a X.env)::aL (b::[.Lambda pa bo sc jl]) X.env) (r:aL (b::[.Lambda pa bo sc jl]) X.env=(aC,eval b X.env)::aL [.Lambda pa bo sc jl] X.env)
  (f:aL [.Lambda pa bo sc jl] X.env=(aC,eval (.Lambda pa bo sc jl) X.env)::aL [] X.env) (o:(cQ pos (aL (b::[.Lambda pa bo sc jl]) X.env)).any (·.1)=aC)
  (s:(x==("__debug__" : bH))=aC|>Op):M3 X (.Call (.Name x p) (a::b::[.Lambda pa bo sc jl]) [] pos) (Ka D f1 f2 L i):=by
 subst t n m;apply Za4 C E B i u v j z y l w h A c g d r f o s
end
variable {K:aH}
def Mh(K:aH):List (bH×aM×aM):=(["tree_of","still_by","made_of"]:Kn).filterMap λx=>(lE K x).map λcp=>(x,cp)
def Nm(K:aH)(q:bC):Bool:=
 sv K&&decide ((Mh K).map (·.2.2)).Nodup&&(Mh K).all (λr=>((recsOf q).find? (λe=>e.name==r.1)).isSome)&&
 K.all λp=>match p.2.data with
  | .fields vs=>(match vs.toList with
   | _::.str n _::_=>!(Eg n) || (match lE K n with
    | some (c,_)=>c==p.1
    | none=>aC)
   | _=>aD)
  | _=>aD
def ri(h:(x,c,Pt)∈Mh K):lE K x=aA (c,Pt)/\Eg x=aD:=by
 let⟨y,a,e⟩:=jx.mp h
 cases z:lE K y with
 | none=>rw[z] at e;cases e
 | some cp=>
  rw[z] at e;cases e;show⟨z,?_⟩;dsimp[aW,cM,or_false] at a;rcases a with rfl | rfl | rfl<;>decide
def Za5(h:lE K x=aA (c,Pt))(a:Eg x=aD):(x,c,Pt)∈Mh K:=by
 show jx.mpr ⟨x,?_,by rw[h];rfl⟩;delta Eg at a;dsimp[ig,beq_iff_eq] at a;dsimp[aW,cM,or_false];rcases a with(h | h) | h
 ·apply .inl h
 ·apply .inr (.inl h)
 ·apply .inr (.inr h)
def zj(g:Nm K q=aD)(h:Eg x=aD)(a:da K (.ref c) x=aD):∃Pt,(x,c,Pt)∈Mh K:=by
 delta Nm at g;dsimp[aX] at g;let b:=g.2
 let a:(match K.lookup c with
   | some ⟨_,_,.fields vs,_⟩=>(match vs.toList with | _::.str n _::_=>n==x | _=>aC)
   | _=>aC)=aD:=a
 split at a
 ·rename_i o m vs l e;split at a
  ·rename_i y n t r f;let k:=beq_iff_eq.mp a;subst k;let d:=bK.mp b (c,_) (oM e);dsimp[f,h] at d;split at d
   ·rename_i c2 j i;let:=beq_iff_eq.mp d;subst this;apply⟨j,Za5 i h⟩
   ·cases d
  ·cases a
 ·cases a
def Xz:∀{l:List (bH×aM×aM)}{x:bH}{c Pt:aM},(l.map (·.2.2)).Nodup->(x,c,Pt)∈l->l.find? (λr=>r.2.2==Pt)=aA (x,c,Pt)
 | [],_,_,_,_,h=>by simp at h
 | r::l,x,c,Pt,E3,h=>by
  rw[aa] at E3;rw[ie];rcases aW.mp h with e | h
  ·subst e;simp
  ·have:r.2.2≠Pt:=λz=>(au.mp E3).1 (a9.mpr ⟨_,h,z.symm⟩);let a:(r.2.2==Pt)=aC:=by simpa using this
   rw[a];apply Xz (au.mp E3).2 h
def GO(l:List (bH×aM×aM))(H:Hp):Hp:=λb=>match l.find? (λr=>r.2.2==b) with
 | some r=>aA (.Ku #[.str (Jh r.1) 0])
 | none=>H b
def yc(h:∀r∈l,r.2.2≠b):GO l H b=H b:=by delta GO;rw[iZ.mpr λr a=>by simpa using h r a]
def T6(l:List (bH×aM×aM))(H:Hp)(b:aM):(∃r∈l,r.2.2=b/\GO l H b=aA (.Ku #[.str (Jh r.1) 0]))\/((∀r∈l,r.2.2≠b)/\GO l H b=H b):=by
 delta GO
 cases z:l.find? (λr=>r.2.2==b) with
 | some r=>apply .inl ⟨r,j7 z,by simpa using jt z,rfl⟩
 | none=>apply .inr ⟨λr a=>by simpa using iZ.mp z r a,rfl⟩
def y5{w:bU}{mg aaa:Bp}{k:Nat}{fa a:aM}{fd:gj}{x:bH}{D:List PV->Option PV}{f:aN}{vs:E4}{ns:E1}{l:List (bH×aM×aM)}
  (KX:K.In f.heap) (U:f.heap.Ns bP mg) (IF:f.heap.Ns ng aaa) (yt:∀x:bH,x≠"__name__"->aaa x=dq x) (zC:f.heap.NoLimit) (C:f.heap.NoSeer) (IL:f.gens = #[])
  (hbm:∃X O,mg "__builtins__" = aA (.ref X)/\X≠ng/\f.heap.get? X=aA O/\O.cls = .type "module"/\O.dict=aA ng/\O.data = .plain)
  (hT:∀r∈l,oh f.heap r.2.1 r.2.2/\f.heap.get? r.2.2=aA (jT #[])) (hK:sv K=aD) (zF:∀(q:bH)(c:aM),Eg q=aD->da K (.ref c) q=aD->∃Pt,(q,c,Pt)∈l) (hnd:(l.map (·.2.2)).Nodup)
  (Q:f.heap.get? a=aA {cls:=.type "list",data:=.seq vs.toArray}) (E5:jI vs ns) (Fg:la ns<=sizeLine) (B:MN k rJ)
  (F:∀base:b7,K.In base->base.Ns bP mg->FD P w K mg base Nc k fa fd [x] (DS K D 1)) (R:∀(s:aN)(u:aG),qh s fd ⟨[u],[]⟩ [(x,u)])
  (hD:D [.cst (iL ns)]=aA (.Iv aD)) :
  gk (model P w) rJ (.call (.ref fa) ⟨[.ref a],[]⟩) (λr G=>r = .ok (.ret (.bool aD))/\OldK f.heap G.heap/\G.os=f.os/\mW G.gens) f:=by
 let rv:=QH E5;let zu:=E5.length
 let L:∀A:Hp,Ej K A a (ns.map V.int)->(A a=aB\/(K.lookup a=aB/\∃xs,A a=aA (.Km {cls:=.type "list",data:=.seq vs.toArray} (.lst xs))/\NI P w A f.heap a (.Km {cls:=.type "list",data:=.seq vs.toArray} (.lst xs))))->(∀b,b≠a->A b=aB)->
   gk (model P w) rJ (.call (.ref fa) ⟨[.ref a],[]⟩) (λr G=>r = .ok (.ret (.bool aD))/\OldK f.heap G.heap/\G.os=f.os/\mW G.gens) f:=by
  ext A hS hA hO;let na:∀r∈l,r.2.2≠a:=λr B z=>by let e:=(hT r B).2;rw[z,Q] at e;cases e
  generalize hH:GO l A=H;let IP:∀r∈l,H r.2.2=aA (.Ku #[.str (Jh r.1) 0]):=λr B=>by rw[<-hH];delta GO;rw[Xz hnd B]
  let Ha:H a=A a:=by rw[<-hH];apply yc na
  let free:∀{b:aM}{o:fH},f.heap.get? b=aA o->o≠jT #[]->b≠a->H b=aB:=λ{b o} e no nb=>by
   rw[<-hH];rcases T6 l A b with⟨r,B,J,_⟩ | ⟨_,J⟩
   ·let E:=(hT r B).2;rw[J,e] at E;apply absurd (bG E) no
   ·rw[J];apply hO b nb
  let g:∀{b:aM}{o:fH},f.heap.get? b=aA o->H b=aB->(MY f.heap H).get? b=aA o:=λe n=>Sp e n;let j:∀{b:aM}{m:Bp},f.heap.Ns b m->(MY f.heap H).Ns b m:=λ{b m} ⟨o,Fc,ep,e,d,r⟩=>⟨o,Fc,ep,g e (free e (λz=>by rw[z] at d;cases d) λz=>by rw[z,Q] at e;cases e;cases d),d,r⟩
  let hKb:=λb o e=>g (KX b o e) (by
   by_cases z:b=a
   ·subst z;rw[Ha];rcases hA with h | ⟨h,_⟩
    ·apply h
    ·rw[e] at h;cases h
   ·show free (KX b o e) (λz2=>?_) z;let p:=bK.mp hK (b,o) (oM e);subst z2;apply absurd (p) bg)
  let hfm:∀{b:aM}{o:fH},f.heap.get? b=aA o->o.cls = .type "module"->H b=aB:=λ{b o} e d=>free e (λz=>by rw[z] at d;first | (injection d;done) | (injection d with d;apply absurd d ∅)) λz=>by rw[z,Q] at e;cases e;injection d with d;apply absurd d ∅
  let hM:Mod K mg (MY f.heap H):=⟨hKb,j U,⟨aaa,j IF,yt⟩,let⟨mc,t,p⟩:=zC;⟨mc,j t,p⟩,⟨let⟨mc,t,p⟩:=C.statics;⟨mc,j t,p⟩,let⟨mm,t,p⟩:=C.mods;⟨mm,j t,p⟩,⟨aaa,j IF,yt⟩,let⟨mg',X,O,t,p,Y,Bt,W⟩:=C.main;⟨mg',X,O,j t,p,g Y (hfm Y Bt),Bt,W⟩⟩⟩
  let Bh:FI P w H f.heap:=λb u e=>by
   rw[<-hH] at e;rcases T6 l A b with⟨r,B,J,E⟩ | ⟨Fm,E⟩
   ·rw[E] at e;cases e;show⟨Jh r.1,0,#[],rfl,?_,trivial,λpos v IU=>?_⟩
    ·rw[<-J];apply(hT r B).2
    ·simp[mF] at IU
   ·rw[E] at e;by_cases z:b=a
    ·subst z;rcases hA with h | ⟨_,xs,h,ok⟩
     ·rw[h] at e;cases e
     ·rw[h] at e;cases e;let⟨o1,o2⟩:=ok;apply⟨o1,o2⟩
    ·rw[hO b z] at e;cases e
  let tab:DY K mg (MY f.heap H) H:=λq c t p=>by
   let⟨Pt,hm⟩:=zF q c t p;let⟨⟨o,us,file,tf,T,IC,inF,text,tt,f1,Z,f3,f4,f5,f6,f7,f8,f9,f10⟩,hP⟩:=hT _ hm;let⟨X,O,KC,b2,N,S,b5,b6⟩:=hbm;show⟨Pt,_,0,⟨o,us,file,tf,T,IC,inF,text,tt,g f1 (free f1 (λz=>by rw[z] at Z;cases Z) λz=>?_),Z,f3,f4,f5,f6,f7,f8,f9,f10⟩,IP _ hm,rfl,X,O,KC,b2,λz=>?_,λz=>?_,g N (free N (λz=>by rw[z] at S;cases S) λz=>?_),S,b5,b6⟩
   ·rw[z,Q] at f1;cases f1;injection Z with Z;apply absurd Z ∅
   ·let⟨Kq,Fc,ep,abu,hd',_⟩:=U;rw[z,abu] at N;cases N;rw[hd'] at b6;cases b6
   ·rw[z,hP] at N;cases N;cases S
   ·rw[z,Q] at N;cases N;injection S with S;apply absurd S ∅
  let e0:Hh P w K mg (MY f.heap H) rJ [] f H:=⟨rfl,hM,λb o e=>Zct e,Nat.le_of_eq (hN _ _),trivial,λb IF=>absurd (show b∈([]:Gc) from IF) ⋯,tab,Bh,.of_eq IL⟩
  let hS':Ej K H a (ns.map V.int):=by
   rcases hS with⟨o,h⟩ | h
   ·apply .inl ⟨o,by rw[Ha];apply h⟩
   ·apply .inr h
  show fU ((F _ hKb (j U)).run rJ [] f H ⟨[.ref a],[]⟩ [.ref a] [.ref a] (λv _=>v = .Iv aD) E0 B e0 (R f (.ref a)) (.cons rfl .nil)
   ⟨rfl,[.cst (iL ns)],[],.Iv aD,KA.one (Is.cst hS' (KA.ofInts ns)),hD,λv H' fq _ i _ _=>i.dO.1⟩) λr G h=>?_
  cases r with
  | error e=>apply(h).elim
  | ok Dd=>
   cases Dd with
   | next=>apply cR h
   | brk=>apply cR h
   | cont=>apply cR h
   | ret u=>
    let⟨v,H',os,bare,un,M,IW,q⟩:=h;let MR:=q;subst MR;obtain rfl:=IW
    let key:∀b o,f.heap.get? b=aA o->G.heap.get? b=aA o\/(isCodeTable f.heap b/\o=jT #[]/\∃ps,G.heap.get? b=aA (jT ps)):=λb o e=>by
     cases z:H b with
     | none=>apply .inl (un.keep b o e z (by ext z;apply absurd (show b∈([]:Gc) from z) ⋯) ⋯)
     | some u=>
      let I:=z;rw[<-hH] at I;rcases T6 l A b with⟨r,B,J,E⟩ | ⟨Fm,E⟩
      ·rw[E] at I;cases I;let⟨more,z4⟩:=un.Bw b _ z;let⟨_,_,aa2,_,e4,_⟩:=(M b _ z4);let W:=(hT r B);rw[J] at W;show .inr ⟨(W.1.tab W.2).isCodeTable,?_,aa2,e4⟩;rw[e] at W;apply bG W.2
      ·rw[E] at I;by_cases y:b=a
       ·subst y;rcases hA with h | ⟨_,xs,h,_⟩
        ·rw[h] at I;cases I
        ·rw[h] at I;cases I;let z2:=un.Dr b _ _ z;let Ko:=(Bh b _ z).1;let J:=(M b _ z2).1;rw[e] at Ko;cases Ko;apply .inl J
       ·rw[hO b y] at I;cases I
    show⟨rfl,⟨λb o e=>?_,λb o e=>?_⟩,os,bare⟩
    ·rcases key b o e with h | ⟨t,p,ps,Y⟩
     ·apply .inl h
     ·subst p;apply .inr (.inl ⟨t,rfl,#[],ps,rfl,by rw[Array.empty_append];apply Y⟩)
    ·rcases key b o e with h | ⟨t,p,ps,Y⟩
     ·apply⟨_,h⟩
     ·apply⟨_,Y⟩
 cases MK:K.lookup a with
 | some o=>
  let e:=KX a o MK;rw[Q] at e;cases e;apply L (λ_=>aB) (.inr ⟨_,vs.toArray,_,MK,rfl,rfl,rfl,by rw[aU,zu];apply Fg,by simpa using rv⟩) (.inl rfl) λ_ _=>rfl
 | none=>
  show L (λb=>if b=a then aA (.Km {cls:=.type "list",data:=.seq vs.toArray} (.lst (ns.map V.int))) else aB) (.inl ⟨{cls:=.type "list",data:=.seq vs.toArray},Be rfl⟩) (.inr ⟨MK,_,Be rfl,Q,?_⟩) λb IF=>Fb IF;apply⟨by rw[aK];apply Fg,vs,_,rv,Q⟩
open PySem.W PySem.Calls in
def law_walkT{l:PySem.W.OpenLaw}{q:bC}{j:Kn}{XP:(bH->Option aG)->b7->Prop}{T:bU->b7->Prop}{d:DefRec}{KK:Params->aH}{x:bH}{D:List PV->Option PV}(k:Nat)(Fm:l.most=aA 63)(N:d.params.defaults=[])
  (hr:MN k rJ) (A:∀w:bU,Nm (KK w.params) q=aD) (hD:∀ns:List Int,ns.length<=63->(∀n∈ns,n.natAbs.log2<=1048576)->D [.cst (iL ns)]=aA (.Iv aD))
  (Y:∀(w:bU)(h:b7),T w h->(KK w.params).In h)
  (F:∀(w:bU)(mg:Bp)(E:aM)(h:b7),(KK w.params).In h->h.Ns bP mg->mg d.name=aA (.ref E)->
   ∃Q:gj,(∀(s:aN)(u:aG),qh s Q ⟨[u],[]⟩ [(x,u)])/\∀base:b7,(KK w.params).In base->base.Ns bP mg->FD l.prog w (KK w.params) mg base Nc k E Q [x] (DS (KK w.params) D 1)) (z:PyProof.Rows.importsNone q=aD|>Ps) :
  PySem.W.WalkO q j XP T l.row.toRowW d [] (λf vs=>PySem.call f vs):=by
 ext w U e mg aaa i yy E o pm cd doc dv Hd Fu hd hcd C M B S W as p t X O hlo;obtain rfl:dv = .none:=Dflts.none C N;obtain rfl:Hd = .none:=Dflts.noKw C;let⟨a,vs,ns,rfl,rfl,v,m,b⟩:=_k.ud Fm p O
 let Z:∀n∈ns,n.natAbs.log2<=1048576:=λn h=>by
  let H:(WData.list (ns.map rT)).layable=aD:=bK.mp t _ (aO.mpr rfl);delta WData.layable at H;let y:=of_decide_eq_true (Bool.and_eq_true_iff.mp H).2;let P:WData.weightAll (ns.map rT)<=1048576:=by simpa [WData.weight] using y
  apply cA (P0 h) P
 let R:=Y w _ yy;let⟨Q,IF,hF⟩:=F w mg E _ R i.T.g M;let g:=A w;let J:=g;delta Nm at J;dsimp[aX] at J;let⟨⟨⟨g1,g2⟩,g3⟩,_⟩:=J;let hT:∀r∈Mh (KK w.params),oh e.heap r.2.1 r.2.2/\e.heap.get? r.2.2=aA (jT #[]):=λr G=>by let⟨aa9,L⟩:=dk.mp (bK.mp g3 r G);apply PySem.W.tab_of i.T R L (ri (x:=r.1) (c:=r.2.1) (Pt:=r.2.2) G).1
 let I:=i.T.bmain;show enter_call (fU (y5 R i.T.g i.T.b i.T.builtins i.T.nolimit (i.T.seer z) B (let⟨bm,Du,KC,b2,b3,b4,b5,b6⟩:=I;⟨bm,Du,KC,b2,b3,b4,b5,b6⟩) hT g1 (λq c H y=>zj g H y) (of_decide_eq_true g2) v m (cA b ∅) hr hF IF (hD ns b Z)) λr Kl MO=>?_);let⟨rfl,y,P,Bt⟩:=MO;apply⟨.inl ⟨.bool aD,.bool aD,[],rfl,λ_=>rfl,.bool aD,_k.ue l _,λ_=>⟨List.Pairwise.nil,λ_ G=>(nomatch G)⟩⟩,y,P,Bt⟩
def r5(a d:aG):argsOk "min" ⟨[a],[(iX "default",d)]⟩:=by delta argsOk;kernel_rfl
section
variable {prog:bC}{w:bU}{A:bX}{R:rP->aN->Prop}{I:aM}{Ir wr:Gc}{n:Nat}{P:K_}{St:L1}{kw:I_}
def h4(T:Walks prog w A.in1 I Ir wr n P St)(e:Nat->Nat->Bool)(E:CmpOf prog w A.in1 .Lt P e)(S:aM)(x:S∉Ir) :
  ∀(k j:Nat)(s:aN)(vb:aG)(c:Nat),n-(j+1)=k->j+1<=n->St (j+1) s.heap->P (kQ e j) vb->s.heap.get? S=aA {cls:=.type "list",dict:=aB,data:=.seq #[vb,vb] c,slots:=#[]}->
   (∀v g tk,P (kQ e (n-1)) v->(∀b o,b∉wr->b≠S->s.heap.get? b=aA o->g.get? b=aA o)->R (.ok (.ret v)) {s with heap:=g,toks:=tk})->gk (model prog w) A (.builtin "min.loop" ⟨[.ref I,.none,.ref S],kw⟩) R s:=by
 let u:=λz=>x (T.sub _ z);ext k
 induction k with
 | zero=>
  ext j s vb c C B st m i done;let t:j+1=n:=by omega
  show di F.entry_min_loop ?_;rw[fO F.plain_min_loop _];change ao _ A.in1 (kF (.ref S) >>= _) _ _ s;show aE (dh i rfl ?_);change ao _ A.in1 (tryCatch (jw (.ref I)) _ >>= _) _ _ s;show aE (kY (T.done s _ _ (t▸st) λg tk f=>?_));let a:=f S _ u i;change ao _ A.in1 (updateSeq S (λ_=>#[]) >>= _) _ _ _;show aE ?_;show oY a rfl (aE (kE (aJ ?_)));apply done vb _ tk (by rw[<-t];apply m) λb o d h q=>(bV _ _ (bN h)).trans (f b o d q)
 | succ k E2=>
  ext j s vb c C B st m i done;let lt:j+1<n:=by omega
  show di F.entry_min_loop ?_;rw[fO F.plain_min_loop _];change ao _ A.in1 (kF (.ref S) >>= _) _ _ s;show aE (dh i rfl ?_);change ao _ A.in1 (tryCatch (jw (.ref I)) _ >>= _) _ _ s;show aE (kY (T.item (j+1) s _ _ lt st λv g tk pv l f=>?_));let a:=f S _ u i;change ao _ A.in1 (tryCatch (holding [v,v] (richCompare .Lt v vb >>= _)) _ >>= _) _ _ _;show aE (kY (b9 (aE (E (j+1) (kQ e j) v vb _ _ _ pv m ?_))));show aE (b9 (dR ?_));show aE (kE (aJ ?_))
  cases z:e (j+1) (kQ e j) with
  | true=>
   show aE ?_;show oY a rfl (aE (kE ?_));show aJ ⟨jC F.plain_min_loop _,E2 (j+1) _ v _ (by omega) lt (T.frame _ _ _ l λb D o q=>?_) (by dsimp[kQ,z];apply pv) (bZ _ a rfl) λp r r_ p2 k2=>?_⟩
   ·apply(bV _ _ (λy:S=b=>x (by rw[y];apply D))).trans q
   ·apply done p r r_ p2 λb o d h q=>k2 b o d h ((bV _ _ (bN h)).trans (f b o d q))
  | false=>
   show aE (kE ?_);apply aJ ⟨jC F.plain_min_loop _,E2 (j+1) _ vb c (by omega) lt l (by dsimp[kQ,z];apply m) a λp r r_ p2 k2=>done p r r_ p2 λb o d h q=>k2 b o d h (f b o d q)⟩
def y_(T:Walks prog w A.in1 I Ir wr n P St)(i:Nat->Nat->Bool)(u:CmpOf prog w A.in1 .Lt P i)(S:aM)(j:S∉Ir)(st:St 0 s.heap)
  (l:s.heap.get? S=aA {cls:=.type "list",dict:=aB,data:=.seq #[] c,slots:=#[]})
  (done:∀v g tk,(n=0/\v=d)\/(0<n/\P (kQ i (n-1)) v)->(∀b o,b∉wr->b≠S->s.heap.get? b=aA o->g.get? b=aA o)->R (.ok (.ret v)) {s with heap:=g,toks:=tk}) :
  gk (model prog w) A (.builtin "min.loop" ⟨[.ref I,.none,.ref S],[(iX "default",d)]⟩) R s:=by
 let r:=λz=>j (T.sub _ z);show di F.entry_min_loop ?_;rw[fO F.plain_min_loop _];change ao _ A.in1 (kF (.ref S) >>= _) _ _ s;show aE (dh l rfl ?_);change ao _ A.in1 (tryCatch (jw (.ref I)) _ >>= _) _ _ s;by_cases a:n=0
 ·show aE (kY (T.done s _ _ (a▸st) λg tk f=>?_));show aE (mO ?_);apply aJ (done d g tk (.inl ⟨a,rfl⟩) λb o h _ q=>f b o h q)
 ·let a:=Nat.pos_of_ne_zero a;show aE (kY (T.item 0 s _ _ a st λv g tk pv k f=>?_));let e:=f S _ r l;change ao _ A.in1 (updateSeq S (λ_=>#[v,v]) >>= _) _ _ _;show aE ?_;show oY e rfl ?_;show aJ ⟨jC F.plain_min_loop _,h4 T i u S j _ 0 _ v _ rfl a (T.frame _ _ _ k λb t o q=>?_) pv (bZ _ e rfl) λp x r_ p2 k2=>?_⟩
  ·apply(bV _ _ (λy:S=b=>j (by rw[y];apply t))).trans q
  ·apply done p x r_ (.inr ⟨a,p2⟩) λb o h m q=>k2 b o h m ((bV _ _ (bN m)).trans (f b o h q))
end
section
variable {prog:bC}{w:bU}{A:bX}{E:IE}{s:aN}
def qn
  (h:ao (model prog w) A.in1 (mq x) (λit a=>∃I l i n P St f,it = .ref I/\Walks prog w A.in1 I l i n P St/\St 0 a.heap/\(∀b∈l,b<⇑a)/\CmpOf prog w A.in1 .Lt P f/\
   ∀v g tk,(n=0/\v=d)\/(0<n/\P (kQ f (n-1)) v)->(∀b o,b∉i->a.heap.get? b=aA o->g.get? b=aA o)->Q v {a with heap:=g,toks:=tk}) E s) :
  ao (model prog w) A (call (.builtin "min") [x] [(iX "default",d)]) Q E s:=by
 show kmk_tree PySem.F.kind_min PySem.F.plain_min PySem.F.entry_min (r5 _ _) ?_;change ao _ A.in1 (sJ "min" ["key","default"] 0 ⟨[],[(iX "default",d)]⟩ >>= _) _ _ s;show aE (m4 (rfl) ?_);show aE (aJ ?_);show aE (bQ h (λit a c=>?_) λ_ _ e=>e);let⟨I,l,i,n,P,St,f,rfl,T,st,j,u,q⟩:=c;show aE (cw ?_);let r:=λm=>cO _ (j _ m);show aJ ⟨jC F.plain_min_loop _,y_ T f u ⇑a r (T.frame _ _ _ st λb _ o e=>aF _ e) (aV _ rfl) λv g tk t p=>?_⟩;apply q v g tk t λb o k e=>p b o k (ay (aT e)) (aF _ e)
end
def K':PV->Option PV
 | .tup l=>(F2 l).bind λns=>if ns=[] then aA (.int 0) else aA (.int (Ef ns))
 | _=>aB
section
variable {X:Cx}{e:bS}{f:XE}{np aaz cp pos:gy}{j:Nat}
def Zfc(Fq:X.calm=aD)(IL:Gl X "min")(O:X.mg "min" = aB)(d:dq "min" = aA (.builtin "min"))(Ff:Kz X e f)
  (hs:aL [e] X.env=(aC,eval e X.env)::aL [] X.env|>On) (he:cQ pos (aL [e] X.env)=(aC,eval e X.env)::cQ pos (aL [] X.env)|>On) (P:(cQ pos (aL [e] X.env)).any (·.1)=aC|>On) :
  Kz X (.Call (.Name "min" np) [e] [⟨aA "default",.Constant (.int 0) j cp,aaz⟩] pos) (NR K' f):=by
 intro J s U H Q I ⟨Rm,st,l,hd,env,S,q⟩;let⟨m,Ko,e2⟩:=Zc S;show cS (Yt I IL O d ?_);show callWith_kw (ZV ((ZM Ff Xc hs) pos J s U H (λvs w=>∃v N,vs=[v]/\MX H w/\Is X.K w m v N) I ⟨Rm,st,[m],hd,env,by dsimp[HE,Ko,aY,fB],λvs w N T i _=>?_⟩) λus s1 ⟨vs,w,I1,rv,v,N,S,T,i⟩=>?_) he P
 ·let⟨v,r,f1,f2,IM,i1,i2,_⟩:=i.inv;apply⟨v,f1,by rw[IM,i2.1],T,i1⟩
 ·subst S;let⟨u,rfl,R⟩:=W9 rv;show kws_cons (ZV (Xk J s1 U w (λZ G=>Z = .int 0/\G=w) I1 ⟨rfl,rfl⟩) λJ s2 ⟨Z,G,M,Hl,e4,e5⟩=>?_);subst e4 e5;let⟨t0,rfl⟩:=Hl;show kws_nil ?_
  cases m with
  | tup ms=>
   let⟨ns,e6,L⟩:=Zc (e2);let em:=Z9 e6;subst em;let⟨p,xs,rfl,hp,W⟩:=i.b_;cases R;let⟨rfl,rfl⟩:=W.iL;let⟨y,C,a,hz⟩:=M.B8 (b:=aC) (DJ.of hp);let E:=let⟨_,e⟩:=a.has;aT e;let n:=C.length;rw[aK] at n
   let g:∀(i:Nat)(v:aG),y.toArray[i]?=aA v->∃t,v=gM (ns.getD i 0) t:=λi v d=>by
    let d:y[i]?=aA v:=by simpa using d
    let E5:i<ns.length:=by rw[n];apply(aS.mp d).1
    let⟨u,Y,R⟩:=C.get (i:=i) (x:=.int ns[i]) ⋯;rw[d] at Y;cases Y;let⟨t,rfl⟩:=R;show⟨t,?_⟩;rw[aP,aI E5];rfl
   show qn (Yk a ?_);show⟨_,_,_,_,_,_,λi j=>decide (ns.getD i 0<ns.getD j 0),rfl,Walks.B8 (A:=X.A.in1) aC (M.ok.hd Fq) ⇑s2 p (ay E) y.toArray,⟨Ad.new (aV _ rfl),a.at λo e=>aF _ e⟩,λc k=>?_,CmpOf.ints_lt (λi=>ns.getD i 0) g,λv h' tk d MK=>?_⟩
   ·change c<(s2.heap.push _).objs.size;rw[cT];rcases aW.mp k with rfl | k
    ·apply iK _
    ·rw[aO.mp k];apply eY E
   ·let D:∀z t,v=gM z t->l = .int z->EP X J U Q v {s2 with heap:=h',toks:=tk}:=λz t ez el=>by subst ez el;show⟨.int z,G,M.kept (λc o h=>MK c o ?_ (aF _ h)),⟨t,rfl⟩,q _ G [] T (Is.int _) λp hp=>by simp at hp⟩;ext O;rw[aO.mp O] at h;apply absurd (aT h) (cO _)
    rcases d with⟨F,rfl⟩ | ⟨F,d⟩
    ·let en:=bY.mp (by rw[n];simpa using F);rw[Be en] at L;apply D 0 t0 rfl (bG L).symm
    ·let B:ns≠[]:=λz=>by rw[aU,<-n,z] at F;simp at F
     rw[Fb B] at L;let⟨t,rfl⟩:=g _ _ d;let⟨g1,g2⟩:=PY (λi=>ns.getD i 0) (y.toArray.size-1);let hpos:=List.length_pos_iff.mpr B;rw[aU,<-n] at g1 g2
     let e:Ef ns=ns.getD (kQ (λi j=>decide (ns.getD i 0<ns.getD j 0)) (y.toArray.size-1)) 0:=by
      rw[aU,<-n];show Zed ?_ λx IJ=>?_
      ·rw[aP,aI (by omega)];apply cI _
      ·let⟨j,hj,aap⟩:=dJ IJ;let:=g2 j (by omega);rw[aP (i:=j),aI hj,aap] at this;apply this
     apply D _ t rfl (by rw[<-e];apply(bG L).symm)
  | _=>cases e2
end
def Nt:cJ->Option (rR×bS×jd)
 | .Return (aA (.Call _ [_,_,.Lambda a b sc _] _ _)) _=>aA (a,b,sc)
 | .Assign _ (.Call _ [_,_,.Lambda a b sc _] _ _) _=>aA (a,b,sc)
 | _=>aB
def Mi(st:cJ)(i:Nat)(q free:bH):q_:=match (FQ st)[i]? with
 | some s=>(match Nt s with
  | some (a,b,sc)=>⟨Jh q,a,b,sc,free⟩
  | none=>⟨Jh q,HI st,.Name free ⟨0,0,0,0⟩,DG st,free⟩)
 | none=>⟨Jh q,HI st,.Name free ⟨0,0,0,0⟩,DG st,free⟩
end _v
namespace _p
open _l _v _z
def DH(i:Nat):cJ:=k9.main.body.getD i (.Pass ⟨0,0,0,0⟩)
def AI:q_:=Mi (DH 43) 1 "still_by" "tree"
def JP:XE:=(DA (Nf aC) (Dz 0) (Dz 3))
def AJ:q_:=Mi (DH 38) 1 "tree_of" "purse"
def LZ:XE:=(DA Ah (DA Hu (Dz 3) (Dz 1)) (Dz 2))
open Classical in
def Am(L:q_)(l:PV)(ls:List PV):Option PV:=if L=AI then JP (ls.map aA++[aA l]) else if L=AJ then LZ (ls.map aA++[aA l]) else aB
def Cu:XS:=(BS (HB (xB (DA (KD aC) (DA XI (DA We (Dz 0) (DB (.int 4))) (DB (.int 4))) (DB (.int 3)))) (Hv (FG (DA Xa (DB (.int 5)) (DA XI (DA We (Dz 0) (DB (.int 16))) (DB (.int 3)))))) KI)
  (Hv (FG (DA Xa (DB (.int 1)) (DA XI (Dz 0) (DB (.int 4)))))))
def L7:=Hw 1 Cu
def CQ:=Hw 1 (Hv (FG (DA Hu (BO LP [Dz 0]) (DB (.int 0)))))
def JM:=Hw 1 (Hv (BO Np [Dz 0,DB (.int 0)]))
def Eh:=Hw 1 (Hv (BO CQ [BO JM [Dz 0]]))
def GQ:XS:=(Hv (FG (DA (KD aD) (DA Hu (Dz 0) (DA Hu (Dz 1) (DB (.int 0)))) (DA Hu (Dz 0) (DA Hu (Dz 1) (DB (.int 1)))))))
def CS:=Hw 2 GQ
def JR:=Hw 7 (BS (Hs 3 (FV []))
  (BS (FP [3] (Af (Dz 2)) (.one 4) (BS (Hs 5 (BO Ct [Dz 0,Dz 1,Dz 4]))
  (BS (Hs 6 (FG (BM (xB (DA KY (BO M5 [Dz 4]) (DB (.int 0)))) (DA Xa (DA Hu (Dz 4) (NR HL (DB (.int 1)))) (DB (.int 1))) (DB (.int 0)))))
  (Es 3 (HC 1 [4,5,1] (Lp [Dz 6,BO M5 [Dz 1]]) (.one 0) (xB (BO CS [Dz 2,DA Hu (Dz 3) (Dz 0)])) (FG (DA Jd (Dz 1) (DU [Dz 0]))))))))
  (Hv (Dz 3))))
def Ax:List PV->Option (bH×PV):=AM 5 (LU (Gi (xB (DA KY (BO Eh [Dz 0]) (Dz 1))) (LS "TooMany" (Dz 1)) AF) Ci AF)
def wR:∀ls m l,Ax ls=aA (m,l)->m = "TooMany":=Xf (uy (Zaf (gN rfl) Uc) Uc)
def Kb:XS:=(BS (HB (xB (DA KY (BO Eh [Dz 0]) (Dz 1))) Ci KI)
  (BS (Hs 2 (BO JA [Dz 0]))
  (BS (Hs 3 (FV [FG (DU [])]))
  (BS (FP [3] (Lp [DB (.int 1),BO M5 [Dz 0]]) (.one 4) (Hs 3 (BO JR [Dz 0,Dz 2,Dz 3])))
  (Hv (Dz 3))))))
def Jm:=Hw 5 Kb
def CG:=Hw 5 (BS (FP [] (Ay aD [Dz 0]) (.many [3,4]) (HB (D3 (xB (DA (Nf aD) (Dz 3) (Dz 1))) (xB (DA (KD aD) (DA (Nf aC) (DA Hu (Dz 4) (DB (.int 0))) (Dz 2)) (DA (Nf aC) (DA Hu (Dz 4) (DB (.int 1))) (Dz 2))))) (Hv (FG (Dz 3))) KI))
  (Hv (FG (DB .IB))))
def A2:=Hw 10 (BS (Hs 3 (BO JA [Dz 0]))
  (BS (Hs 4 (FV [FG (Dz 1)]))
  (BS (Hs 5 (FV []))
  (BS (Hs 6 (FV []))
  (BS (Hs 7 (BO CG [Dz 3,Dz 5,Dz 4]))
  (BS (Gd (xB (K1 aD (Dz 7))) (BS (Ln 5 (FG (Dz 7)))
  (BS (Hs 8 (FG (BM (xB (DA (Nf aC) (DA Hu (DA Hu (Dz 3) (Dz 7)) (DB (.int 0))) (Dz 4))) (DA Hu (DA Hu (Dz 3) (Dz 7)) (DB (.int 1))) (DA Hu (DA Hu (Dz 3) (Dz 7)) (DB (.int 0))))))
  (BS (Hs 9 (FG (BO M5 [HC 1 [8,3] (Af (Dz 5)) (.one 0) (xB (DA (Nf aC) (Dz 1) (Ho F4 (DA Hu (Dz 2) (Dz 0)) F9 (Lr (DB (.int 2)))))) (Dz 0)])))
  (BS (HB (Jx (A3 Am 2 [Dz 7,Dz 8,Dz 9])) (BS (Ln 4 (FG (Dz 8)))
  (Ln 6 (FG (DU [Dz 7,Dz 8,Dz 9])))) KI)
  (Hs 7 (BO CG [Dz 3,Dz 5,Dz 4])))))))
  (Hv (Dz 6))))))))
def CI:=Hw 8 (BS (Hs 3 (DA Gz (FV [DB (.int 0)]) (BO M5 [Dz 0])))
  (BS (Hs 4 (Ka A2 (Dz 0) (Dz 1) AI 2))
  (BS (FP [3] (Af (Dz 4)) (.many [5,6,7]) (JC 3 (Dz 6) (DA Tq (Dz 7) (DB (.int 1)))))
  (Hv (FG (BO Jf [Dz 3]))))))
def N2:List PV->Option (bH×PV):=AM 3 (JQ Ax [Dz 0,Dz 2])
def Qd:∀ls m l,N2 ls=aA (m,l)->m = "TooMany":=Xf (w_ wR)
def Mf:XS:=(Hv (BO LM [HC 1 [0,1] (Af (BO Jm [Dz 0,Dz 2])) (.one 0) Ac (BO CI [Dz 1,Dz 2,Dz 0])]))
def AQ:=Hw 3 Mf
def JO:=Hw 12 (BS (Hs 3 (BO Aq [Dz 0,Dz 1]))
  (BS (Hs 4 (FG (DA Hu (FV [DB (.int 8),DA Xa (Dz 2) (DB (.int 1))]) (BO En [DA KY (Dz 2) (DB (.int 4))]))))
  (BS (HB (D3 (xB (DA (KD aC) (DA XI (Dz 3) (DB (.int 2))) (DB (.int 1)))) (xB (K1 aD (BO Gk [DA We (Dz 3) (DB (.int 2)),Dz 2,Dz 4,DB (.int 9)])))) (Hv (BO Gk [DA We (Dz 3) (DB (.int 2)),Dz 2,Dz 4,DB (.int 9)])) KI)
  (BS (Hs 5 (DB (.E6 [] [])))
  (BS (FP [5] (Lp [DB (.int 1),Dz 2]) (.one 6) (BS (Hs 7 (BO Aq [Dz 0,DA Xa (Dz 1) (Dz 6)]))
  (BS (Hs 8 (FG (BO Jo [DA Hu (FV [DB (.int 1),DB (.int 1),DB (.int 1),DB (.int 2),DB (.int 3)]) (DA XI (DA We (Dz 7) (Dz 6)) (DB (.int 5))),DA Tq (Dz 4) (DA Tq (DA Tq (Dz 2) (DB (.int 1))) (Dz 6))])))
  (BS (Je 5 (DU [DA XI (Dz 7) (Dz 6),Dz 6]) (Dz 8))
  (Hs 4 (FG (DA Tq (Dz 4) (Dz 8))))))))
  (BS (Hs 9 (FG (DA Xa (Dz 1) (DA Hu (FV [DB (.int 5),DB (.int 27)]) (BO En [DA KY (Dz 2) (DB (.int 4))])))))
  (BS (FP [5] (Ai [Dz 2]) (.one 10) (FP [5] (Lp [DA Xa (Dz 10) (DB (.int 1)),Dz 2]) (.one 11) (BS (Hs 8 (FG (DA Hu (FV [DB (.int 0),DB (.int 1),DB (.int 0),DB (.int 1),DB (.int 2)]) (DA XI (BO Aq [Dz 0,Dz 9]) (DB (.int 5))))))
  (BS (Hs 9 (FG (DA Xa (Dz 9) (DB (.int 1)))))
  (HB (D3 (xB (EA aD (DU [Dz 10,Dz 11]) (Dz 5))) (xB (Gg Ah oLe (DB (.int 0)) (Dz 8) (Dz 4)))) (BS (Je 5 (DU [Dz 10,Dz 11]) (Dz 8))
  (Hs 4 (FG (DA Tq (Dz 4) (Dz 8))))) KI)))))
  (Hv (BO JN [Dz 5,DA We (BO Aq [Dz 0,Dz 1]) (DB (.int 7)),Dz 2])))))))))
def GA:=Hw 3 (BS (HB (HR (xB (BO JW [Dz 0,Dz 2]))) Ci KI)
  (Hv (BO CI [Dz 0,Dz 1,Dz 2])))
def Gw:=Hw 2 (BS (Hs 1 (FV [FG (An (CH "TooMany" "NoWeb") (Dz 0)),FG (An (CH "TooMany" "Apart") (Dz 0)),FG (An (CH "TooMany" "NoText") (Dz 0)),FG (An (CH "TooMany" "NoOrder") (Dz 0))]))
  (BS (Hs 1 (DA Jg (Dz 1) (FV [An (CH "TooMany" "TooMany") (Dz 0),An (CH "TooMany" "NotSettled") (Dz 0),An (CH "TooMany" "NoTree") (Dz 0)])))
  (BS (Hs 1 (DA Jg (Dz 1) (FV [An (CH "TooMany" "NoTotal") (Dz 0),An (CH "TooMany" "NoEnds") (Dz 0),An (CH "TooMany" "NoRow") (Dz 0),An (CH "TooMany" "NoName") (Dz 0)])))
  (BS (HB (HK (HR (xB (An (Nn "TooMany") (Dz 0)))) (xB (DA (KD aD) (DA LY (Dz 1) (DB (.Iv aD))) (DB (.int 1))))) (Hv (FG (NR HL (DB (.int 1))))) KI)
  (Hv (FG (DA LX (Dz 1) (DB (.Iv aD)))))))))
def LL:=Hw 6 (BS (Hs 3 (FG (DB .IB)))
  (BS (Hs 4 (FG (Dz 2)))
  (BS (HB (xB (K1 aC (Dz 2))) (BS (Hs 4 (FG (DB (.int 300)))) (Jt (λls=>N2 (ls++[.int 300])) [Dz 0,Dz 1] 5 (Hs 3 (FG (Dz 5))))) (Jt N2 [Dz 0,Dz 1,Dz 2] 5 (Hs 3 (FG (Dz 5)))))
  (Hv (FG (DW (K1 aD (Dz 3)) (DW (DA (KD aC) (BO Gw [Dz 3]) (DB (.int 4))) (DW (BO Gm [AK "TooMany" (Dz 3)]) (DA (KD aC) (AK "TooMany" (Dz 3)) (Dz 4))))))))))
def GB:=Hw 3 (Hv (FG (BO Jf [BO CJ [HC 1 [] (Af (BO A2 [Dz 0,Dz 1,Dz 2])) (.one 0) Ac (DA Hu (Dz 0) (DB (.int 0)))]])))
def Gu:=Hw 3 (Hv (FG (DW (DA (KD aC) (BO M5 [BO GH [Dz 1,Dz 2]]) (DB (.int 0))) (DA (KD aC) (BO M5 [BO LQ [Dz 0,Dz 1,Dz 2]]) (BO M5 [Dz 0])))))
def Cv:=Hw 3 (BS (HB (HR (xB (BO Gu [Dz 0,Dz 2,Dz 1]))) Ci KI)
  (Hv (Ka GB (Dz 0) (Dz 1) AJ 2)))
def L6:=Hw 7 (BS (Hs 3 (FV [FG (Dz 2)]))
  (BS (FP [3] (Ai [BO M5 [Dz 0]]) (.one 4) (FP [3] (Ai [BO M5 [Dz 0]]) (.one 5) (BS (Hs 6 (FG (BO Ni [HC 1 [0,5] (Af (Dz 3)) (.one 0) Ac (DA Hu (DA Hu (Dz 1) (Dz 2)) (Dz 0))])))
  (HB (D3 (xB (DA (Nf aD) (Dz 5) (Dz 3))) (xB (DA Ah (DA Hu (Dz 1) (Dz 5)) (Dz 6)))) (Ln 3 (FG (Dz 5))) KI))))
  (Hv (FG (DA (KD aC) (BO M5 [Dz 3]) (BO M5 [Dz 0]))))))
def N8:=Hw 4 (BS (Hs 3 (FG (DA Jd (Ho F4 (Dz 1) F9 (Lr (Dz 2))) (Ho F4 (Dz 1) (Lr (DA Xa (Dz 2) (DB (.int 1)))) F9))))
  (BS (HB (xB (DA Ah (NR K' (Dz 3)) (DB (.int 0)))) (Hv (FG (DB (.Iv aC)))) KI)
  (Hv (BO L6 [Dz 0,Dz 1,Dz 2]))))
def C2:XS:=(BS (Hs 1 (BO L7 [BO Aq [Dz 0,DB (.int 0)]]))
  (BS (Hs 2 (BO JV [BO JO [Dz 0,DB (.int 1),Dz 1],Dz 1]))
  (BS (Hs 3 (FG (DA XI (BO Aq [Dz 0,DB (.int 12)]) (Dz 1))))
  (BS (Hs 4 (FV []))
  (BS (Hs 5 (BO (λls=>Jm (ls++[.int 300])) [Dz 2]))
  (BS (FP [4,9] (Ai [BO M5 [Dz 5]]) (.one 6) (BS (Hs 7 (BO GA [Dz 2,Dz 3,DA Hu (Dz 5) (Dz 6)]))
  (BS (HB (HK (HR (xB (BO Js [Dz 7,Dz 1]))) (HK (xB (DA (KD aD) (DA Hu (Dz 7) (Dz 3)) (DB (.int 0)))) (HR (xB (BO N8 [Dz 2,Dz 7,Dz 3]))))) (Hv (FG (DB (.Iv aC)))) KI)
  (BS (Hs 8 (FG (DA Tq (DA XI (BO Aq [Dz 0,DA Xa (DB (.int 13)) (DA XI (Dz 6) (DB (.int 48)))]) (DB (.int 41))) (DB (.int 20)))))
  (BS (HB (xB (DA (KD aD) (BO Cv [Dz 2,Dz 3,DA Jd (DA Jd (Ho F4 (Dz 7) F9 (Lr (Dz 3))) (DU [Dz 8])) (Ho F4 (Dz 7) (Lr (DA Xa (Dz 3) (DB (.int 1)))) F9)]) (DA Hu (Dz 5) (Dz 6)))) (Hv (FG (DB (.Iv aC)))) KI)
  (Ln 4 (FG (Dz 7))))))))
  (BS (Hs 9 (BO (λls=>AQ (ls++[.int 300])) [Dz 2,Dz 3]))
  (BS (HB (HK (HR (xB (BO Az [Dz 9,DB (.ty "list")]))) (HK (xB (DA (KD aD) (Dz 9) (BO LM [Dz 4]))) (xB (DA (KD aD) (NR _h.GF (Dz 4)) (BO M5 [Dz 4]))))) (Hv (FG (DB (.Iv aC)))) KI)
  (BS (HB (HK (HR (xB (BO K4 [HC 1 [1] (Af (Dz 9)) (.one 0) Ac (BO Js [Dz 0,Dz 1])]))) (xB (DA (KD aD) (BO AQ [Dz 2,Dz 3,BO M5 [Dz 4]]) (BO LM [Dz 4])))) (Hv (FG (DB (.Iv aC)))) KI)
  (BS (C3 9)
  (BS (Hs 10 (FG (DB (.tup (([[0,4,0,5],[4,0,4,0],[0,4,0,4],[5,0,4,0]]:Iz).map λl=>.tup (iL l))))))
  (BS (HB (HR (xB (BO LL [Dz 10,DA XI (BO Aq [Dz 0,DB (.int 61)]) (DB (.int 4)),DB .IB]))) (Hv (FG (DB (.Iv aC)))) KI)
  (Hv (FG (DW (BO LL [Dz 2,Dz 3,DA Tq (BO M5 [Dz 4]) (DB (.int 1))]) (DA (KD aC) (BO (λls=>AQ (ls++[.int 300])) [Dz 2,Dz 3]) (BO LM [Dz 4])))))))))))))))))
def D_law:=Hw 11 C2
end _p
namespace _v
open _l
def yg(a:sc.kind = .function|>On)(b:sc.isCoroutine=aC|>On)(c:sc.isGenerator=aC|>On)(d:N.Nodup|>Ps)(e:N.take P.length=P|>On)
  (f:(∀x∈P,sc.names.lookup x=aA .local\/sc.names.lookup x=aA .cell)|>Ps) (g:(∀y∈sc.names,y.2≠.free)|>Ps):Bz N P sc:=⟨a,b,c,d,e,f,g⟩
section
variable {X:Cx}{e Ko e2 IM e4 e5:bS}{f f1 f2 f3 f4 f5:XE}{Fc:Fj}{fs:List XE}{x:bH}{p pos pos':gy}{k k' n:Nat}{O W:Iw}
def vo(i:Nat)(c:X.N[i]?=aA x|>On)(d:Gp X.env.scope x|>Sc)(b:(x==("__debug__" : bH))=aC|>Op)
  (a:(x==("__classdict__" : bH))=aC|>Op):Kz X (.Name x pos) (Dz i):=c_ (pv i c d b a)
def XW(a:Kz X Ko f1|>Os)(hs:aL [Ko] X.env=(aC,eval Ko X.env)::aL [] X.env|>On):Na X [Ko] [f1]:=ZM a Xc hs
def Wv(a:Kz X Ko f1|>Os)(b:Kz X e2 f2|>Os)(hs:aL [Ko,e2] X.env=(aC,eval Ko X.env)::aL [e2] X.env|>On)(c:aL [e2] X.env=(aC,eval e2 X.env)::aL [] X.env|>On):Na X [Ko,e2] [f1,f2]:=ZM a (XW b c) hs
def T8(a:Kz X Ko f1|>Os)(b:Kz X e2 f2|>Os)(c:Kz X IM f3|>Os)(hs:aL [Ko,e2,IM] X.env=(aC,eval Ko X.env)::aL [e2,IM] X.env|>On)(e:aL [e2,IM] X.env=(aC,eval e2 X.env)::aL [IM] X.env|>On)(d:aL [IM] X.env=(aC,eval IM X.env)::aL [] X.env|>On):Na X [Ko,e2,IM] [f1,f2,f3]:=ZM a (Wv b c e d) hs
def xY(a:Kz X Ko f1|>Os)(b:Kz X e2 f2|>Os)(c:Kz X IM f3|>Os)(d:Kz X e4 f4|>Os)(hs:aL [Ko,e2,IM,e4] X.env=(aC,eval Ko X.env)::aL [e2,IM,e4] X.env|>On)(f:aL [e2,IM,e4] X.env=(aC,eval e2 X.env)::aL [IM,e4] X.env|>On)(e:aL [IM,e4] X.env=(aC,eval IM X.env)::aL [e4] X.env|>On)(g:aL [e4] X.env=(aC,eval e4 X.env)::aL [] X.env|>On):Na X [Ko,e2,IM,e4] [f1,f2,f3,f4]:=ZM a (T8 b c d f e g) hs
def O8(C:BL X.prog X.w X.K X.mg X.base x ps (DS X.K D n) k)(i:MN k' X.A)(d:Na X (e::Fc) fs)(h:k<=k'|>Op)(g:Gl X x|>On)(f:la fs=n|>On)
  (a:(x==("__debug__" : bH))=aC|>Op) (c:aL (e::Fc) X.env=(aC,eval e X.env)::aL Fc X.env|>On) (b:(cQ pos (aL Fc X.env)).any (·.1)=aC|>On) :
  M3 X (.Call (.Name x p) (e::Fc) [] pos) (BO D fs):=Oc C (i.mono h) g d f a c b
def V2(C:BL X.prog X.w X.K X.mg X.base x ps (DS X.K D n) k)(i:MN k' X.A)(d:Na X (e::Fc) fs)(h:k<=k'|>Op)(g:Gl X x|>On)(f:la fs=n|>On)
  (a:(x==("__debug__" : bH))=aC|>Op) (c:aL (e::Fc) X.env=(aC,eval e X.env)::aL Fc X.env|>On) (b:(cQ pos (aL Fc X.env)).any (·.1)=aC|>On) :
  Kz X (.Call (.Name x p) (e::Fc) [] pos) (BO D fs):=M3.ve (Oc C (i.mono h) g d f a c b)
def vb{id:Dg}{r:List V->Hp->IG->Prop}{g:List PV->Option PV}(i:Ag X (.builtin id) r)(k:Ee X.K r g)(c:X.mg x=aB)(f:Na X (e::Fc) fs)(j:Gl X x|>On)(l:dq x=aA (.builtin id)|>Ps)(h:x≠"__name__"|>Op)(a:(x==("__debug__" : bH))=aC|>Op)
  (d:aL (e::Fc) X.env=(aC,eval e X.env)::aL Fc X.env|>On) (b:(cQ pos (aL Fc X.env)).any (·.1)=aC|>On):Kz X (.Call (.Name x p) (e::Fc) [] pos) (BO g fs):=Y0 i k j c l f h a d b
def wy{id:Dg}{r:List V->Hp->IG->Prop}{g:List PV->Option PV}(i:Ag X (.builtin id) r)(k:Gf X.K r g)(c:X.mg x=aB)(f:Na X (e::Fc) fs)(j:Gl X x|>On)(l:dq x=aA (.builtin id)|>Ps)(h:x≠"__name__"|>Op)(a:(x==("__debug__" : bH))=aC|>Op)
  (d:aL (e::Fc) X.env=(aC,eval e X.env)::aL Fc X.env|>On) (b:(cQ pos (aL Fc X.env)).any (·.1)=aC|>On):M3 X (.Call (.Name x p) (e::Fc) [] pos) (BO g fs):=tx i k j c l f h a d b
def Qe(c:X.mg "len" = aB)(d:Kz X e f|>Os)(g:Gl X "len"|>On)(b:aL [e] X.env=(aC,eval e X.env)::aL [] X.env|>On)(a:(cQ pos (aL [] X.env)).any (·.1)=aC|>On):Kz X (.Call (.Name "len" p) [e] [] pos) (BO M5 [f]):=
 Y0 hy Zit g c (by decide +kernel) (XW d b) ∅ ∅ b a
def Yy(i:Nat)(a:X.N.Nodup)(b:M3 X e fe)(f:X.N[i]?=aA x|>On)(c:BP X.env.scope x:=by first | apply mM rfl | apply om rfl)(hs:iH e (aA (.Name x pos')) pos.line X.env=pure aC|>On)(d:X.fn x=aD\/X.env.scope.names.lookup x=aA .local|>Pv) :
  DO X O [i] (.Assign [.Name x pos'] e pos) (Hs i fe):=Y9 a f c b hs d
def T9(i:Nat)(a:X.N.Nodup)(d:X.N[i]?=aA x|>On)(b:BP X.env.scope x:=by first | apply mM rfl | apply om rfl)(c:X.fn x=aD\/X.env.scope.names.lookup x=aA .local|>Pv):Aj X (.Name x pos) (H9 i):=QD a d b c
def uF(i:Nat)(a:N.Nodup|>Ps)(d:N[i]?=aA x|>On)(b:BP (B1 X N scope cl C s H ex).env.scope x:=by apply mM rfl)(c:(B1 X N scope cl C s H ex).env.scope.names.lookup x=aA .local|>On):Aj (B1 X N scope cl C s H ex) (.Name x pos) (H9 i):=QD a d b (.inr c)
end
section
variable {X:Cx}{IC iter elt Ko e2:bS}{fi:XL}{T:oo}{ft:XT}{fe f1 f2:XE}{p pos pos':gy}{O W:Iw}{body:L_}{fb:XS}{scope:jd}
def Ym(e:Nj X IC iter fi)(b:Aj X IC (HW X.K T))(c:Ls X O W body fb)(hp:pT (model X.prog X.w) X.A X.env X.Bk:=by apply iu)(a:X.calm=aD|>On)(d:(∀i∈T.slots,i∉O)|>Op)
  (hs:(∀x,cY iter X.env x=pure x)|>Pi):DO X O (T.slots++W) (.For IC iter body [] pos) (FP O fi T fb):=Zi1 hp a e b c d hs
def uz(b:X.mg "range" = aB)(a:Kz X Ko f1)(c:Gl X "range"|>On)(hs:aL [Ko] X.env=[(aC,eval Ko X.env)]|>On):Nj X IC (.Call (.Name "range" p) [Ko] [] pos) (Ai [f1]):=lb c b (XW a (by rw[hs];rfl)) hs
def vA(b:X.mg "range" = aB)(c:Kz X Ko f1)(e:Kz X e2 f2)(d:Gl X "range"|>On)(hs:aL [Ko,e2] X.env=[(aC,eval Ko X.env),(aC,eval e2 X.env)]|>On)(a:aL [e2] X.env=[(aC,eval e2 X.env)]|>On):Nj X IC (.Call (.Name "range" p) [Ko,e2] [] pos) (Lp [f1,f2]):=e3 d b (Wv c e (by rw[hs,a]) (by rw[a];rfl)) hs a
def uA(o:bH)(fr:Kn)(b:Iw)(a:Nj X (.Name o pos') iter fi)(c:∀{cl C s H ex},Kz (B1 X ([o]++fr) scope cl C s H ex) elt fe)(S:HZ X.N X.env.scope scope [o] fr b=aD:=by kernel_rfl)
  (g:([o]++fr).Nodup|>Ps) (f:∀cl C s H ex,BP (B1 X ([o]++fr) scope cl C s H ex).env.scope o:=by ext _ _ _ _ _;apply mM rfl) (d:∀cl C s H ex,(B1 X ([o]++fr) scope cl C s H ex).env.scope.names.lookup o=aA .local:=by ext _ _ _ _ _;rfl) (e:X.calm=aD|>On) (hs:(∀x,cY iter X.env x=pure x)|>Pi) :
  Kz X (.ListComp elt [⟨.Name o pos',iter,[],0⟩] scope pos) (HC 1 b fi (.one 0) Ac fe):=eX [o] fr b e a S (λ_ _ _ _ _=>QD (i:=0) g rfl (f _ _ _ _ _) (.inr (d _ _ _ _ _))) (λ_ _ _ _ _=>U5) (λ_ _ _ _ _=>c) (λi a=>by cases a with | head=>apply sG | tail _ h=>cases h) hs
def vcq(o:bH)(fr:Kn)(b:Iw)(a:Nj X (.Name o pos') iter fi)(g:∀{cl C s H ex},N6 (B1 X ([o]++fr) scope cl C s H ex) ifs ft)(c:∀{cl C s H ex},Kz (B1 X ([o]++fr) scope cl C s H ex) elt fe)(S:HZ X.N X.env.scope scope [o] fr b=aD:=by kernel_rfl)
  (j:([o]++fr).Nodup|>Ps) (f:∀cl C s H ex,BP (B1 X ([o]++fr) scope cl C s H ex).env.scope o:=by ext _ _ _ _ _;apply mM rfl) (d:∀cl C s H ex,(B1 X ([o]++fr) scope cl C s H ex).env.scope.names.lookup o=aA .local:=by ext _ _ _ _ _;rfl) (e:X.calm=aD|>On) (hs:(∀x,cY iter X.env x=pure x)|>Pi) :
  Kz X (.ListComp elt [⟨.Name o pos',iter,ifs,0⟩] scope pos) (HC 1 b fi (.one 0) ft fe):=eX [o] fr b e a S (λ_ _ _ _ _=>QD (i:=0) j rfl (f _ _ _ _ _) (.inr (d _ _ _ _ _))) (λ_ _ _ _ _=>g) (λ_ _ _ _ _=>c) (λi a=>by cases a with | head=>apply sG | tail _ h=>cases h) hs
end
structure BX(P:bC)(w:bU)(K:aH)(mg:Bp)(base:b7):Prop extends Blt mg
section
variable {K:aH}{P:bC}{w:bU}{mg:Bp}{base:b7}{x a b c d e:bH}{st:cJ}{k m:Nat}{W:Iw}{f:XS}
abbrev Zom(P:bC)(w:bU)(K:aH)(mg:Bp)(base:b7)(N:Kn)(x:bH)(st:cJ)(k:Nat)(O W:Iw)(f:XS):Prop:=∀{fa:aM}{BC:aG}{A:bX}{outer:Dk}{s:aN}{H:Hp}{E:Kp},N.Nodup->MN k (A.deeper (jE x (DG st) ⇑s fa BC))->Ls (K3 Nc P w K mg base N x (DG st) fa BC A outer s H E).Hb O W (FQ st) f
abbrev Tc(_:BX P w K mg base)(x:bH)(ps:Kn)(D:List PV->Option PV)(n k:Nat):Prop:=BL P w K mg base x ps (DS K D n) k
def lS{u:E4}{n:Nat}(h:la u=n+1):∃a l,u=a::l/\l.length=n:=by
 cases u with
 | nil=>cases h
 | cons a l=>apply⟨a,l,rfl,mD h⟩
def l1{u:E4}(h:la u=1):∃a,u=[a]:=by let⟨a,l,rfl,g⟩:=lS h;apply⟨a,by rw[bY.mp g]⟩
def l2{u:E4}(h:la u=2):∃a b,u=[a,b]:=by let⟨a,l,rfl,g⟩:=lS h;let⟨b,rfl⟩:=l1 g;apply⟨a,b,rfl⟩
def l3{u:E4}(h:la u=3):∃a b c,u=[a,b,c]:=by let⟨a,l,rfl,g⟩:=lS h;let⟨b,c,rfl⟩:=l2 g;apply⟨a,b,c,rfl⟩
def ek {ps:Kn}{n:Nat} (O:Iw) (N:Kn) (D:Def K mg x st) (q:Zom P w K mg base N x st k O W f) (S:Bz N ps (DG st):=by apply yg) (c:∀(FH doc pm:aG)(an:I')(BC Bi:aG)(us:E4),us.length=la ps->i8 (cX x x (HI st) (FQ st) (DG st) .none FH doc pm an BC Bi) ⟨us,[]⟩=pure (ps.zip us):=by
  ext _ _ _ _ _ _ u h
  repeat (have g:=lS h;clear h;let⟨_,u,rfl,h⟩:=g)
  cases List.eq_nil_of_length_eq_zero h;rfl) (b:la ps=n|>On) (a:la N=m|>On) (d:(∀i∈O,n<=i)|>Op):BL P w K mg base x ps (DS K (Hw m f) n) (k+1):=Zi3 m f D S c b a d λ_ _ _ _ _ _ _ e=>q S.E3 e
variable {X:Cx}{Ko e2:bS}{f1 f2:XE}{pos:gy}
def it(a:Kz X Ko f1|>Os)(b:Kz X e2 f2|>Os)(hs:CK e2:=by apply λ_ _=>rfl):Kz X (.Subscript Ko e2 pos) (DA Hu f1 f2):=Zdw a b hs
def ad(a:Kz X Ko f1|>Os)(b:Kz X e2 f2|>Os):Kz X (.BinOp Ko .Add e2 pos) (DA Xa f1 f2):=Zil a b
def md(a:Kz X Ko f1|>Os)(b:Kz X e2 f2|>Os):Kz X (.BinOp Ko .Mod e2 pos) (DA XI f1 f2):=Zin a b
end
end _v
namespace _p
open _l _v _z
section
variable {P:bC}{w:bU}{K:aH}{mg:Bp}{base:b7}
variable (B:BX P w K mg base)
abbrev Oj:=Tc B "_law_houses" ["_law_cell_here"] L7 1 1
abbrev Ol:=Tc B "_law_square" ["_law_times_here","_law_many"] JV 2 1
abbrev Vm:=Tc B "ties_of" ["web"] JA 1 1
abbrev Mk:=Tc B "reduced" ["row","by","place","divisor"] GG 4 1
abbrev J6:=Tc B "evened" ["rows"] LP 1 2
abbrev TU:=Tc B "determinant" ["square"] CQ 1 3
abbrev Ml:=Tc B "ties_at" ["web","house"] EE 2 1
abbrev J7:=Tc B "row_of" ["web","house","others"] EG 3 2
abbrev Vn:=Tc B "square_without" ["web","base"] Np 2 3
abbrev Qf:=Tc B "square_of" ["web"] JM 1 4
abbrev Xl:=Tc B "tree_count" ["web"] Eh 1 5
abbrev UQ:=Tc B "pieces_of" ["web","ties","grove"] Ct 3 1
abbrev SO:=Tc B "is_between" ["pieces","ends"] CS 2 1
abbrev Kc:=Tc B "grown" ["web","ties","groves"] JR 3 2
abbrev Kd:=Tc B "trees" ["web","most"] Jm 2 6
abbrev Vo:=Tc B "tie_to_look_at" ["ties","looked","fire"] CG 3 1
abbrev Om:=Tc B "walked" ["web","base","burns"] A2 3 2
abbrev V3:=Tc B "still_by" ["web","base","tree"] CI 3 3
abbrev J8:=Tc B "stills" ["web","base","most"] AQ 3 7
abbrev Oo:=Tc B "_law_cell" ["_law_script","_law_k"] Aq 2 1
abbrev Qg:=Tc B "_law_renamed" ["_law_found","_law_cell_here","_law_many"] JN 3 1
abbrev UR:=Tc B "_law_read_times" ["_law_rest","_law_many","_law_room","_law_most"] Gk 4 1
abbrev Oq:=Tc B "_law_times" ["_law_script","_law_at","_law_many"] JO 3 2
abbrev Mm:=Tc B "is_tree" ["web","numbers"] JW 2 2
abbrev Ot:=Tc B "still_of" ["web","base","tree"] GA 3 4
abbrev RM:=Tc B "_law_whole" ["_law_thing"] Gm 1 1
abbrev J9:=Tc B "_law_kind" ["_law_e"] Gw 1 1
abbrev SQ:=Tc B "_law_too_many" ["_law_web","_law_base","_law_most"] LL 3 8
abbrev Mn:=Tc B "tree_by" ["web","base","burns"] GB 3 3
abbrev Mo:=Tc B "in_debt" ["purse","base"] GH 2 1
abbrev Mp:=Tc B "ties_to" ["web","house","others"] ED 3 1
abbrev Uh:=Tc B "house_to_burn" ["web","purse","fire"] LO 3 2
abbrev ES:=Tc B "burnt" ["web","purse","base"] LQ 3 3
abbrev SR:=Tc B "is_settled" ["web","purse","base"] Gu 3 4
abbrev Mq:=Tc B "tree_of" ["web","base","purse"] Cv 3 5
abbrev Mr:=Tc B "_law_tuple" ["_law_found","_law_many"] Js 2 2
abbrev SS:=Tc B "_law_all_burn" ["_law_web","_law_purse","_law_base"] L6 3 1
abbrev Qh:=Tc B "_law_settled" ["_law_web","_law_purse","_law_base"] N8 3 2
end
section
variable {P:bC}{w:bU}{K:aH}{mg:Bp}{base:b7} (B:BX P w K mg base)
def QC:SK (["tie","house","seen","tree"]:Kn) (["tie","house","seen"]:Kn) AI:=⟨rfl,rfl,rfl,by decide +kernel,by decide +kernel,rfl,by decide +kernel,rfl,by decide +kernel,by decide +kernel⟩
def m3(B:BX P w K mg base):J3 P w K mg base 1 AI (λl ls=>JP (ls.map aA++[aA l])) 3:=
 Za1 (k:=0) JP QC (λ_ _ _ _ f b=>by let⟨_,_,_,rfl⟩:=l3 b;apply rfl) rfl (λg c e A a s H d=>(Ts d.units (c_ (pv 0)) (c_ (pv 3))))
def zl:SK (["tie","house","seen","purse"]:Kn) (["tie","house","seen"]:Kn) AJ:=⟨rfl,rfl,rfl,by decide +kernel,by decide +kernel,rfl,by decide +kernel,rfl,by decide +kernel,by decide +kernel⟩
def hi(B:BX P w K mg base):J3 P w K mg base 1 AJ (λl ls=>LZ (ls.map aA++[aA l])) 3:=
 Za1 (k:=0) LZ zl (λ_ _ _ _ d b=>by let⟨_,_,_,rfl⟩:=l3 b;apply rfl) rfl (λg c e A a s H f=>(Zlv (it (c_ (pv 3)) (c_ (pv 1))) (c_ (pv 2))))
def Zfd(B:BX P w K mg base):∀L,(∃l ls r,Am L l ls=aA r)->J3 P w K mg base 1 L (Am L) 3:=by
 intro L ⟨l,ls,r,h⟩;by_cases a:L=AI
 ·let q:Am L=λl ls=>JP (ls.map aA++[aA l]):=by funext l ls;delta Am;rw[Be a]
  rw[q,a];apply m3 B
 by_cases b:L=AJ
 ·let q:Am L=λl ls=>LZ (ls.map aA++[aA l]):=by funext l ls;delta Am;rw[Fb a,Be b]
  rw[q,b];apply hi B
 delta Am at h;rw[Fb a,Fb b] at h;cases h
abbrev Ou:cJ:=DH 50
def Tz(a:Def K mg "_law_houses" Ou):Oj B:=
 ek [] ["_law_cell_here"] a λc b=>
  (Zd (YQ (ya b.units (md (Xb (vo 0) Zi)) Zi) (Zf (Zs (Kz.pure (ad Zi (md (Xb (vo 0) Zi)))))) ZP)
  (Zf (Zs (Kz.pure (ad Zi md)))))
abbrev Ov:cJ:=DH 52
def U2(c:Def K mg "_law_square" Ov):Ol B:=
 ek [2] ["_law_times_here","_law_many","_law_rows","_law_one","_law_other"] c λa b=>
  (Zd (Zw (["_law_house"]:Kn) (["_law_many"]:Kn) [1] (i:=2) a rfl rfl rfl (uz B.range (vo 1)) (by kernel_rfl) (λ_ _ _ _ _=>(uF 0)) (λ_ _ _ _ _=>U5) (λ_ _ _ _ _=>(sN (W0 XW) (vo 1))))
  (Zd (zN (SP iu rfl (yQ (pv 0)) (WU (n:=2) rfl (ZE (T9 3 a) (ZE (T9 4 a) XC))) (Zd (Pq (ZF (Uv (R6 b) (vo 0) (YT Wv)) (ZK (Sd mn (pv 2) (vo 3) (λ_ _=>rfl)) (vo 4) Pc)))
  (Zf (Pq (ZF (Uv (R6 b) (vo 0) (YT Wv)) (ZK (Sd mn (pv 2) (vo 4) (λ_ _=>rfl)) (vo 3) Pc)))))))
  (Zf (Zs (Kz.pure (Ys Ya Wh rfl B.tuple (by decide +kernel) (XW (uA "_law_row" [] [] (YH (vo 2)) (Ys Ya Wh rfl B.tuple (by decide +kernel) XW)))))))))
abbrev Ms:cJ:=DH 21
def xd(b:Def K mg "ties_of" Ms):Vm B:=
 ek [1] ["web","ties","a","row","b"] b λa c=>
  (Zd (Yy 1 a (Xw YG))
  (Zd (Ym (Sr aC rfl B.enumerate XW) (WU (n:=2) rfl (ZE (T9 2 a) (ZE (T9 3 a) XC))) (Zf (Ym (vA B.range ad (Qe B.len)) (T9 4 a) (Zf (Vy (YF (Va bq nG nH RC (pv 1) (ZA (QM (["nth"]:Kn) (["a","b"]:Kn) [2,4] rfl (uz B.range it) (by kernel_rfl) (λ_ _ _ _ _=>(uF 0)) (λ_ _ _ _ _=>U5) (λ_ _ _ _ _=>(Kz.pure (YT T8)))) Yc))))))))
  (Zf (WK (pv 1)))))
abbrev Mu:cJ:=DH 25
def dx(a:Def K mg "reduced" Mu):Mk B:=
 ek [] ["row","by","place","divisor"] a λc b=>
  (Zf (Zs (Kz.pure (Ys Ya Wh rfl B.tuple (by decide +kernel) (XW (eX (["number","other"]:Kn) (["divisor","by","place","row"]:Kn) [3,1,2,0] rfl (Ziz aC aC rfl B.zip Wv) (by kernel_rfl) (λ_ _ _ _ _=>(WU (n:=2) rfl (ZE (uF 0) (ZE (uF 1) XC)))) (λ_ _ _ _ _=>U5) (λ_ _ _ _ _=>(lD (Wf (yk it (vo 0)) (yk it (vo 1))) (vo 2)))))))))
abbrev Ig:cJ:=DH 24
def w3(d:Def K mg "evened" Ig)(a:Mk B):J6 B:=
 ek [1] ["rows","left","divisor","place","by"] d λb c=>
  (Zd (Yy 1 b (WZ Sf Wr rfl B.list (by decide +kernel) XW))
  (Zd (Yy 2 b (Kz.pure Zi))
  (Zd (Ym (uz B.range (Qe B.len)) (T9 3 b) (Zd (Yy 4 b (Kz.pure it))
  (Zd (Zw (["at","row"]:Kn) (["place","by","divisor"]:Kn) [3,4,2] (i:=1) b rfl rfl rfl (Sr aD rfl B.enumerate XW) (by kernel_rfl) (λ_ _ _ _ _=>(WU (n:=2) rfl (ZE (uF 0) (ZE (uF 1) XC)))) (λ_ _ _ _ _=>U5) (λ_ _ _ _ _=>(Kz.pure (gg (ya c.units (vo 0) (vo 2)) (vo 1) (V2 a c xY)))))
  (Zf (Yy 2 b (Kz.pure it))))))
  (Zf (kv (XU (ZA (vo 2) (ZA (pv 1) Yc))))))))
abbrev TV:cJ:=DH 23
def Ox(b:Def K mg "determinant" TV)(a:J6 B):TU B:=
 ek [] ["square"] b λd c=>
  (Zf (Zs (Kz.pure (it (V2 a c XW)))))
abbrev Mv:cJ:=DH 20
def u5(a:Def K mg "ties_at" Mv):Ml B:=
 ek [] ["web","house"] a λb c=>
  (Zf (Zs (Kz.pure (vb (Rt rfl) Zv B.sum (XW it)))))
abbrev Ih:cJ:=DH 29
def vZ(c:Def K mg "row_of" Ih)(a:Ml B):J7 B:=
 ek [] ["web","house","others"] c λd b=>
  (Zf (Zs (Kz.pure (Ys Ya Wh rfl B.tuple (by decide +kernel) (XW (uA "other" ["house","web"] [1,0] (YH (vo 2)) (gg (ya b.units (vo 0) (vo 1)) (V2 a b Wv) (uY (it it)))))))))
abbrev Vp:cJ:=DH 28
def SU(c:Def K mg "square_without" Vp)(a:J7 B):Vn B:=
 ek [] ["web","base","others"] c λd b=>
  (Zd (Yy 2 d (QM (["house"]:Kn) (["base"]:Kn) [1] rfl (uz B.range (Qe B.len)) (by kernel_rfl) (λ_ _ _ _ _=>(uF 0)) (λ_ _ _ _ _=>(QL (TN b.units (vo 0) (vo 1)))) (λ_ _ _ _ _=>(Kz.pure (vo 0)))))
  (Zf (Zs (Kz.pure (Ys Ya Wh rfl B.tuple (by decide +kernel) (XW (uA "house" ["web","others"] [0,2] (YH (vo 2)) (V2 a b T8))))))))
abbrev Qi:cJ:=DH 27
def YR(b:Def K mg "square_of" Qi)(a:Vn B):Qf B:=
 ek [] ["web"] b λd c=>
  (Zf (Zs (O8 a c Wv)))
abbrev SV:cJ:=DH 31
def vq(d:Def K mg "tree_count" SV)(a:TU B)(b:Qf B):Xl B:=
 ek [] ["web"] d λe c=>
  (Zf (Zs (O8 a c (XW (V2 b c XW)))))
abbrev Qj:cJ:=DH 34
def ZO(b:Def K mg "pieces_of" Qj):UQ B:=
 ek [3] ["web","ties","grove","pieces","tie","ends","kept","gone"] b λa c=>
  (Zd (Yy 3 a (vc rfl rfl B.list rfl B.range (Qe B.len)))
  (Zd (Ym (PT (vo 2)) (T9 4 a) (Zd (Yy 5 a (Kz.pure it))
  (Zd (Yy 6 a (Kz.pure (it (vo 3) it)))
  (Zd (Yy 7 a (Kz.pure (it (vo 3) it)))
  (Zf (Zw (["piece"]:Kn) (["kept","gone"]:Kn) [6,7] (i:=3) a rfl rfl rfl (YH (vo 3)) (by kernel_rfl) (λ_ _ _ _ _=>(uF 0)) (λ_ _ _ _ _=>U5) (λ_ _ _ _ _=>(Kz.pure (gg (ya c.units (vo 0) (vo 2)) (vo 1) (vo 0))))))))))
  (Zf (WK (pv 3)))))
abbrev SW:cJ:=DH 35
def yd(a:Def K mg "is_between" SW):SO B:=
 ek [] ["pieces","ends"] a λc b=>
  (Zf (Zs (Kz.pure (Zl1 b.units (it (vo 0) it) (it (vo 0) it)))))
abbrev ET:cJ:=DH 33
def Zba(e:Def K mg "grown" ET)(b:UQ B)(a:SO B):Kc B:=
 ek [3] ["web","ties","groves","found","grove","pieces","behind"] e λc d=>
  (Zd (Yy 3 c (Xw YG))
  (Zd (Ym (YH (vo 2)) (T9 4 c) (Zd (Yy 5 c (O8 b d T8))
  (Zd (Yy 6 c (Kz.pure (gg (XH (Qe B.len) Zi) (ad (it (vo 4) (uY Zi))) Zi)))
  (Zf (Vy (YF (Va bq nG nH RC (pv 3) (ZA (QM (["tie"]:Kn) (["grove","pieces","ties"]:Kn) [4,5,1] rfl (vA B.range (vo 6) (Qe B.len)) (by kernel_rfl) (λ_ _ _ _ _=>(uF 0)) (λ_ _ _ _ _=>(QL (WY (V2 a d (Wv (vo 2) it))))) (λ_ _ _ _ _=>(Kz.pure (Uw QR QS (vo 1) (YT XW))))) Yc))))))))
  (Zf (WK (pv 3)))))
abbrev Tj:cJ:=DH 32
def z2:Bz ["web","most","ties","groves","size"] ["web","most"] (DG Tj):=yg
def Zbb(f:UI K mg "trees" Tj 300)(a:Xl B)(b:Vm B)(c:Kc B):Cj P w K mg base "trees" (["web","most"]:Kn) (DS K Jm 2) 6 300:=
 zq (O:=[3]) (k:=5) 5 Kb f z2 (λ_ _ _ _ _ _ _ _ i g=>by let⟨_,rfl⟩:=l1 (mD g);apply⟨_,rfl,rfl⟩) rfl rfl ∅ (λj h A d s H E e=>
  (Zd (YQ (XH (V2 a e XW) (vo 1)) (Zf (Vg (W:=[]))) ZP)
  (Zd (Yy 2 z2.E3 (O8 b e XW))
  (Zd (Yy 3 z2.E3 (Xw (YX (Kz.pure (YT Xc)) YG)))
  (Zd (Ym (vA B.range Zi (Qe B.len)) (T9 4 z2.E3) (Zf (Yy 3 z2.E3 (O8 c e T8))))
  (Zf (WK (pv 3))))))))
def w0(f:UI K mg "trees" Tj 300)(a:Xl B)(b:Vm B)(c:Kc B):Kd B:=
 _z.t2 (O:=[3]) (k:=5) 5 Kb f z2 (λ_ _ _ _ _ _ _ _ i g=>by let⟨_,_,rfl⟩:=l2 g;apply⟨_,rfl,rfl⟩) rfl rfl ∅ (λj h A d s H E e=>
  (Zd (YQ (XH (V2 a e XW) (vo 1)) (Zf (Vg (W:=[]))) ZP)
  (Zd (Yy 2 z2.E3 (O8 b e XW))
  (Zd (Yy 3 z2.E3 (Xw (YX (Kz.pure (YT Xc)) YG)))
  (Zd (Ym (vA B.range Zi (Qe B.len)) (T9 4 z2.E3) (Zf (Yy 3 z2.E3 (O8 c e T8))))
  (Zf (WK (pv 3))))))))
def h7{h e:aM}(d:UI K mg "trees" Tj 300)(Q:_z.Q3 "TooMany" P w K mg base h e)(a:Xl B):_z.qb P w K mg base "trees" (["web","most"]:Kn) (_z.HJ K Ax 2) 6:=
 _z.vf (O:=[3]) (k:=5) 5 (LU (Gi (xB (DA KY (BO Eh [Dz 0]) (Dz 1))) (LS "TooMany" (Dz 1)) AF) Ci AF) d z2 (λ_ _ _ _ _ _ _ _ i f=>by let⟨_,_,rfl⟩:=l2 f;apply⟨_,rfl,rfl⟩) rfl rfl ∅ (λj g A b s H E c=>
  (X9 (Zgv (XH (V2 a c XW) (vo 1)) (QV (WM F.excBase_ValueError Q.f.cf (c.mono ∅) rfl Q.f.υ Q.f.no rfl SM (vo 1))) W8) (Vg (W:=[])) W8))
def dT{h e:aM}(d:UI K mg "trees" Tj 300)(Q:_z.Q3 "TooMany" P w K mg base h e)(a:Xl B):_z.pb P w K mg base "trees" (["web","most"]:Kn) (_z.HJ K Ax 2) 6 300:=
 _z.vg (O:=[3]) (k:=5) 5 (LU (Gi (xB (DA KY (BO Eh [Dz 0]) (Dz 1))) (LS "TooMany" (Dz 1)) AF) Ci AF) d z2 (λ_ _ _ _ _ _ _ _ i f=>by let⟨_,rfl⟩:=l1 (mD f);apply⟨_,rfl,rfl⟩) rfl rfl ∅ (λj g A b s H E c=>
  (X9 (Zgv (XH (V2 a c XW) (vo 1)) (QV (WM F.excBase_ValueError Q.f.cf (c.mono ∅) rfl Q.f.υ Q.f.no rfl SM (vo 1))) W8) (Vg (W:=[])) W8))
abbrev Vq:cJ:=DH 41
def SX(c:Def K mg "tie_to_look_at" Vq):Vo B:=
 ek [] ["ties","looked","fire","tie","ends"] c λb a=>
  (Zd (Ym (Sr aD rfl B.enumerate XW) (WU (n:=2) rfl (ZE (T9 3 b) (ZE (T9 4 b) XC))) (Zf (YQ (_a.vt (Ux (UD a.units (vo 3) (vo 1)) (WD (TN a.units (Ts a.units it (vo 2)) (Ts a.units it (vo 2)))))) (Zf (Zs (Kz.pure (vo 3)))) ZP)))
  (Zf (Zs (Kz.pure PS))))
abbrev Ii:cJ:=DH 40
def tl(e:Def K mg "walked" Ii)(b:Vm B)(a:Vo B):Om B:=
 ek [4,5,6] ["web","base","burns","ties","fire","looked","burning","tie","house","seen"] e λc d=>
  (Zd (Yy 3 c (O8 b d XW))
  (Zd (Yy 4 c (Xw (YX (Kz.pure (vo 1)) YG)))
  (Zd (Yy 5 c (Xw YG))
  (Zd (Yy 6 c (Xw YG))
  (Zd (Yy 7 c (O8 a d T8))
  (Zd (Zk iu (uX (vo 7)) (Zd (Y3 (YF (Va bq dD dE Y2 (pv 5) (ZA (Kz.pure (vo 7)) Yc))))
  (Zd (Yy 8 c (Kz.pure (gg (Rh d.units (it it) (vo 4)) (it it) (it it))))
  (Zd (Yy 9 c (Kz.pure (Qe B.len (vcq "other" ["house","ties"] [8,3] (YH (vo 5)) (QL (Rh d.units (vo 1) (Vd it Ss (VC Zi)))) (vo 0)))))
  (Zd (YQ (uH (M3.ve (Zjj 2 rfl (mM rfl) (Zfd B) (d.mono ∅) T8))) (Zd (Y3 (YF (Va bq dD dE Y2 (pv 4) (ZA (Kz.pure (vo 8)) Yc))))
  (Zf (Y3 (YF (Va bq dD dE Y2 (pv 6) (ZA (Kz.pure (YT T8)) Yc)))))) ZP)
  (Zf (Yy 7 c (O8 a d T8))))))))
  (Zf (WK (pv 6)))))))))
abbrev Oy:cJ:=DH 43
def WT(c:Def K mg "still_by" Oy)(a:Om B):V3 B:=
 ek [3] ["web","base","tree","coins","burning","number","end","looked_at"] c λb d=>
  (Zd (Yy 3 b (sN (W0 XW) (Qe B.len)))
  (Zd (Yy 4 b (vz (q:="still_by") (L:=AI) (i:=2) rfl rfl rfl a (d.mono ∅) rfl rfl rfl rfl (vo 0) (vo 1) (p8 _) rfl ∅ rfl rfl ⟨_,rfl,rfl⟩ rfl rfl rfl rfl))
  (Zd (Ym (YH (vo 4)) (WU (n:=3) rfl (ZE (T9 5 b) (ZE (T9 6 b) (ZE (T9 7 b) XC)))) (Zf (vu (ZF (Wf (vo 7) Zi) (ZK (pv 3) (vo 6) Pc)))))
  (Zf (Zs (Kz.pure (Ys Ya Wh rfl B.tuple (by decide +kernel) XW)))))))
abbrev Vr:cJ:=DH 44
def z1:Bz ["web","base","most"] ["web","base","most"] (DG Vr):=yg
def wi(e:UI K mg "stills" Vr 300)(a:V3 B)(b:Kd B):Cj P w K mg base "stills" (["web","base","most"]:Kn) (DS K AQ 3) 7 300:=
 zq (O:=[]) (k:=6) 3 Mf e z1 (λ_ _ _ _ _ _ _ _ h f=>by let⟨_,_,rfl⟩:=l2 (mD f);apply⟨_,rfl,rfl⟩) rfl rfl ∅ (λi g A c s H E d=>
  (Zf (Zs (wy Xh XN B.sorted (XW (uA "tree" ["web","base"] [0,1] (YH (V2 b d Wv)) (V2 a d T8)))))))
def tu(e:UI K mg "stills" Vr 300)(a:V3 B)(b:Kd B):J8 B:=
 _z.t2 (O:=[]) (k:=6) 3 Mf e z1 (λ_ _ _ _ _ _ _ _ h f=>by let⟨_,_,_,rfl⟩:=l3 f;apply⟨_,rfl,rfl⟩) rfl rfl ∅ (λi g A c s H E d=>
  (Zf (Zs (wy Xh XN B.sorted (XW (uA "tree" ["web","base"] [0,1] (YH (V2 b d Wv)) (V2 a d T8)))))))
def dK{h d:aM}(c:UI K mg "stills" Vr 300)(B:BX P w K mg base)(Q:_z.Q3 "TooMany" P w K mg base h d)(a:_z.qb P w K mg base "trees" (["web","most"]:Kn) (_z.HJ K Ax 2) 6):_z.qb P w K mg base "stills" (["web","base","most"]:Kn) (_z.HJ K N2 3) 7:=
 _z.wb (O:=[]) (k:=6) 3 (JQ Ax [Dz 0,Dz 2]) c z1 (λ_ _ _ _ _ _ _ _ i e=>by let⟨_,_,_,rfl⟩:=l3 e;apply⟨_,rfl,rfl⟩) rfl rfl ∅ (λj g A b s H E f=>
  (QV (yM (VI rfl B.sorted (Oh (["tree"]:Kn) (["web","base"]:Kn) [0,1] (Yi a (f.mono ∅) rfl Wv QU) (by kernel_rfl))))))
def bI{h d:aM}(c:UI K mg "stills" Vr 300)(B:BX P w K mg base)(Q:_z.Q3 "TooMany" P w K mg base h d)(a:_z.qb P w K mg base "trees" (["web","most"]:Kn) (_z.HJ K Ax 2) 6):_z.pb P w K mg base "stills" (["web","base","most"]:Kn) (_z.HJ K N2 3) 7 300:=
 _z.wc (O:=[]) (k:=6) 3 (JQ Ax [Dz 0,Dz 2]) c z1 (λ_ _ _ _ _ _ _ _ i e=>by let⟨_,_,rfl⟩:=l2 (mD e);apply⟨_,rfl,rfl⟩) rfl rfl ∅ (λj g A b s H E f=>
  (QV (yM (VI rfl B.sorted (Oh (["tree"]:Kn) (["web","base"]:Kn) [0,1] (Yi a (f.mono ∅) rfl Wv QU) (by kernel_rfl))))))
abbrev Il:cJ:=DH 46
def hJ(a:Def K mg "_law_cell" Il):Oo B:=
 ek [] ["_law_script","_law_k"] a λb c=>
  (Zf (Zs (Kz.pure (it (M3.ve (PK (oL (vo 0) (VC (vo 1)) (VC ad)) (W0 XW))) Zi))))
abbrev Qk:cJ:=DH 48
def X2(c:Def K mg "_law_renamed" Qk):Qg B:=
 ek [3,5] ["_law_found","_law_cell_here","_law_many","_law_names","_law_house","_law_told","_law_one","_law_other","_law_pair"] c λa b=>
  (Zd (Yy 3 a (Xw YG))
  (Zd (Ym (uz B.range (vo 2)) (T9 4 a) (Zd (hn (YF (Va bq PySem.F.slot_list_insert PySem.F.type_list_insert g' (pv 3) (ZA (md (vo 1) ad) (ZA (vo 4) Yc)))))
  (Zf (Yy 1 a (Kz.pure (Xb (vo 1) ad))))))
  (Zd (Yy 5 a Pw)
  (Zd (zN (SP iu rfl (yQ (pv 0)) (WU (n:=2) rfl (ZE (T9 6 a) (ZE (T9 7 a) XC))) (Zd (Yy 8 a (Kz.pure (YT (Wv (vb (Rj rfl) QE B.min (Wv it it)) (vb (s8 rfl) Zd1 B.max (Wv it it))))))
  (Zf (QN (QG (R6 b) (pv 5) (vo 8) (Uv (R6 b) (vo 0) (YT Wv)) rfl))))))
  (Zf (WK (pv 5)))))))
abbrev US:cJ:=DH 49
def QA(c:Def K mg "_law_read_times" US):UR B:=
 ek [4,5] ["_law_rest","_law_many","_law_room","_law_most","_law_found","_law_met","_law_one","_law_other","_law_deep","_law_turn"] c λa b=>
  (Zd (Yy 4 a Pw)
  (Zd (Yy 5 a (Xw (YX (Kz.pure Zi) YG)))
  (Zd (Ym (uz B.range (vo 1)) (T9 6 a) (Zf (Ym (vA B.range ad (vo 1)) (T9 7 a) (Zd (Yy 8 a (Kz.pure (vb (Rj rfl) QE B.min (Wv (Zim md (ad Zi (md (Xb (vo 0) Zi)))) (vo 2)))))
  (Zd (Yy 0 a (Kz.pure (it (W0 (Wv (Xb (vo 0) Zi) (Xb (Xb (vo 0) Zi) (vo 3)))) md)))
  (Zf (YQ (XH (vo 8) Zi) (Zd (QN (QG (R6 b) (pv 4) (YT Wv) (vo 8) rfl))
  (Zf (Yy 2 a (Kz.pure (Wf (vo 2) (vo 8)))))) ZP)))))))
  (Zd (Ym (uz B.range (vo 1)) (T9 9 a) (Zf (vj (O':=[5]) (SP iu rfl (yQ (pv 4)) (WU (n:=2) rfl (ZE (T9 6 a) (ZE (T9 7 a) XC))) (Zd (YQ (_a.vt (Ux (Rh b.units (vo 6) (vo 5)) (WD (UD b.units (vo 7) (vo 5))))) (Zf (Y3 (YF (Va bq dD dE Y2 (pv 5) (ZA (Kz.pure (vo 7)) Yc))))) ZP)
  (Zf (YQ (_a.vt (Ux (Rh b.units (vo 7) (vo 5)) (WD (UD b.units (vo 6) (vo 5))))) (Zf (Y3 (YF (Va bq dD dE Y2 (pv 5) (ZA (Kz.pure (vo 6)) Yc))))) ZP)))) ∅ (by ext j;simp;try omega))))
  (Zf (rf (Sd mn (bb (ZA Ti (ZA (pv 4) Yc))) (Ys Rk Se rfl B.int (by decide +kernel) (XW (TM b.units (Qe B.len) (vo 1)))) (λ_ _=>rfl))))))))
abbrev Oz:cJ:=DH 51
def O0(f:Def K mg "_law_times" Oz)(b:Oo B)(a:UR B)(c:Qg B):Oq B:=
 ek [5] ["_law_script","_law_at","_law_many","_law_first","_law_room","_law_found","_law_house","_law_cell_here","_law_deep","_law_k","_law_one","_law_other"] f λd e=>
  (Zd (Yy 3 d (O8 b e Wv))
  (Zd (Yy 4 d (Kz.pure (it (W0 (Wv Zi ad)) (Ys Rk Se rfl B.int (by decide +kernel) (XW (Zgl (vo 2) Zi))))))
  (Zd (YQ (_a.vt (Ux (ya e.units md Zi) (WD (uX (V2 a e (xY (Xb (vo 3) Zi))))))) (Zf (Zs (O8 a e (xY (Xb (vo 3) Zi))))) ZP)
  (Zd (Yy 5 d Pw)
  (Zd (Ym (vA B.range Zi (vo 2)) (T9 6 d) (Zd (Yy 7 d (O8 b e (Wv (vo 0) ad)))
  (Zd (Yy 8 d (Kz.pure (vb (Rj rfl) QE B.min (Wv (it (W0 (ZM Zi (ZM Zi (ZM Zi (ZM Zi (ZM Zi Xc (hs:=_z.ew)) (hs:=_z.ew)) (hs:=_z.ew)) (hs:=_z.ew)) (hs:=_z.ew))) (md (Xb (vo 7) (vo 6)))) (Wf (vo 4) (Wf (Wf (vo 2) Zi) (vo 6)))))))
  (Zd (QN (QG (R6 e) (pv 5) (YT (Wv md)) (vo 8) rfl))
  (Zf (Yy 4 d (Kz.pure (Wf (vo 4) (vo 8)))))))))
  (Zd (Yy 9 d (Kz.pure (ad (vo 1) (it (W0 Wv) (Ys Rk Se rfl B.int (by decide +kernel) (XW (Zgl (vo 2) Zi)))))))
  (Zd (Ym (uz B.range (vo 2)) (T9 10 d) (Zf (Ym (vA B.range ad (vo 2)) (T9 11 d) (Zd (Yy 8 d (Kz.pure (it (W0 (ZM Zi (ZM Zi (ZM Zi (ZM Zi (ZM Zi Xc (hs:=_z.ew)) (hs:=_z.ew)) (hs:=_z.ew)) (hs:=_z.ew)) (hs:=_z.ew))) (md (V2 b e Wv)))))
  (Zd (Yy 9 d (Kz.pure ad))
  (Zf (YQ (_a.vt (Ux (tA (R6 e) (YT Wv) (vo 5)) (WD (hq P' Zgf (Q6 _) (Q6 _) Zi (vo 8) (vo 4))))) (Zd (QN (QG (R6 e) (pv 5) (YT Wv) (vo 8) rfl))
  (Zf (Yy 4 d (Kz.pure (Wf (vo 4) (vo 8)))))) ZP)))))))
  (Zf (Zs (O8 c e (T8 (vo 5) (Xb (V2 b e Wv) Zi))))))))))))
abbrev Mw:cJ:=DH 36
def vU(d:Def K mg "is_tree" Mw)(b:Vm B)(a:UQ B):Mm B:=
 ek [] ["web","numbers","ties"] d λe c=>
  (Zd (Yy 2 e (O8 b c XW))
  (Zd (YQ (_a.vt (Pp (TN c.units (Qe B.len) (Wf (Qe B.len) Zi)) (Po (Vw (WY (vb (Ru rfl) ZI B.all (XW (uA "number" ["ties"] [2] (PT (vo 1)) (TO Zgf P' (Q6 _) (Q6 _) Zi (vo 0) (Qe B.len)))))))))) (Zf (Zs (Kz.pure Sn))) ZP)
  (Zf (Zs (Kz.pure (Vx (TM c.units (M3.ve (WZ Sf Wr rfl B.list (by decide +kernel) XW)) (M3.ve (_a.oy rfl rfl B.sorted rfl B.set (vo 1)))) (Ry (TM c.units (M3.ve (_a.ub rfl rfl B.len rfl B.set (V2 a c T8))) Zi))))))))
abbrev OA:cJ:=DH 42
def OY(d:Def K mg "still_of" OA)(b:Mm B)(a:V3 B):Ot B:=
 ek [] ["web","base","tree"] d λe c=>
  (Zd (YQ (Vw (WY (V2 b c Wv))) (Zf (Vg (W:=[]))) ZP)
  (Zf (Zs (O8 a c T8))))
abbrev Mx:cJ:=DH 47
def ob(a:Def K mg "_law_whole" Mx):RM B:=
 ek [] ["_law_thing"] a λb c=>
  (Zf (Zs (Kz.pure (Vx (vb WB QI B.isinstance (Wv (vo 0) (S' rfl B.int (by decide +kernel)))) (Ry (Ziq (vb WB QI B.isinstance (Wv (vo 0) (S' rfl B.bool (by decide +kernel))))))))))
abbrev Ip:cJ:=DH 53
def sa(b:Def K mg "_law_kind" Ip){e c:aM}(Q:_z.Q3 "TooMany" P w K mg base e c):J9 B:=
 ek [] ["_law_e","_law_found"] b λa d=>
  (Zd (Yy 1 a (Xw (YX (Kz.pure (M3.ve (Xg Q rfl B.isinstance (vo 0) ∅ rfl))) (YX (Kz.pure (M3.ve (Xg Q rfl B.isinstance (vo 0) ∅ rfl))) (YX (Kz.pure (M3.ve (Xg Q rfl B.isinstance (vo 0) ∅ rfl))) (YX (Kz.pure (M3.ve (Xg Q rfl B.isinstance (vo 0) ∅ rfl))) YG))))))
  (Zd (Yy 1 a (PK (vo 1) (W0 (T8 (M3.ve (Xg Q rfl B.isinstance (vo 0) ∅ rfl)) (M3.ve (Xg Q rfl B.isinstance (vo 0) ∅ rfl)) (M3.ve (Xg Q rfl B.isinstance (vo 0) ∅ rfl))))))
  (Zd (Yy 1 a (PK (vo 1) (W0 (xY (M3.ve (Xg Q rfl B.isinstance (vo 0) ∅ rfl)) (M3.ve (Xg Q rfl B.isinstance (vo 0) ∅ rfl)) (M3.ve (Xg Q rfl B.isinstance (vo 0) ∅ rfl)) (M3.ve (Xg Q rfl B.isinstance (vo 0) ∅ rfl))))))
  (Zd (YQ (_a.vt (Pp (Vw (WY (M3.ve (Zet Q rfl B.isinstance (vo 0) rfl B.ValueError)))) (Po (TN d.units (rn (vo 1) Sn) Zi)))) (Zf (Zs (Kz.pure (uY Zi)))) ZP)
  (Zf (Zs (Kz.pure (tg (vo 1) Sn))))))))
abbrev SY:cJ:=DH 57
def ZQ(g:Def K mg "_law_too_many" SY)(a:RM B)(d:J9 B){i h:aM}(Q:_z.Q3 "TooMany" P w K mg base i h)(b:_z.pb P w K mg base "stills" (["web","base","most"]:Kn) (_z.HJ K N2 3) 7 300)(c:_z.qb P w K mg base "stills" (["web","base","most"]:Kn) (_z.HJ K N2 3) 7):SQ B:=
 ek [] ["_law_web","_law_base","_law_most","_law_caught","_law_due","_law_e"] g λe f=>
  (Zd (Yy 3 e (Kz.pure PS))
  (Zd (Yy 4 e (Kz.pure (vo 2)))
  (Zd (Zl5 (Zl6 (Zir (vo 2)) (Zg0 [3,4,5] (Zez (Yy 4 e (Kz.pure Zi)) (Zmh Q b Qd (f.mono ∅) rfl Wv rfl rfl rfl e rfl rfl rfl (λ_=>(Zf (Yy 3 e (Kz.pure (vo 5))))) ∅) Zjh) ∅) (Zg0 [3,4,5] (Zoj Q c Qd (f.mono ∅) rfl T8 rfl rfl rfl e rfl rfl rfl (λ_=>(Zf (Yy 3 e (Kz.pure (vo 5))))) ∅) ∅)))
  (Zf (Zs (Kz.pure (Vx (Zd0 (vo 3)) (Vx (TM f.units (V2 d f XW) Zi) (Vx (V2 a f (XW (WO Q.f.Dd (vo 3)))) (Ry (TM f.units (WO Q.f.Dd (vo 3)) (vo 4))))))))))))
abbrev My:cJ:=DH 39
def h2(b:Def K mg "tree_by" My)(a:Om B):Mn B:=
 ek [] ["web","base","burns"] b λd c=>
  (Zf (Zs (Kz.pure (Ys Ya Wh rfl B.tuple (by decide +kernel) (XW (M3.ve (wy Ww v8 B.sorted (XW (uA "burnt_by" [] [] (YH (V2 a c T8)) it)))))))))
abbrev Mz:cJ:=DH 18
def h1(a:Def K mg "in_debt" Mz):Mo B:=
 ek [] ["purse","base"] a λc b=>
  (Zf (Zs (QM (["house","coins"]:Kn) (["base"]:Kn) [1] rfl (Sr aC rfl B.enumerate XW) (by kernel_rfl) (λ_ _ _ _ _=>(WU (n:=2) rfl (ZE (uF 0) (ZE (uF 1) XC)))) (λ_ _ _ _ _=>(QL (_a.vt (Ux (TN b.units (vo 0) (vo 2)) (WD (xP (vo 1) Zi)))))) (λ_ _ _ _ _=>(Kz.pure (vo 0))))))
abbrev MA:cJ:=DH 16
def yi(a:Def K mg "ties_to" MA):Mp B:=
 ek [] ["web","house","others"] a λb c=>
  (Zf (Zs (Kz.pure (vb (Rt rfl) Zv B.sum (XW (uA "other" ["web","house"] [0,1] (Zme (vo 2)) (it it)))))))
abbrev Ui:cJ:=DH 15
def RN(d:Def K mg "house_to_burn" Ui)(a:Mp B):Uh B:=
 ek [] ["web","purse","fire","house","coins"] d λc b=>
  (Zd (Ym (Sr aC rfl B.enumerate XW) (WU (n:=2) rfl (ZE (T9 3 c) (ZE (T9 4 c) XC))) (Zf (YQ (_a.vt (Ux (UD b.units (vo 3) (vo 2)) (WD (xP (vo 4) (V2 a b T8))))) (Zf (Zs (Kz.pure (vo 3)))) ZP)))
  (Zf (Zs (Kz.pure PS))))
abbrev EU:cJ:=DH 14
def Zbc(d:Def K mg "burnt" EU)(a:Uh B):ES B:=
 ek [3] ["web","purse","base","fire","house"] d λb c=>
  (Zd (Yy 3 b (Xw (YX (Kz.pure (vo 2)) YG)))
  (Zd (Yy 4 b (O8 a c T8))
  (Zd (Zk iu (uX (vo 4)) (Zd (Y3 (YF (Va bq dD dE Y2 (pv 3) (ZA (Kz.pure (vo 4)) Yc))))
  (Zf (Yy 4 b (O8 a c T8)))))
  (Zf (WK (pv 3))))))
abbrev S0:cJ:=DH 17
def sg(d:Def K mg "is_settled" S0)(b:ES B)(a:Mo B):SR B:=
 ek [] ["web","purse","base"] d λe c=>
  (Zf (Zs (Kz.pure (Vx (TM c.units (Qe B.len (V2 a c Wv)) Zi) (Ry (TM c.units (Qe B.len (V2 b c T8)) (Qe B.len)))))))
abbrev MB:cJ:=DH 38
def mA(d:Def K mg "tree_of" MB)(a:SR B)(b:Mn B):Mq B:=
 ek [] ["web","base","purse"] d λe c=>
  (Zd (YQ (Vw (WY (V2 a c T8))) (Zf (Vg (W:=[]))) ZP)
  (Zf (Zs (vz (q:="tree_of") (L:=AJ) (i:=2) rfl rfl rfl b (c.mono ∅) rfl rfl rfl rfl (vo 0) (vo 1) (p8 _) rfl ∅ rfl rfl ⟨_,rfl,rfl⟩ rfl rfl rfl rfl))))
abbrev MC:cJ:=DH 54
def es(c:Def K mg "_law_tuple" MC)(a:RM B):Mr B:=
 ek [] ["_law_found","_law_many"] c λd b=>
  (Zf (Zs (Kz.pure (Vx (vb WB QI B.isinstance (Wv (vo 0) (S' rfl B.tuple (by decide +kernel)))) (Vx (TM b.units (Qe B.len) (vo 1)) (Ry (vb (Ru rfl) ZI B.all (XW (uA "_law_number" [] [] (PT (vo 0)) (V2 a b XW))))))))))
abbrev S1:cJ:=DH 55
def Qo(c:Def K mg "_law_all_burn" S1):SS B:=
 ek [3] ["_law_web","_law_purse","_law_base","_law_lit","_law_turn","_law_house","_law_near"] c λa b=>
  (Zd (Yy 3 a (Xw (YX (Kz.pure (vo 2)) YG)))
  (Zd (Ym (uz B.range (Qe B.len)) (T9 4 a) (Zf (Ym (uz B.range (Qe B.len)) (T9 5 a) (Zd (Yy 6 a (Kz.pure (vb (Rt rfl) Zv B.sum (XW (uA "_law_other" ["_law_web","_law_house"] [0,5] (YH (vo 3)) (it it))))))
  (Zf (YQ (_a.vt (Ux (UD b.units (vo 5) (vo 3)) (WD (xP it (vo 6))))) (Zf (Y3 (YF (Va bq dD dE Y2 (pv 3) (ZA (Kz.pure (vo 5)) Yc))))) ZP))))))
  (Zf (Zs (Kz.pure (TM b.units (Qe B.len) (Qe B.len)))))))
abbrev Ql:cJ:=DH 56
def uO(b:Def K mg "_law_settled" Ql)(a:SS B):Qh B:=
 ek [] ["_law_web","_law_purse","_law_base","_law_rest"] b λd c=>
  (Zd (Yy 3 d (Kz.pure (Uw QR QS (Vd (vo 1) Ss (VC (vo 2))) (Vd (vo 1) (VC ad) Ss))))
  (Zd (YQ (xP (Zfc rfl rfl B.min (by decide +kernel) (vo 3)) Zi) (Zf (Zs (Kz.pure Sn))) ZP)
  (Zf (Zs (O8 a c T8)))))
abbrev G':cJ:=DH 58
def z0:Bz ["_law_script","_law_many","_law_web","_law_base","_law_found","_law_some","_law_k","_law_purse","_law_coins","_law_told","_law_ring"] ["_law_script"] (DG G'):=yg
def Zjn{q:aM}{r:gj}(t:MU K "law" "law" G' q r)(h:Oj B)(a:Oo B)(l:Ol B)(g:Oq B)(o:Cj P w K mg base "trees" (["web","most"]:Kn) (DS K Jm 2) 6 300)(j:Ot B)(f:Qh B)(d:Mr B)(m:Mq B)(e:Cj P w K mg base "stills" (["web","base","most"]:Kn) (DS K AQ 3) 7 300)(n:J8 B)(b:SQ B):FD P w K mg base Nc 9 q r (["_law_script"]:Kn) (DS K D_law 1):=
 Zi4 (O:=[4,9]) (k:=8) 11 C2 t z0 rfl rfl ∅ (λv u A p s H E c=>
  (Zd (Yy 1 z0.E3 (O8 h c (XW (V2 a c Wv))))
  (Zd (Yy 2 z0.E3 (O8 l c (Wv (V2 g c T8))))
  (Zd (Yy 3 z0.E3 (Kz.pure (md (V2 a c Wv))))
  (Zd (Yy 4 z0.E3 (Xw YG))
  (Zd (Yy 5 z0.E3 (P5 o (c.mono ∅) rfl XW))
  (Zd (Ym (uz B.range (Qe B.len)) (T9 6 z0.E3) (Zd (Yy 7 z0.E3 (O8 j c (T8 (vo 2) (vo 3) it)))
  (Zd (YQ (_a.vt (Pp (Vw (WY (V2 d c Wv))) (Pp (TN c.units it Zi) (Po (Vw (WY (V2 f c T8))))))) (Zf (Zs (Kz.pure Sn))) ZP)
  (Zd (Yy 8 z0.E3 (Kz.pure (Wf (md (V2 a c (Wv (vo 0) (ad Zi md)))) Zi)))
  (Zd (YQ (TN c.units (V2 m c (T8 (vo 2) (vo 3) (Uw QR QS (Uw QR QS (Vd (vo 7) Ss (VC (vo 3))) (YT XW)) (Vd (vo 7) (VC ad) Ss)))) it) (Zf (Zs (Kz.pure Sn))) ZP)
  (Zf (Y3 (YF (Va bq dD dE Y2 (pv 4) (ZA (Kz.pure (vo 7)) Yc))))))))))
  (Zd (Yy 9 z0.E3 (P5 e (c.mono ∅) rfl Wv))
  (Zd (YQ (_a.vt (Pp (Vw (WY (vb WB QI B.isinstance (Wv (vo 9) (S' rfl B.list (by decide +kernel)))))) (Pp (TN c.units (vo 9) (M3.ve (wy Xh XN B.sorted XW))) (Po (TN c.units (M3.ve (_h.sh c.units rfl rfl B.len rfl B.set (vo 4))) (Qe B.len)))))) (Zf (Zs (Kz.pure Sn))) ZP)
  (Zd (YQ (_a.vt (Pp (Vw (WY (vb (Ru rfl) ZI B.all (XW (uA "_law_purse" ["_law_many"] [1] (YH (vo 9)) (V2 d c Wv)))))) (Po (TN c.units (V2 n c (T8 (vo 2) (vo 3) (Qe B.len))) (M3.ve (wy Xh XN B.sorted XW)))))) (Zf (Zs (Kz.pure Sn))) ZP)
  (Zd (Zaw (YF (Zh8 bq PySem.F.slot_list_clear PySem.F.type_list_clear e' (pv 9))))
  (@o_ _ _ _ _ _ _ _ _ (Ze8 (i:=10) (ns:=[[0,4,0,5],[4,0,4,0],[0,4,0,4],[5,0,4,0]]) z0.E3 rfl (mM rfl) (by kernel_rfl))
  (Zd (YQ (Vw (WY (V2 b c (T8 (vo 10) (md (V2 a c Wv)) PS)))) (Zf (Zs (Kz.pure Sn))) ZP)
  (Zf (Zs (Kz.pure (Vx (V2 b c (T8 (vo 2) (vo 3) (Wf (Qe B.len) Zi))) (Ry (TM c.units (M3.ve (P5 e (c.mono ∅) rfl Wv)) (M3.ve (wy Xh XN B.sorted XW)))))))))))))))))))))
end
end _p
namespace _p
open _l _v
def Hr(l:Iw):List Int:=l.map λ(i:Nat)=>(i:Int)
def Zon{f g:XS}{s s1:ZG}(a:f s=aA (.IA s1)):BS f g s=g s1:=by dsimp[PL,a,aY]
def z6{f g:XS}{s:ZG}{v:PV}(a:f s=aA (.E7 v)):BS f g s=aA (.E7 v):=by rw[PL,a];rfl
section
variable {s:ZG}{f g:XE}{a b:Int}{C:J_} [∀i j,Decidable (C i j)] {op:L0}
def vC(d:f s=aA (.int a))(e:g s=aA (.int b))(c:C a b):DA (Cd C op) f g s=aA (.int (op a b)):=by rw[QO,d,e];dsimp[aY,Zi5,Be c]
def vI(c:f s=aA (.int a))(d:g s=aA (.int b)):DA (AZ op) f g s=aA (.int (op a b)):=by rw[QO,c,d];rfl
def vP(b:f s=aA (.int a)):FG f s=aA (.int a):=by rw[Wd,b];rfl
def Rd{v:PV}(a:f s=aA v):Hv f s=aA (.E7 v):=by rw[kp,a];rfl
end
def Zjp(l:E1)(k:Nat)(x:Int):(iL l).take k++PV.int x::(iL l).drop k=iL (l.take k++x::l.drop k):=⋯
section
variable {f g h k l:XE}{s s1:ZG}{a b c d e v r:PV}{i m:Nat}{F G:XS}{x y:XT}{o:Option D6}{p:Bool}{D:List PV->Option PV}{R:Option PV}{ls:List PV}
def Yu(q:F (Lg m ls)=aA (.E7 v)):Hw m F ls=aA v:=by change(F (Lg m ls)).bind Ly=_;rw[q];rfl
def sq(q:F s=aA (.IA s1))(w:G s1=o):BS F G s=o:=(Zon q).trans w
def Zl(q:f s=aA v):Hs i f s=aA (.IA (s.set i (aA v))):=by rw[zm,q];rfl
def ep(q:f s=aA v)(w:HA v=aD|>On):FG f s=aA v:=by rw[Wd,q,aY,Be w]
def uJ{l:E1}(q:f s=aA (pP l)):FG f s=aA (pP l):=ep q (Xu _)
def c1(q:f s=aA a)(w:D [a]=R):BO D [f] s=R:=by change((f s).bind λx=>aA [x]).bind D=_;rw[q];apply w
def c2(q:f s=aA a)(c:g s=aA b)(w:D [a,b]=R):BO D [f,g] s=R:=by rw[Xx,Zy,q,Zy,c];apply w
def c3(q:f s=aA a)(e:g s=aA b)(d:h s=aA c)(w:D [a,b,c]=R):BO D [f,g,h] s=R:=by rw[Xx,Zy,q,Zy,e,Zy,d];apply w
def c4(q:f s=aA a)(i:g s=aA b)(e:h s=aA c)(j:k s=aA d)(w:D [a,b,c,d]=R):BO D [f,g,h,k] s=R:=by rw[Xx,Zy,q,Zy,i,Zy,e,Zy,j];apply w
def c5(q:f s=aA a)(j:g s=aA b)(i:h s=aA c)(m:k s=aA d)(n:l s=aA e)(w:D [a,b,c,d,e]=R):BO D [f,g,h,k,l] s=R:=by rw[Xx,Zy,q,Zy,j,Zy,i,Zy,m,Zy,n];apply w
def o2{c:PV->PV->Option PV}(q:f s=aA a)(d:g s=aA b)(w:c a b=R):DA c f g s=R:=by rw[QO,q,d];apply w
def xb(q:f s=aA (.Iv p)):xB f s=aA p:=by rw[Zi6,q];rfl
def xn(q:x s=aA p):HR x s=aA !p:=by rw[ix,q];rfl
def xo{p2:Bool}(q:x s=aA p)(a:y s=aA p2):HK x y s=aA (p || p2):=by
 rw[Zd9,q];cases p
 ·apply a
 ·rfl
def ea{p2:Bool}(q:f s=aA (.Iv p))(a:g s=aA (.Iv p2)):DW f g s=aA (.Iv (p&&p2)):=by
 rw[fD,xb q];cases p
 ·rfl
 ·apply a
def Qv(q:x s=aA aC):HB x F KI s=aA (.IA s):=by rw[U9,q];rfl
def ret(q:f s=aA v):Hv f s=aA (.E7 v):=Rd q
end
def Zjq{c:XT}{fb:XS}(g:Nat->ZG->Prop)(step:∀k st,g k st->c st=aA aC\/(c st=aA aD/\∃s2 k',fb st=aA (.IA s2)/\k'<k/\g k' s2)){k:Nat}{s:ZG}(o:g k s) :
  ∃f k',Gd c fb s=aA (.IA f)/\g k' f/\c f=aA aC:=by
 let l:∀(n k:Nat)(st:ZG),k<n->g k st->∃f k',Lk c fb n st=aA (.IA f)/\g k' f/\c f=aA aC:=by
  ext n
  induction n with
  | zero=>ext k st h;lia
  | succ n E2=>
   ext k st q m;rcases step k st m with i | ⟨i,s2,k',e,p,j⟩
   ·apply⟨st,k,by delta Lk;rw[i];rfl,m,i⟩
   ·let⟨f,k2,a,b,d⟩:=E2 k' s2 () j;show⟨f,k2,?_,b,d⟩;delta Lk;rw[i];dsimp[e];apply a
 let⟨f,k',a,b,d⟩:=l (k+1) k s () o;apply⟨f,k',hl a,b,d⟩
def Um{d:Type}{T:oo}{fb:XS}{q g:d->PV}{c:d->Bool}(S:ZG->Prop):∀{ls:List d}{s:ZG},(∀a∈ls,∀s,S s->∃s1,NQ T (q a) s=aA s1/\((c a=aD->fb s1=aA (.E7 (g a)))/\(c a=aC->∃s2,fb s1=aA (.IA s2)/\S s2)))->S s->
  match ls.find? c with | some a=>KR T fb (ls.map q) s=aA (.E7 (g a)) | none=>∃Kl,KR T fb (ls.map q) s=aA (.IA Kl)/\S Kl
 | [],s,_,h0=>⟨s,rfl,h0⟩
 | a::r,s,h,h0=>by
  let⟨s1,f,k,l⟩:=h a ah s h0;rw[ie]
  cases ca:c a with
  | true=>
   change KR T fb (q a::r.map q) s=_;delta KR;rw[f];dsimp[aY,k ca]
  | false=>
   let⟨s2,i,j⟩:=l ca;let m:=Um S (ls:=r) (s:=s2) (λb n=>h b (aR _ n)) j
   let e:KR T fb ((a::r).map q) s=KR T fb (r.map q) s2:=by
    change KR T fb (q a::r.map q) s=_;delta KR;rw[f];dsimp[aY,i];cases r.map q<;>rfl
   rw[e];apply m
def B5(F:XS)(s:ZG)(Q:PV->Prop):Prop:=∃v,F s=aA (.E7 v)/\Q v
def M9(F:XS)(s:ZG)(R:ZG->Prop):Prop:=∃s1,F s=aA (.IA s1)/\R s1
section
variable {F G:XS}{s s1:ZG}{Q:PV->Prop}{R:ZG->Prop}{v:PV}{f g:XE}{x:XT}{p:Bool}{m i k n:Nat}{ls:List PV}{O:Iw}{fi:XL}{T:oo}{fb:XS}{a b:Int}
def gi(h:B5 F (Lg m ls) Q):∃v,Hw m F ls=aA v/\Q v:=by let⟨v,e,q⟩:=h;apply⟨v,Yu e,q⟩
def Uj(h:B5 F (Lg m ls) λw=>w=v):Hw m F ls=aA v:=by let⟨_,e,rfl⟩:=gi h;apply e
def ZD(q:F s=aA (.IA s1))(h:B5 G s1 Q):B5 (BS F G) s Q:=by let⟨v,e,a⟩:=h;apply⟨v,sq q e,a⟩
def Wl(h:M9 F s R)(a:∀s1,R s1->B5 G s1 Q):B5 (BS F G) s Q:=by let⟨s1,e,r⟩:=h;apply ZD e (a s1 r)
def W6(q:f s=aA v)(h:Q v):B5 (Hv f) s Q:=⟨v,ret q,h⟩
def Zg2(q:x s=aA aD)(h:B5 F s Q):B5 (BS (HB x F KI) G) s Q:=by let⟨v,e,a⟩:=h;apply⟨v,z6 (by rw[U9,q];apply e),a⟩
def nT(q:F s=aA (.IA s1))(h:R s1):M9 F s R:=⟨s1,q,h⟩
def Yr(q:F s=aA (.IA s1))(h:M9 G s1 R):M9 (BS F G) s R:=by let⟨s2,e,r⟩:=h;apply⟨s2,sq q e,r⟩
def Zg3{Dh:ZG->Prop}(h:M9 F s R)(a:∀s1,R s1->M9 G s1 Dh):M9 (BS F G) s Dh:=by let⟨s1,e,r⟩:=h;apply Yr e (a s1 r)
def V4{Dh:ZG->Prop}(h:M9 F s R)(a:∀s1,R s1->Dh s1):M9 F s Dh:=by let⟨s1,e,r⟩:=h;apply⟨s1,e,a s1 r⟩
def rI(q:x s=aA p)(a:p=aD->M9 F s R)(b:p=aC->M9 G s R):M9 (HB x F G) s R:=by
 delta M9;rw[U9,q];cases p
 ·apply b rfl
 ·apply a rfl
def OB(I:Nat->ZG->Prop)(j:fi (D9 O s)=aA ls)(g:I 0 s)(st:∀i l s,ls[i]?=aA l->I i s->∃s1,NQ T l s=aA s1/\M9 fb s1 (I (i+1))):M9 (FP O fi T fb) s (I (la ls)):=by
 let⟨a,e,q⟩:=UE I g λi l s c h=>by let⟨s1,f,s2,b,d⟩:=st i l s c h;apply⟨s1,s2,f,b,d⟩
 show⟨a,?_,q⟩;delta FP;rw[j];apply e
def Qm(I:Nat->ZG->Prop)(a:f (D9 O s)=aA (.int (n:Int)))(d:I 0 s)(st:∀i s,i<n->I i s->M9 fb (s.set k (aA (.int (i:Int)))) (I (i+1)))(b:n<=10000|>Rs):M9 (FP O (Ai [f]) (.one k) fb) s (I n):=by
 let:=OB (T:=.one k) I (Ta a b) d λi l s c h=>by let⟨e,rfl⟩:=y9 c;apply⟨_,rfl,st i s e h⟩
 rwa [tv] at this
def vE(I:Nat->ZG->Prop)(a:f (D9 O s)=aA (.int (m:Int)))(c:g (D9 O s)=aA (.int (n:Int)))(j:I m s)(st:∀i s,m<=i->i<n->I i s->M9 fb (s.set k (aA (.int (i:Int)))) (I (i+1)))(b:m<=n|>Rs)(o:n<=10000|>Rs):M9 (FP O (Lp [f,g]) (.one k) fb) s (I n):=by
 let e:((n:Int)-(m:Int)).toNat=n-m:=()
 let:=OB (T:=.one k) (λi=>I (m+i)) (RD a c () ()) j λi l s d h=>by let⟨p,rfl⟩:=kP d;apply⟨_,rfl,st (m+i) s () () h⟩
 rwa [U8,e,show m+(n-m)=n by lia] at this
def Zfe{d:Type}{L:List d}{q g:d->PV}(c:d->Bool)(I:ZG->Prop)(l:fi (D9 O s)=aA (L.map q))(j:I s)(st:∀a∈L,∀s,I s->∃s1,NQ T (q a) s=aA s1/\(c a=aD->fb s1=aA (.E7 (g a)))/\(c a=aC->M9 fb s1 I))(hs:∀a,L.find? c=aA a->Q (g a))(f:L.find? c=aB->∀s1,I s1->B5 G s1 Q):B5 (BS (FP O fi T fb) G) s Q:=by
 let b:=Um I st j;let e:∀o,KR T fb (L.map q) s=o->FP O fi T fb s=o:=λo h=>by delta FP;rw[l];apply h
 cases z:L.find? c with
 | some a=>rw[z] at b;apply⟨_,z6 (e _ b),hs a z⟩
 | none=>
  rw[z] at b;let⟨s1,k,i⟩:=b;apply ZD (e _ k) (f z s1 i)
def zL{o:Option D6}(q:x s=aA aD)(w:F s=o):HB x F G s=o:=by rw[U9,q];apply w
def Zg4{b:Type}{L:List b}{q g:b->PV}{H:XS}(c:b->Bool)(I:ZG->Prop)(n:fi (D9 O s)=aA (L.map q))(j:I s)(st:∀a∈L,∀s,I s->∃s1,NQ T (q a) s=aA s1/\x s1=aA (c a)/\H s1=aA (.E7 (g a))/\I s1)(hs:∀a,L.find? c=aA a->Q (g a))(m:L.find? c=aB->∀s1,I s1->B5 G s1 Q):B5 (BS (FP O fi T (HB x H KI)) G) s Q:=
 Zfe c I n j (λa l s i=>by
  let⟨s1,e,d,k,f⟩:=st a l s i;apply⟨s1,e,λh=>zL (by rw[d,h]) k,λh=>nT (Qv (by rw[d,h])) f⟩) hs m
def Zml{X:Iw}(I:Nat->ZG->Prop)(a:fi (D9 O s)=aA (iL (Hr X)))(c:I 0 s)(st:∀i s (h:i<la X),I i s->M9 fb (s.set k (aA (.int ((X[i]:Nat):Int)))) (I (i+1))):M9 (FP O fi (.one k) fb) s (I (la X)):=by
 let:=OB (T:=.one k) I a c λi l s b h=>by
  let a:i<la X:=by let:=(aS.mp b).1;simpa [Hr] using this
  let e:l = .int ((X[i]:Nat):Int):=by rw[oq (by simpa [Hr] using a)] at b;rw[<-bG b];simp[Hr,BR,a]
  subst e;apply⟨_,rfl,st i s a h⟩
 rwa [show(iL (Hr X)).length=la X by simp[Hr]] at this
def uS(q:f s=aA (.int a))(c:g s=aA (.int b))(h:0<b|>Rs):DA XI f g s=aA (.int (a%b)):=vC q c h
def xX(q:f s=aA (.int a))(c:g s=aA (.int b))(h:0<b|>Rs)(d:b<=10000|>Rs):DA We f g s=aA (.int (a/b)):=vC q c (PX h d)
def y7(q:f s=aA (.int a))(c:g s=aA (.int b)):DA Xa f g s=aA (.int (a+b)):=vI q c
def uR(q:f s=aA (.int a))(c:g s=aA (.int b)):DA Tq f g s=aA (.int (a-b)):=vI q c
def vgt{a b:Nat}(q:f s=aA (.int (a:Int)))(c:g s=aA (.int (b:Int))):DA KY f g s=aA (.Iv (decide (b<a))):=o2 q c (by
 change aA (PV.Iv (decide ((a:Int)>(b:Int))))=_;rw[decide_eq_decide.mpr Int.ofNat_lt])
def kV(q:f s=aA (.int a))(c:g s=aA (.int b)):DA (KD aC) f g s=aA (.Iv (decide (a=b))):=o2 q c ⋯
def xa{y:XT}{p2:Bool}(q:x s=aA p)(a:y s=aA p2):D3 x y s=aA (p&&p2):=by
 rw[nq,q];cases p
 ·rfl
 ·apply a
def vB{a:PV->Option PV}{S:Option PV}(q:f s=aA v)(w:a v=S):NR a f s=S:=by delta NR;rw[q];apply w
def Zmm{u w:PV}(q:f s=aA u)(a:g s=aA w):DU [f,g] s=aA (.tup [u,w]):=by rw[PM,Zy,q,Zy,a];rfl
def Y1{S:Option PV}(q:x s=aA aD)(w:f s=S):BM x f g s=S:=by rw[ZT,q];apply w
def Ut{S:Option PV}(q:x s=aA aC)(w:g s=S):BM x f g s=S:=by rw[ZT,q];apply w
def TK{a:Type}(h:a->PV){L:List a}{y:a}(q:f s=aA (h y))(b:Lu s i=aA (L.map h))(c:la L<=9000):Ln i f s=aA (.IA (s.set i (aA (.lst ((L++[y]).map h))))):=by rw[PU q b (by rw[aK];lia),bO];rfl
def Zff{a:Type}(h:a->PV){L M:List a}(q:f s=aA (.lst (M.map h)))(b:Lu s i=aA (L.map h))(c:la L+la M<=10000):Es i f s=aA (.IA (s.set i (aA (.lst ((L++M).map h))))):=by rw[PR q b (by rw[aK,aK];lia),bO]
def gw{L:Iw}(q:f s=aA (.int (k:Int)))(a:Lu s i=aA (iL (Hr L)))(b:la L<=9000):Ln i f s=aA (.IA (s.set i (aA (.lst (iL (Hr (L++[k]))))))):=by rw[PU q a (by simp[Hr];lia)];simp[Hr]
def Zjs(Q:E1):K7 (iL Q)=(aQ (la Q)).map λ(i:Nat)=>.tup [.int (i:Int),.int (BR Q i)]:=by
 rw[XJ,aK];apply az λi a=>by rw[QQ Q i (av.mp a)]
def Qn{W:Iz}:M5 [wP W]=aA (.int (la W:Int)):=⋯
def Zjt{l:E1}(q:f s=aA (.int (k:Int)))(c:g s=aA (.int a))(b:Lu s i=aA (iL l))(d:k<la l):JC i f g s=aA (.IA (s.set i (aA (.lst (iL (l.set k a)))))):=by rw[ta c q b (Xu _) rfl (Sh (by rw[aK];apply d)),<-rK]
def Zju{o:E1}(q:f s=aA (.int (n:Int)))(c:g s=aA (.int a))(b:Lu s i=aA (iL o))(d:n<=1000)(e:la o<=1000):N9 i f g s=aA (.IA (s.set i (aA (.lst (iL (o.take n++a::o.drop n)))))):=by rw[wN q c b (Xu o) rfl () () (by rw[aK];lia),fV,Zjp]
end
def Zg5{F:XS}{x:XT}{s:ZG}{k:Nat}(J:Nat->ZG->Prop)(g:J k s)(st:∀k s,J k s->x s=aA aC\/(x s=aA aD/\M9 F s λs2=>∃k',k'<k/\J k' s2)):M9 (Gd x F) s λd=>∃k,J k d/\x d=aA aC:=by
 let⟨d,k',a,b,c⟩:=Zjq J (λk s h=>by
  rcases st k s h with z | ⟨z,s2,e,k',i,f⟩
  ·apply .inl z
  ·apply .inr ⟨z,s2,k',e,i,f⟩) g
 apply⟨d,a,k',b,c⟩
def Zjv{n i:Nat}{f:Nat->PV}{l:PV}(h:((aQ n).map f)[i]?=aA l):i<n/\l=f i:=by grind
def Za{b:Type}{L:List b}{i:Nat}{f:b->PV}{l:PV}(h:(L.map f)[i]?=aA l):∃a,L[i]?=aA a/\l=f a:=by grind
def RO{a:Type}(f:Nat->List a)(i:Nat):(aQ (i+1)).flatMap f=(aQ i).flatMap f++f i:=by rw[lZ];simp
def O9{a:Type}{f:Nat->List a}{c:Nat}:∀{n:Nat},(∀i,i<n->(f i).length<=c)->((aQ n).flatMap f).length<=c*n
 | 0,_=>⋯
 | n+1,h=>by
  rw[RO,aq,Nat.mul_succ];let:=O9 (n:=n) λi b=>h i ();let:=h n ()
  lia
section
variable {s:ZG}{i:Nat}{ls:List PV}{T:oo}{fb:XS}{O:Iw}
def wq(I:Nat->ZG->Prop)(j:(s[i]?).join.bind Ji=aA ls)(g:I 0 s)(st:∀i l s,ls[i]?=aA l->I i s->∃s1,NQ T l s=aA s1/\M9 fb s1 (I (i+1))):M9 (N0 i T fb) s (I (la ls)):=by
 let⟨a,e,q⟩:=UE I g λi l s c h=>by let⟨s1,f,s2,b,d⟩:=st i l s c h;apply⟨s1,s2,f,b,d⟩
 show⟨a,?_,q⟩;delta N0;rw[j];apply e
def Zbf(I:Nat->ZG->Prop)(b:(s[i]?).join.bind Ji=aA ls)(c:I 0 s)(st:∀i l s,ls[i]?=aA l->I i s->∃s1,NQ T l s=aA s1/\M9 fb s1 (I (i+1)))(cl:∀s,I (la ls) s->HY O (.IA s) = .IA s):M9 (Lz O i T fb) s (I (la ls)):=by let⟨a,e,q⟩:=wq I b c st;show⟨a,?_,q⟩;delta N0 at e;delta Lz;rw[b,aY] at e ⊢;rw[e,fB,cl a q]
end
def Zjw{L:Iw}:M5 [.lst (iL (Hr L))]=aA (.int (la L:Int)):=by simp[Hr]
def Zbg(l:List PV)(lo a:IY):(Ao l lo a).length<=la l:=by delta Ao;rw[bz,fL];lia
def pg(ns:E1)(k:Nat):HG (Ao (iL ns) (aA (k:Int)) (aA ((k:Int)+1))++[PV.int 0]) 0=aA (.int (BR ns k)):=by
 let a:((k:Int)+1)=((k+1:Nat):Int):=()
 rw[a];show WA (j:=0) ?_;delta Ao;rw[_b.iz,_b.iz,aK];by_cases h:k<la ns
 ·rw[js (),js (),show k+1-k=1 by lia];rw[j8 (by rw[aK];apply h)];simp[BR,aP,aI h]
 ·rw[kf (),gV (by rw[aK];lia)];simp[BR,aP,dI (Nat.not_lt.mp h)]
def V5(h:ns.length<=63)(k:Nat):Aq [.cst (iL ns),.int (k:Int)]=aA (.int (BR ns k)):=by
 let a:=Zbg (iL ns) (aA (k:Int)) (aA ((k:Int)+1));rw[aK] at a;let hp:BW (Ao (iL ns) (aA (k:Int)) (aA ((k:Int)+1)))=aD:=v' _ _ (Xu ns);let c:(Ao (iL ns) (aA (k:Int)) (aA ((k:Int)+1))).length+1<=10000:=()
 simp[Aq,Jp,Hw,Lg,Lr,Ca,Jg,hp,c,pg]
def hZ{h:Nat}(a:h<W.length):EE [wP W,.int (h:Int)]=aA (.int (FK W h).sum):=by simp[EE,N4,Hw,Lg,QP a]
def Sy(i:Int):Gm [.int i]=aA (.Iv aD):=by simp[Gm,N5,Hw,Lg]
def Zfg(l:E1):K7 (iL l)=(aQ (la l)).map λ(i:Nat)=>.tup [.int (i:Int),.int (BR l i)]:=by rw[XJ,aK];apply((az));ext i a;rw[QQ l i (av.mp a)]
def Jj(W:Iz)(a b:Nat):List (List Int):=(aQ (DD W a b).toNat).map λ(t:Nat)=>[(a:Int),(b:Int),(t:Int)]
def Nl(W:Iz)(a:Nat):List (List Int):=(aQ (la W-(a+1))).flatMap λj=>Jj W a (a+1+j)
def Lb(W:Iz):List (List Int):=(aQ (la W)).flatMap (Nl W)
def Sa{W:Iz}(ok:Zu W){a b:Nat}(c:a<la W)(d:b<la W):(Jj W a b).length<=9:=by let:=ok.E5 a b c d;delta Jj;simp;omega
def Zbh(W:Iz):K7 (W.map pP)=(aQ (la W)).map λ(i:Nat)=>.tup [.int (i:Int),pP (FK W i)]:=by
 rw[XJ,aK];apply az λi a=>by rw[td W i (av.mp a)]
def Wm{W:Iz}(ok:Zu W):JA [wP W]=aA (.lst ((Lb W).map pP))/\(Lb W).length<=441:=by
 let o:=ok.lF;let c:∀i,i<la W->(Nl W i).length<=63:=λi a=>by let:=O9 (n:=W.length-(i+1)) (f:=λj=>Jj W i (i+1+j)) λj d=>Sa ok a (by omega);delta Nl;omega
 let' st:List (List Int)->Option PV->Option PV->Option PV->ZG:=λL x y z=>[aA (wP W),aA (.lst (L.map pP)),x,y,z];show⟨Uj (ZD rfl (Wl (OB (λi s=>∃x y z,s=st ((aQ i).flatMap (Nl W)) x y z) (congrArg aA (Zbh W)) ⟨aB,aB,aB,rfl⟩ ?_) ?_)),by let:=O9 c;delta Lb;omega⟩
 ·ext i l s g ⟨x,y,z,rfl⟩;let⟨a,rfl⟩:=Zjv g;let l1:=O9 (n:=i) λj d=>c j (by omega);show⟨_,rfl,V4 (vE (m:=i+1) (λj s=>∃z,s=st ((aQ i).flatMap (Nl W)++(aQ (j-(i+1))).flatMap λj=>Jj W i (i+1+j)) (aA (.int (i:Int))) (aA (pP (FK W i))) z) rfl (c1 rfl Qn) ⟨z,?_⟩ ?_) λs ⟨z,e⟩=>⟨_,_,z,e.trans (by rw[RO];rfl)⟩⟩
  ·rw[Nat.sub_self,List.range_zero,List.flatMap_nil,ck];rfl
  ·ext j s r b ⟨z,rfl⟩;let l2:=O9 (n:=j-(i+1)) (f:=λj=>Jj W i (i+1+j)) λk p=>Sa ok a (by omega);let l3:=Sa ok a b;let KC:=ok.lo i j a b;let h:=ok.E5 i j a b;show nT (Zff pP (M:=Jj W i j) ((Z2 (aQ (DD W i j).toNat) (λi=>.int (i:Int)) (λt=>pP [(i:Int),(j:Int),(t:Int)]) (Ta ((o2 rfl rfl (Xy (by rw[ok.sq i a];apply b))).trans ?_) (by omega)) (by rw[b8];omega) λt q=>⟨_,rfl,rfl,rfl⟩).trans (by rw[Jj,bR];rfl)) rfl (by rw[aq];omega)) ⟨aA (.int (j:Int)),?_⟩
   ·rw[ja KC];rfl
   ·rw[show j+1-(i+1)=(j-(i+1))+1 by omega,RO,show i+1+(j-(i+1))=j by omega,<-gn];rfl
 ·ext s ⟨x,y,z,rfl⟩;rw[aK,b8];apply⟨_,rfl,rfl⟩
noncomputable def tk(e:Xs):List MJ:=[.inl (e.1:Int),.inl (e.2.1:Int)]
def Ng(ts:List Xs):PV:=.E6 (ts.map tk) (ts.map λe=>.int e.2.2)
def V'(ts:List Xs):BW (ts.map λe=>PV.int e.2.2)=aD:=Xn λ_ _=>rfl
def Zbi(a b:Int):Jc (.tup [.int a,.int b])=aA [.inl a,.inl b]:=rfl
def VT{e:Xs}{a b:Nat}(h:tk e=[.inl (a:Int),.inl (b:Int)]):e.1=a/\e.2.1=b:=Zdo h
def Yq(ts:List Xs):(ts.map tk).zip (ts.map λe=>PV.int e.2.2)=ts.map λe=>(tk e,PV.int e.2.2):=by grind
def Zfh{n:Nat}{ts:List Xs}(ok:b0 n ts){a b:Nat}{t:Int}(h:(a,b,t)∈ts):HM (ts.map tk) (ts.map λe=>PV.int e.2.2) [.inl (a:Int),.inl (b:Int)]=aA (.int t):=by
 delta HM;rw[Yq];let c:=ok.E3;clear ok
 induction ts with
 | nil=>simp at h
 | cons e r E2=>
  rw[aa,ie];rw[aa,au] at c;rcases aW.mp h with q | q
  ·subst q;have:decide (tk (a,b,t)=[gU (a:Int),gU (b:Int)])=aD:=decide_eq_true rfl;dsimp[this,fB]
  ·have:decide (tk e=[gU (a:Int),gU (b:Int)])=aC:=decide_eq_false λz=>by let⟨f,d⟩:=VT z;apply c.1 (a9.mpr ⟨_,q,by simp[f,d]⟩)
   dsimp[this];apply E2 q c.2
def Te{n:Nat}{ts:List Xs}(ok:b0 n ts){a b:Nat}{t:Int}(h:(a,b,t)∈ts):Ed (Ng ts) (.tup [.int (a:Int),.int (b:Int)])=aA (.int t):=by change(Jc (.tup [.int (a:Int),.int (b:Int)])).bind (λk=>HM (ts.map tk) (ts.map λe=>PV.int e.2.2) k)=_;rw[Zbi];apply Zfh ok h
def ml{ts:List Xs}{a b:Nat}:[gU (a:Int),gU (b:Int)]∈ts.map tk↔∃t,(a,b,t)∈ts:=by
 rw[a9];constructor
 ·ext⟨e,c,z⟩;let⟨g,d⟩:=VT z;apply⟨e.2.2,by rw[<-g,<-d];apply c⟩
 ·ext⟨t,f⟩;apply⟨_,f,rfl⟩
def Bf(ts:List Xs)(a b:Nat):Prop:=∃t,(a,b,t)∈ts
def Ext(ts sF:List Xs):Prop:=∀c d,Bf ts c d->Bf sF c d
def Ext.refl(ts:List Xs):Ext ts ts:=λ_ _ h=>h
def Ext.trans{a b c:List Xs}(h:Ext a b)(g:Ext b c):Ext a c:=λx y z=>g x y (h x y z)
def HF(ts:List Xs):Int:=(ts.map λe=>e.2.2).sum
def RP(e:Xs)(r:List Xs):HF (e::r)=e.2.2+HF r:=rfl
def n_(l:List Xs)(a b:Nat)(t:Int):HF (l++[(a,b,t)])=HF l+t:=by delta HF;simp
def W5(a b:Nat){t:Int}(d:0<=t):∀ts:List Xs,(ts.map λe=>(e.1,e.2.1)).Nodup->(∀e∈ts,1<=e.2.2)->HF (ts.map λe=>if(e.1,e.2.1)=(a,b) then(e.1,e.2.1,t) else e)<=HF ts+t
 | [],_,_=>by change(0:Int)<=0+t;lia
 | e::r,E3,h=>by
  rw[aa,au] at E3;let f:=h e ⋯;rw[aa,RP,RP];by_cases q:(e.1,e.2.1)=(a,b)
  ·rw[Be q]
   have:(r.map λe=>if(e.1,e.2.1)=(a,b) then((e.1,e.2.1,t):Xs) else e)=r:=by
    conv=>rhs;rw[<-kG r]
    show az λx c=>?_;rw[Fb (λz=>E3.1 (a9.mpr ⟨x,c,z.trans q.symm⟩))];rfl
   rw[this];change t+HF r<=_
   lia
  ·rw[Fb q];let:=W5 a b d r E3.2 λx c=>h x (by simp[c])
   lia
def S2{n:Nat}{ts:List Xs}{a b:Nat}{t:Int}(ok:b0 n ts)(k:a<b)(x:b<n)(i:1<=t)(o:t<=9)(s:la ts<=10000) :
  ∃sF,JI (Ng ts) (.tup [.int (a:Int),.int (b:Int)]) (.int t)=aA (Ng sF)/\b0 n sF/\sF.length<=la ts+1/\Bf sF a b/\Ext ts sF/\HF sF<=HF ts+t:=by
 let c:(BW (ts.map λe=>PV.int e.2.2)&&HA (.int t)&&decide ((ts.map tk).length<=10000))=aD:=by rw[V',aK,decide_eq_true s];rfl
 let p:JI (Ng ts) (.tup [.int (a:Int),.int (b:Int)]) (.int t)=aA (.E6 (Et (ts.map tk) [.inl (a:Int),.inl (b:Int)]) (Gh (ts.map tk) (ts.map λe=>PV.int e.2.2) [.inl (a:Int),.inl (b:Int)] (.int t))):=by change(NN _).bind _=_;rw[Tb c];rfl
 rw[p];by_cases g:∃t',(a,b,t')∈ts
 ·show⟨ts.map λe=>if(e.1,e.2.1)=(a,b) then(e.1,e.2.1,t) else e,?_,⟨?_,?_⟩,⋯,?_,?_,W5 a b () ts ok.E3 λe f=>(ok.ok e f).2.2.1⟩
  ·delta Et Gh Ng;rw[Be (ml.mpr g),Be (ml.mpr g),Yq,bR,bR,bR];congr 2
   ·apply((az));ext e _;change tk e=tk (if(e.1,e.2.1)=(a,b) then(e.1,e.2.1,t) else e);split<;>rfl
   ·apply((az));ext e _;change(if tk e=[gU (a:Int),gU (b:Int)] then PV.int t else PV.int e.2.2)=PV.int (if(e.1,e.2.1)=(a,b) then((e.1,e.2.1,t):Xs) else e).2.2;by_cases q:(e.1,e.2.1)=(a,b)
    ·rw[Be q,Be (by let:=tq q;change [gU (e.1:Int),gU (e.2.1:Int)]=_;rw[this.1,this.2])]
    ·rw[Fb q,Fb (λz=>q (by let⟨i,v⟩:=VT z;rw[i,v]))]
  ·ext e f;let⟨r,m,rfl⟩:=a9.mp f;let:=ok.ok r m;split
   ·apply⟨this.1,this.2.1,i,o⟩
   ·apply this
  ·rw[bR]
   let e:((λe:Xs=>(e.1,e.2.1)) ∘ λe:Xs=>if(e.1,e.2.1)=(a,b) then(e.1,e.2.1,t) else e)=λe:Xs=>(e.1,e.2.1):=by
    funext e;change((if(e.1,e.2.1)=(a,b) then((e.1,e.2.1,t):Xs) else e).1,(if(e.1,e.2.1)=(a,b) then((e.1,e.2.1,t):Xs) else e).2.1)=_;split<;>rfl
   rw[e];apply ok.E3
  ·let⟨t',l⟩:=g;apply⟨t,a9.mpr ⟨(a,b,t'),l,Be rfl⟩⟩
  ·ext c d ⟨u,j⟩;by_cases q:(c,d)=(a,b)
   ·apply⟨t,a9.mpr ⟨(c,d,u),j,Be q⟩⟩
   ·apply⟨u,a9.mpr ⟨(c,d,u),j,Fb q⟩⟩
 ·let w:=λt' h=>g ⟨t',h⟩;show⟨ts++[(a,b,t)],?_,⟨?_,?_⟩,⋯,⟨t,⋯⟩,λc d ⟨u,j⟩=>⟨u,aj _ j⟩,by rw[n_];apply fM _⟩
  ·delta Et Gh Ng;rw[Fb (λz=>g (ml.mp z)),Fb (λz=>g (ml.mp z)),bO,bO];rfl
  ·ext e f;rcases ag.mp f with q | q
   ·apply ok.ok e q
   ·rw[aO.mp q];apply⟨k,x,i,o⟩
  ·rw[bO];show YY ok.E3 ?_;rw[a9];ext⟨e,f,q⟩;let:=tq q;let⟨A,y,t'⟩:=e;simp only at this;rw[this.1,this.2] at f;apply w t' f
def S3{i:Nat}{a fv:XE}{s:ZG}{d k v b:PV}(e:fv s=aA v)(f:a s=aA k)(c:(s[i]?).join=aA d)(hp:JI d k v=aA b):_v.Je i a fv s=aA (.IA (s.set i (aA b))):=by delta _v.Je;rw[e,f];dsimp[aY,c,hp,fB]
def Ua(ts:List Xs):Ji (Ng ts)=aA (ts.map λe=>.tup [.int (e.1:Int),.int (e.2.1:Int)]):=by change aA ((ts.map tk).map EB)=_;rw[bR];rfl
def Cl(ts:List Xs)(P:Nat->Prop):Prop:=∀a b,Bf ts a b->(P a↔P b)
def AD(n:Nat)(ts:List Xs):Prop:=∀P:Nat->Prop,Cl ts P->∀i j,i<n->j<n->(P i↔P j)
def Iy(W:Iz):Prop:=∀P:Nat->Prop,(∀a b,a<la W->b<la W->0<DD W a b->(P a↔P b))->∀i j,i<la W->j<la W->(P i↔P j)
def OD{n:Nat}{M:Iz}{e:Xs}(ok:ff n M)(h:e.1<e.2.1/\e.2.1<n/\1<=e.2.2/\e.2.2<=9)(i j:Nat):DD (Ar M e) i j=if e.2.1=i/\e.1=j then e.2.2 else if e.1=i/\e.2.1=j then e.2.2 else DD M i j:=by let⟨a,b,t⟩:=e;simp only at h ⊢;let⟨l1,c⟩:=Vv ok.len ok.row (show a<n by lia);change DD (Lc (Lc M a b t) b a t) i j=_;rw[Sm l1 c () (),Sm ok.len ok.row () ()]
def Zfi{n:Nat}{ts:List Xs}(ok:b0 n ts){a b:Nat}(h:Bf ts a b):a<n/\b<n/\0<DD (HH n ts) a b:=by
 let keep:∀(l:List Xs)(M:Iz),(∀e∈l,e.1<e.2.1/\e.2.1<n/\1<=e.2.2/\e.2.2<=9)->ff n M->0<DD M a b->0<DD (l.foldl Ar M) a b:=by
  ext l
  induction l with
  | nil=>apply λM _ _ h=>h
  | cons e r E2=>
   ext M d f hp;let c:=d e ⋯;show E2 _ (λg h'=>d g (by simp[h'])) (f.step c) ?_;rw[OD f c];split
   ·lia
   ·split
    ·lia
    ·apply hp
 let j:∀(l:List Xs)(M:Iz),(∀e∈l,e.1<e.2.1/\e.2.1<n/\1<=e.2.2/\e.2.2<=9)->ff n M->Bf l a b->0<DD (l.foldl Ar M) a b:=by
  ext l
  induction l with
  | nil=>ext M _ _ ⟨t,i⟩;simp at i
  | cons e r E2=>
   ext M d f ⟨t,i⟩;let c:=d e ⋯;rcases aW.mp i with q | q
   ·show keep r _ (λg h'=>d g (by simp[h'])) (f.step c) ?_;rw[OD f c];subst q;simp only at c;split
    ·lia
    ·rw[Be ⟨rfl,rfl⟩];change 0<t;lia
   ·apply E2 _ (λg h'=>d g (by simp[h'])) (f.step c) ⟨t,q⟩
 let⟨t,i⟩:=id h;let:=ok.ok _ i;simp only at this;apply⟨(),(),j ts _ ok.ok (ff.zero n) h⟩
def AD.conn{n:Nat}{ts:List Xs}(h:AD n ts)(ok:b0 n ts):Iy (HH n ts):=by ext P d i j l e;let k:=(Pk ok).len;show h P (λa b c=>?_) i j () ();let⟨f,g,hp⟩:=Zfi ok c;apply d a b () () hp
def UT:∀{l m:E1},l.Nodup->(∀x∈l,x∈m)->la l<=la m
 | [],m,_,_=>dH _
 | x::r,m,E3,h=>by let b:x∈m:=h x ⋯;let a:=au.mp E3;let:=UT (l:=r) (m:=m.erase x) a.2 λy c=>(gu (show y≠x from λz=>a.1 (by rw[<-z];apply c))).mpr (h y (by simp[c]));rw[iA b] at this;let hp:=kT b;rw[bB];lia
def Zmn{n:Nat}{l:E1}(c:l.Nodup)(h:∀x∈l,∃k:Nat,k<n/\x=(k:Int))(e:la l=n){j:Nat}(b:j<n):(j:Int)∈l:=by
 by_cases q:(j:Int)∈l
 ·apply q
 ·let:=UT (au.mpr ⟨q,c⟩) (λx a=>by
   rcases aW.mp a with rfl | a
   ·apply a9.mpr ⟨j,av.mpr b,rfl⟩
   ·let⟨k,d,rfl⟩:=h x a;apply a9.mpr ⟨k,av.mpr d,rfl⟩)
  rw[bB,aK,b8] at this
  lia
def NV(M:Iz):List PV:=M.map λr=>.lst (iL r)
def Zjx{M:Iz}{a:Nat}(h:a<la M):(NV M)[a]?=aA (.lst (iL (FK M a))):=by delta NV;rw[af,Pj h];rfl
def Zjy{M:Iz}{a b:Nat}{t:Int}:(NV M).set a (.lst ((iL (FK M a)).set b (.int t)))=NV (Lc M a b t):=by delta NV Lc;rw[rK];change _=(List.map (λr=>PV.lst (iL r)) M).set a (PV.lst (((FK M a).set b t).map PV.int));rw[rK]
def Zg6{n:Nat}(a:n<=1000):Gz (.lst [.int 0]) (.int (n:Int))=aA (.lst (iL (ak n 0))):=by change(if BW [PV.int 0]=aD/\(-1000000:Int)<=(n:Int)/\(n:Int)<=1000000/\[PV.int 0].length*((n:Int)).toNat<=10000 then aA (PV.lst (ak ((n:Int)).toNat [PV.int 0]).flatten) else aB)=_;rw[Be ⟨rfl,(),(),by simp;lia⟩];simp
def Zmo{i a b n:Nat}{t:Int}{M:Iz}{f c fb:XE}{s:ZG}(q:f s=aA (.int t))(h:c s=aA (.int (a:Int)))(k:fb s=aA (.int (b:Int)))(d:Lu s i=aA (NV M))(l:la M=n)(j:∀i,i<n->(FK M i).length=n)(e:a<n)(g:b<n):Cm i c fb f s=aA (.IA (s.set i (aA (.lst (NV (Lc M a b t)))))):=by rw[bt q h k d (Sh (by delta NV;rw[aK];lia)) (Zjx ()) (Xu _) rfl (Sh (by rw[aK,j a e];apply g)),Zjy]
def od{n:Nat}{ts:List Xs}(ok:b0 n ts)(o:n<=7):JV [Ng ts,.int (n:Int)]=aA (wP (HH n ts)):=by
 let' st:=λM x y=>[aA (Ng ts),aA (.int (n:Int)),aA (.lst (NV M)),x,y];show Uj (ZD (Zl ((Z2 (aQ n) (λi=>.int (i:Int)) (λ_=>.lst (iL (ak n 0))) (Ta rfl ()) (by simp;lia) λi _=>⟨_,rfl,rfl,o2 rfl rfl (Zg6 ())⟩).trans ?_)) (Wl (wq (λi s=>∃x y,s=st (HH n (ts.take i)) x y) (Ua ts) ⟨aB,aB,rfl⟩ ?_) ?_))
 ·change _=aA (PV.lst (NV (ak n (ak n 0))));delta NV;rw[List.map_const',b8,List.map_replicate]
 ·ext i l s m ⟨x,y,rfl⟩;let⟨⟨a,b,t⟩,g,rfl⟩:=Za m;let c:=aw g;let⟨k,d,_⟩:=ok.ok _ c;let f:=Pk (ts:=ts.take i) ⟨λe g=>ok.ok e (eD g),by rw[nF];apply ok.E3.sublist (gm _ _)⟩;let h:=Vv (t:=t) (b:=b) f.len f.row (show a<n by lia);let j:=Te ok c;show⟨_,rfl,Yr (Zmo (o2 rfl rfl j) rfl rfl rfl f.len f.row () d) (nT (Zmo (o2 rfl rfl j) rfl rfl rfl h.1 h.2 d ()) ⟨_,_,by rw[show HH n (ts.take (i+1))=Ar (HH n (ts.take i)) (a,b,t) from SJ _ _ g];rfl⟩)⟩
 ·ext s ⟨x,y,rfl⟩;rw[aK,dQ];show W6 (ep (c1 (Z2 (HH n ts) (λr=>.lst (iL r)) pP rfl (by rw[(Pk ok).len];lia) λr _=>⟨_,rfl,rfl,rfl⟩) rfl) ?_) rfl;simp
def yE{n:Nat}{ts:List Xs}(ok:b0 n ts)(Fm:n<=7)(Fg:la ts<=1000)(c:Int):∃d,JN [Ng ts,.int c,.int (n:Int)]=aA (Ng d)/\b0 n d/\la d<=la ts/\(AD n ts->AD n d)/\HF d<=HF ts:=by
 let T:∃v,JN [Ng ts,.int c,.int (n:Int)]=aA v/\∃d,v=Ng d/\b0 n d/\la d<=la ts/\(AD n ts->AD n d)/\HF d<=HF ts:=by
  show gi (ZD rfl (Wl (Qm (λi s=>∃(c:Int) (x:Option PV) (l:E1),s=[aA (Ng ts),aA (.int c),aA (.int (n:Int)),aA (.lst (iL l)),x,aB,aB,aB,aB]/\eT i l) rfl ⟨c,aB,[],rfl,eT.nil⟩ ?_) ?_))
  ·ext i s Z ⟨c,x,l,rfl,m⟩;let m0:=l6 c (show(i:Int)+1≠0 by lia);let m1:=iY c (show 0<(i:Int)+1 by lia);let nl:=m.len;apply Yr (Zju ((uS rfl (y7 rfl rfl)).trans (by rw[ja m0])) rfl rfl () ()) (nT (Zl (ep (xX rfl (y7 rfl rfl)))) ⟨_,_,_,rfl,m.ins _⟩)
  ·ext s ⟨c,x,l,rfl,m⟩;let ll:=m.len;show ZD rfl (Wl (wq (λi s=>∃(L Y J:Option PV) (d:List Xs),s=[aA (Ng ts),aA (.int c),aA (.int (n:Int)),aA (.lst (iL l)),x,aA (Ng d),L,Y,J]/\b0 n d/\la d<=i/\HF d<=HF (ts.take i)/\∀(j:Nat)(e:Xs),j<i->ts[j]?=aA e->Bf d (BR l e.1).toNat (BR l e.2.1).toNat\/Bf d (BR l e.2.1).toNat (BR l e.1).toNat) (Ua ts) ⟨aB,aB,aB,[],rfl,b0.nil n,aZ _,fM _,λj e Q _=>()⟩ ?_) ?_)
   ·ext i v s X ⟨L,Y,J,d,rfl,u,z,o,f⟩;let⟨⟨a,b,t⟩,G,rfl⟩:=Za X;let hil:=(aS.mp G).1;let r:=aw G;let⟨U,O,t1,t9⟩:=ok.ok _ r;simp only at U O t1 t9;let na:=m.at (x:=a) ();let nb:=m.at (by omega);let ne:=m.ne (x:=a) (by omega) (by omega) (by omega);obtain⟨p,q,g,C,R,N⟩:∃p q:Nat,(if BR l b<BR l a then BR l b else BR l a)=(p:Int)/\(if BR l b>BR l a then BR l b else BR l a)=(q:Int)/\p<q/\q<n:=by show⟨(if BR l b<BR l a then BR l b else BR l a).toNat,(if BR l b>BR l a then BR l b else BR l a).toNat,?_,?_,?_,?_⟩<;>split<;>(try split)<;>lia
    let⟨S,pe,M,hle2,E,D,yp⟩:=S2 u R N t1 t9 ();let ia:=Xy (l:=l) (k:=a) ();let ib:=Xy (l:=l) (k:=b) ();show⟨_,rfl,Yr (Zl (ep (Zmm (c2 (o2 rfl rfl ia) (o2 rfl rfl ib) (by rw[<-g];rfl)) (c2 (o2 rfl rfl ia) (o2 rfl rfl ib) (by rw[<-C];rfl))))) (nT (S3 (o2 rfl rfl (Te ok r)) rfl rfl pe) ⟨_,_,_,S,rfl,M,(),?_,λj e Q w=>?_⟩)⟩
    ·rw[kO,G];change _<=HF (ts.take i++[(a,b,t)]);rw[n_];lia
    ·by_cases I:j<i
     ·apply(f j e I w).imp (D _ _) (D _ _)
     ·let W:j=i:=()
      subst W;rw[G] at w;cases w;by_cases F:BR l b<BR l a
      ·rw[Be F] at g;rw[Fb ()] at C;apply .inr (by rw[g,C];apply E)
      ·rw[Fb F] at g;rw[Be ()] at C;apply .inl (by rw[g,C];apply E)
   ·ext s ⟨L,Y,J,d,rfl,u,z,o,f⟩;rw[aK] at z f o;rw[dQ] at o;show⟨_,rfl,d,rfl,u,z,λIL P hP i j Z Q=>?_,o⟩;let B:∀k,k<n->∃x,x<n/\(BR l x).toNat=k:=λk H=>by let hm:=Zmn m.E3 (λx A=>⟨x.toNat,by let:=m.E5 x A;lia,by let:=m.lo x A;lia⟩) ll H;let⟨x,A,ex⟩:=dJ hm;show⟨x,(),?_⟩;delta BR;rw[aP,aI A,ex];rfl
    let⟨x,A,rfl⟩:=B i Z;let⟨y,He,rfl⟩:=B j Q;show IL (λk=>P (BR l k).toNat) (λa b ⟨t,BH⟩=>?_) x y A He;let⟨k,H,ek⟩:=dJ BH;rcases f k (a,b,t) H (by rw[aI H,ek]) with q | q
    ·apply hP _ _ q
    ·apply(hP _ _ q).symm
 let⟨v,e,d,rfl,h⟩:=T;apply⟨d,e,h⟩
def Zbj{r m:Int}(d:1<=m)(b:m<=9):0<=r%2*(1+r/2%m)/\r%2*(1+r/2%m)<=9:=by
 let c:=l6 (r/2) (show m≠0 by lia);let f:=iY (r/2) (show 0<m by lia);let a:r%2=0\/r%2=1:=()
 rcases a with e | e<;>rw[e]<;>lia
def Zoq{x y:PV}(c:Int):HG [x,y] (c%2)=aA (if c%2=0 then x else y):=by
 let h:c%2=0\/c%2=1:=()
 rcases h with h | h<;>rw[h]<;>rfl
def va(b:Bool)(a:Int)(l:E1):Nf b (.int a) (.lst (iL l))=aA (.Iv (if b then !decide (a∈l) else decide (a∈l))):=by
 let c:((iL l).all λz=>K0 8 z (.int a))=aD:=by rw[mC,bK];ext x _;rfl
 change(aA (iL l)).bind _=_;dsimp[aY,Be c]
 have:decide (PV.int a∈iL l)=decide (a∈l):=decide_eq_decide.mpr (by
  rw[a9];constructor
  ·ext⟨x,d,e⟩;cases e;apply d
  ·ext h;apply⟨a,h,rfl⟩)
 rw[this]
def Nq:XS:=(BS (Hs 8 (FG (BO Jo [DA yO (DA XI (Dz 0) (DB (.int 2))) (DA Xa (DB (.int 1)) (DA XI (DA We (Dz 0) (DB (.int 2))) (Dz 3))),Dz 2])))
  (BS (Hs 0 (FG (DA Hu (FV [DA We (Dz 0) (DB (.int 2)),DA We (DA We (Dz 0) (DB (.int 2))) (Dz 3)]) (DA XI (Dz 0) (DB (.int 2))))))
  (HB (xB (DA KY (Dz 8) (DB (.int 0)))) (BS (_v.Je 4 (DU [Dz 6,Dz 7]) (Dz 8))
  (Hs 2 (FG (DA Tq (Dz 2) (Dz 8))))) KI)))
def Ky(n:Nat)(most:Int)(ts:List Xs)(tw room:Int)(x6 Kv x8:IY)(x9:IY)(met:E1):ZG:=
 [aA (.int tw),aA (.int (n:Int)),aA (.int room),aA (.int most),aA (Ng ts),aA (.lst (iL met)),x6.map PV.int,Kv.map PV.int,x8.map PV.int,x9.map PV.int]
def Zjz{n:Nat}{most:Int}{ts:List Xs}{tw room:Int}{a b:Nat}{p m:IY}{met:E1}(x:1<=most)(w:most<=9)(ok:b0 n ts)(E:la ts<=1000)(g:a<b)(A:b<n) :
  ∃sF ni uE x8',Nq (Ky n most ts tw room (aA (a:Int)) (aA (b:Int)) p m met)=aA (.IA (Ky n most sF ni uE (aA (a:Int)) (aA (b:Int)) (aA x8') m met))/\b0 n sF/\sF.length<=la ts+1/\(0<=room->0<=uE/\HF sF+uE<=HF ts+room):=by
 let⟨F,D⟩:=Zbj (r:=tw) x w;let B:LD (tw%2) (1+tw/2%most):=Zja () ();let q:M4 tw 2:=PX () ();let o:M4 (tw/2) most:=PX () ();let v:0<most:=()
 generalize d:(if room<tw%2*(1+tw/2%most) then room else tw%2*(1+tw/2%most))=BB;let f:BB<=9:=by rw[<-d];split<;>lia
 generalize k:(if tw%2=0 then tw/2 else tw/2/most)=rs;let j:(if tw%2=0 then PV.int (tw/2) else PV.int (tw/2/most))=PV.int rs:=by rw[<-k];split<;>rfl
 let' s:=Ky n most ts tw room (aA (a:Int)) (aA (b:Int)) p m met;let t:FG (BO Jo [DA yO (DA XI (Dz 0) (DB (.int 2))) (DA Xa (DB (.int 1)) (DA XI (DA We (Dz 0) (DB (.int 2))) (Dz 3))),Dz 2]) s=aA (.int BB):=by simp[s,Ky,B,q,v,d]
 let u:∀z,FG (DA Hu (FV [DA We (Dz 0) (DB (.int 2)),DA We (DA We (Dz 0) (DB (.int 2))) (Dz 3)]) (DA XI (Dz 0) (DB (.int 2)))) (s.set 8 z)=aA (.int rs):=λz=>by simp[s,Ky,q,o,Zoq,j]
 by_cases c:0<BB
 ·let⟨i,C,l,e,_,_,y⟩:=S2 ok g A () f ();apply⟨i,rs,room-BB,BB,sq (Zl t) (sq (Zl (u _)) (zL (xb (o2 rfl rfl (congrArg (λz=>aA (PV.Iv z)) (decide_eq_true c)))) (sq (S3 rfl rfl rfl C) (Zl (ep (uR rfl rfl)))))),l,e,λ_=>⟨(),()⟩⟩
 ·apply⟨ts,rs,room,BB,sq (Zl t) (sq (Zl (u _)) (Qv (xb (o2 rfl rfl (congrArg (λz=>aA (PV.Iv z)) (decide_eq_false c)))))),ok,(),λh=>⟨h,fM _⟩⟩
structure k7(n:Nat)(ts:List Xs)(met:E1):Prop where
 E3:met.Nodup
 ok:∀m∈met,∃k:Nat,k<n/\m=(k:Int)/\∀P:Nat->Prop,Cl ts P->(P k↔P 0)
def k7.add{n:Nat}{ts:List Xs}{met:E1}{a b:Nat}(h:k7 n ts met)(f:Bf ts a b\/Bf ts b a)(o:b<n)(l:(a:Int)∈met)(g:(b:Int)∉met):k7 n ts (met++[(b:Int)]):=by
 show⟨?_,λm c=>?_⟩
 ·rw[dt];show⟨h.E3,⋯,λx i y j z=>?_⟩;rw[aO.mp j] at z;apply g (z▸i)
 ·rcases ag.mp c with c | c
  ·apply h.ok m c
  ·show⟨b,o,aO.mp c,λP d=>?_⟩;let⟨k,p,e,q⟩:=h.ok _ l;have:a=k:=()
   subst this;rcases f with z | z
   ·apply(d _ _ z).symm.trans (q P d)
   ·apply(d _ _ z).trans (q P d)
def k7.zG{n:Nat}{ts:List Xs}{met:E1}(h:k7 n ts met)(l:la met=n):AD n ts:=by
 let all:∀P,Cl ts P->∀i,i<n->(P i↔P 0):=λP a i b=>by
  let d:=Zmn h.E3 (λx g=>by let⟨k,c,e,_⟩:=h.ok x g;apply⟨k,c,e⟩) l b;let⟨k,c,e,q⟩:=h.ok _ d;have:i=k:=()
  subst this;apply q P a
 apply λP a i j b f=>(all P a i b).trans (all P a j f).symm
def TB{n:Nat}{most:Int}{ts:List Xs}{tw room:Int}{i d h e:IY}{met:E1}{f g a b:Nat}(m:Dz f (Ky n most ts tw room i d h e met)=aA (.int (a:Int)))(l:Dz g (Ky n most ts tw room i d h e met)=aA (.int (b:Int)))(j:Bf ts a b\/Bf ts b a)(o:b<n)(p:la met<=5000)(k:k7 n ts met) :
  M9 (HB (D3 (xB (DA (Nf aC) (Dz f) (Dz 5))) (xB (DA (Nf aD) (Dz g) (Dz 5)))) (Ln 5 (FG (Dz g))) KI) (Ky n most ts tw room i d h e met) λs=>∃vT,s=Ky n most ts tw room i d h e vT/\vT.length<=la met+1/\k7 n ts vT:=
 rI (xa (xb (o2 m rfl (va ..))) (xb (o2 l rfl (va ..)))) (λc=>by
  simp at c;apply nT (TK PV.int (ep l) rfl ()) ⟨met++[(b:Int)],rfl,⋯,k.add j o c.1 c.2⟩) λ_=>nT rfl ⟨met,rfl,(),k⟩
def wk{n:Nat}{most:Int}{ts:List Xs}{tw room:Int}{a b d c:IY}{met:E1}:HY [4,5] (.IA (Ky n most ts tw room a b d c met)) = .IA (Ky n most ts tw room a b d c met):=by cases a<;>cases b<;>cases d<;>cases c<;>rfl
def OE{n:Nat}{most tw room:Int}(J:1<=most)(H:most<=9)(S:n<=7)(N:1<=n):∃r,Gk [.int tw,.int (n:Int),.int room,.int most]=aA r/\(r = .IB\/∃ts,r=Ng ts/\b0 n ts/\ts.length<=49/\AD n ts/\(0<=room->HF ts<=room)):=by
 show gi (ZD rfl (ZD rfl (Wl (Qm (λi s=>∃ts r m d c g,s=Ky n most ts r m d c g aB [0]/\b0 n ts/\ts.length<=7*i/\(0<=room->0<=m/\HF ts+m<=room)) rfl ⟨[],tw,room,aB,aB,aB,rfl,b0.nil n,⋯,λh=>⟨h,by change(0:Int)+room<=room;lia⟩⟩ ?_) ?_)))
 ·ext i s O ⟨ts,r,m,d,c,g,rfl,ok,p,f⟩;show V4 (vE (m:=i+1) (λj s=>∃ts r m c g,s=Ky n most ts r m (aA (i:Int)) c g aB [0]/\b0 n ts/\ts.length<=7*i+(j-(i+1))/\(0<=room->0<=m/\HF ts+m<=room)) rfl rfl ⟨ts,r,m,c,g,rfl,ok,(),f⟩ ?_) ?_
  ·ext j s I E ⟨ts,r,m,c,g,rfl,ok,p,f⟩;let⟨w,D,z,G,F,x,A,y⟩:=Zjz J H ok () I E;apply⟨_,F,w,D,z,aA (j:Int),aA G,rfl,x,(),λh=>by let M:=f h;let L:=y M.1;apply⟨L.1,()⟩⟩
  ·ext s ⟨ts,r,m,c,g,rfl,ok,p,f⟩;apply⟨ts,r,m,_,c,g,rfl,ok,(),f⟩
 ·ext s ⟨ts,r,m,d,c,g,rfl,ok,p,f⟩;show Wl (Qm (λi s=>∃d c q met,s=Ky n most ts r m d c g q met/\met.length<=1+98*i/\k7 n ts met) rfl ⟨d,c,aB,[0],rfl,⋯,⋯,λm C=>⟨0,(),aO.mp C,λP _=>tX⟩⟩ ?_) ?_
  ·ext i s O ⟨d,c,q,met,rfl,v,o⟩;show V4 (Zbf (λj s=>∃d c met,s=Ky n most ts r m d c g (aA (i:Int)) met/\met.length<=1+98*i+2*j/\k7 n ts met) (Ua ts) ⟨d,c,met,rfl,v,o⟩ ?_ λs ⟨_,_,_,e,_⟩=>by rw[e,wk]) λs ⟨d,c,met,e,l,o⟩=>⟨d,c,_,met,e,by rw[aK] at l;lia,o⟩;ext j l s u ⟨d,c,met,rfl,v,o⟩;let⟨⟨a,b,t⟩,B,rfl⟩:=Za u;let R:=(aS.mp B).1;let k:=aw B;let ab:=ok.ok _ k;simp only at ab;show⟨Ky n most ts r m (aA (a:Int)) (aA (b:Int)) g (aA (i:Int)) met,rfl,Zg3 (TB rfl rfl (.inl ⟨t,k⟩) () () o) ?_⟩;ext s ⟨Q,rfl,l1,k1⟩;apply V4 (TB rfl rfl (.inr ⟨t,k⟩) () () k1) λs ⟨z,e,l2,k2⟩=>⟨_,_,z,e,(),k2⟩
  ·ext s ⟨d,c,q,met,rfl,v,o⟩;show⟨if met.length=n then Ng ts else .IB,?_,?_⟩
   ·delta LB;by_cases h:met.length=n
    ·simp[Ky,h]
    ·let h':¬((met.length:Int)=(n:Int)):=()
     simp[Ky,h,h']
   ·by_cases h:met.length=n
    ·rw[Be h];apply .inr ⟨ts,rfl,ok,(),o.zG h,λh=>()⟩
    ·rw[Fb h];apply .inl rfl
def Zj0(ts:List Xs)(a b:Int):∃c,JL (Ng ts) (.tup [.int a,.int b])=aA c:=⟨_,rfl⟩
def eh(ok:Zu W)(a:i<W.length):(FK W i).sum=((aQ W.length).map λj=>DD W i j).sum:=by rw[<-Zdq (FK W i),ok.sq i a];rfl
def Zj1(l:E1)(k:Nat):Ao (iL l) aB (aA (k:Int))=iL (l.take k):=by
 delta Ao;rw[_b.kr,_b.iz,aK,sx,Nat.sub_zero,<-nF];congr 1;by_cases h:k<=la l
 ·rw[js h]
 ·rw[kf (),cK (aZ _),cK ()]
def Zj2(l:E1)(k:Nat):Ao (iL l) (aA (k:Int)) aB=iL (l.drop k):=by
 delta Ao;rw[_b.kr,_b.iz,aK,<-qD];congr 1;by_cases h:k<=la l
 ·rw[js h,cK ⋯]
 ·rw[kf (),gV (aZ _),gV ()];simp
def Zfj{l:E1}{h:Nat}(v:Int)(a:h<la l):l.take h++[v]++l.drop (h+1)=l.set h v:=by rw[gn,List.set_eq_take_append_cons_drop,Be a];rfl
def T7(h:x∈l):∃i,i<l.length/\BR l i=x:=by let⟨i,a,e⟩:=dJ h;show⟨i,a,?_⟩;delta BR;rw[aP,aI a,e];rfl
def BQ:Nat->(Nat->Int)->Int
 | 0,_=>0
 | n+1,f=>BQ n f+f n
def Zp:∀{n:Nat},(∀i,i<n->f i=g i)->BQ n f=BQ n g
 | 0,_=>rfl
 | n+1,h=>by change BQ n f+f n=BQ n g+g n;rw[Zp λi a=>h i (),h n ()]
def QZ(h:∀i,i<n->f i=0):BQ n f=0:=by
 rw[Zp h];clear h
 induction n with
 | zero=>rfl
 | succ n E2=>show BQ n _+0=0;rw[E2];rfl
def Xm(f g:Fp):∀n,BQ n (λi=>f i+g i)=BQ n f+BQ n g
 | 0=>rfl
 | n+1=>by change BQ n _+(f n+g n)=(BQ n f+f n)+(BQ n g+g n);rw[Xm f g n];lia
def YB(c:Int)(f:Fp):∀n,BQ n (λi=>c*f i)=c*BQ n f
 | 0=>by change(0:Int)=c*0;simp
 | n+1=>by change BQ n _+c*f n=c*(BQ n f+f n);rw[YB c f n,sA]
def Wk(f:H8)(m:Nat):∀n,BQ n (λi=>BQ m (f i))=BQ m (λj=>BQ n λi=>f i j)
 | 0=>by change(0:Int)=BQ m λ_=>0;rw[QZ (λ_ _=>rfl)]
 | n+1=>by change BQ n (λi=>BQ m (f i))+BQ m (f n)=BQ m (λj=>(BQ n λi=>f i j)+f n j);rw[Xm,Wk f m n]
def Z1:∀{n:Nat},k<n->(∀i,i<n->i≠k->f i=0)->BQ n f=f k
 | 0,h,_=>()
 | n+1,h,z=>by
  change BQ n f+f n=f k;by_cases q:k=n
  ·subst q;rw[QZ λi a=>z i () ()];lia
  ·rw[Z1 (n:=n) () λi a=>z i (),z n () ()];lia
def Zbk:∀{n:Nat},k+1<n->(∀i,i<n->i≠k->i≠k+1->f i=0)->BQ n f=f k+f (k+1)
 | 0,h,_=>()
 | n+1,h,z=>by
  change BQ n f+f n=_;by_cases q:k+1=n
  ·subst q;rw[Z1 (k:=k) () λi b a=>z i () a ()]
  ·rw[Zbk (n:=n) () λi b=>z i (),z n () () ()];lia
def S4(f:Fp)(n:Nat):((aQ n).map f).sum=BQ n f:=by
 induction n with
 | zero=>rfl
 | succ n E2=>rw[lZ,bO,jq,E2];simp[BQ]
abbrev Mt:=Nat->Nat->Int
def DP(i:Nat)(A:Mt):Mt:=λr c=>A (if r<i then r else r+1) (c+1)
def Gj:Nat->Int
 | 0=>1
 | n+1=>- Gj n
def BU:Nat->Mt->Int
 | 0,_=>1
 | n+1,A=>BQ (n+1) λi=>Gj i*A i 0*BU n (DP i A)
def XX(n:Nat)(A:Mt):BU (n+1) A=BQ (n+1) λi=>Gj i*A i 0*BU n (DP i A):=rfl
def ZR:∀{n:Nat}{A B:Mt},(∀r c,r<n->c<n->A r c=B r c)->BU n A=BU n B
 | 0,_,_,_=>rfl
 | n+1,A,B,h=>by rw[XX,XX];show Zp λi a=>?_;rw[h i 0 a (),ZR (n:=n) (A:=DP i A) (B:=DP i B) λr c d b=>?_];delta DP;apply h _ _ (by split<;>lia) ()
def Tw:∀{n:Nat}{A B C:Mt}{k:Nat}{x y:Int},k<n->(∀r c,r<n->c<n->r≠k->A r c=C r c/\B r c=C r c)->(∀c,c<n->C k c=x*A k c+y*B k c)->BU n C=x*BU n A+y*BU n B
 | 0,_,_,_,k,_,_,h,_,_=>()
 | n+1,A,B,C,k,x,y,MK,MH,ID=>by
  rw[XX,XX,XX,<-YB,<-YB,<-Xm];show Zp λi l=>?_;by_cases q:i=k
  ·subst q;let j:BU n (DP i A)=BU n (DP i C):=ZR λr c d a=>by delta DP;apply(MH _ _ (by split<;>lia) () (by split<;>lia)).1
   let g:BU n (DP i B)=BU n (DP i C):=ZR λr c d a=>by delta DP;apply(MH _ _ (by split<;>lia) () (by split<;>lia)).2
   rw[j,g,ID 0 (),sA,me];dsimp[gY,kZ]
  ·let⟨f,m⟩:=MH i 0 l () q
   let e:BU n (DP i C)=x*BU n (DP i A)+y*BU n (DP i B):=Tw (k:=if k<i then k else k-1) (by split<;>lia) (λr c d a b=>by
    delta DP
    apply MH _ _ (by split<;>lia) () (by split at b<;>split<;>lia)) (λc a=>by
    let e:(if(if k<i then k else k-1)<i then(if k<i then k else k-1) else(if k<i then k else k-1)+1)=k:=by split<;>(try split)<;>lia
    delta DP;rw[e];apply ID (c+1) ())
   rw[f,m,e,sA];dsimp[gY,kZ]
def Q0:∀{n:Nat}{A:Mt}{k:Nat},k+1<n->(∀c,c<n->A k c=A (k+1) c)->BU n A=0
 | 0,_,k,h,_=>()
 | n+1,A,k,MK,he=>by
  rw[XX,Zbk MK]
  ·let e:BU n (DP k A)=BU n (DP (k+1) A):=ZR λr c j a=>by
    delta DP;by_cases q:r<k
    ·rw[Be q,Be ()]
    ·rw[Fb q];by_cases d:r=k
     ·subst d;rw[Be ()];apply(he (c+1) ()).symm
     ·rw[Fb ()]
   rw[e,he 0 ()];change Gj k*_*_ + - Gj k*_*_=0;rw[iP,iP];lia
  ·ext i m l g;rw[Q0 (n:=n) (A:=DP i A) (k:=if k+1<i then k else k-1) (by split<;>lia) λc a=>?_,jZ];let f:(if(if k+1<i then k else k-1)<i then(if k+1<i then k else k-1) else(if k+1<i then k else k-1)+1)=k:=by split<;>(try split)<;>lia
   let b:(if(if k+1<i then k else k-1)+1<i then(if k+1<i then k else k-1)+1 else(if k+1<i then k else k-1)+1+1)=k+1:=by split<;>(try split)<;>lia
   delta DP;rw[f,b];apply he (c+1) ()
noncomputable def put(k:Nat)(v:Fp)(A:Mt):Mt:=λr=>if r=k then v else A r
def ZC(k:Nat)(v:Fp)(A:Mt):put k v A k=v:=by delta put;rw[Be rfl]
def YW(v:Fp)(A:Mt)(h:r≠k):put k v A r=A r:=by delta put;rw[Fb h]
def XD(a:k<n):BU n (put k (λc=>x*u c+y*v c) A)=x*BU n (put k u A)+y*BU n (put k v A):=
 Tw a (λr c _ _ h=>by rw[YW _ _ h,YW _ _ h,YW _ _ h];apply⟨rfl,rfl⟩) (λc _=>by rw[ZC,ZC,ZC])
def LV(k:Nat)(A:Mt):Mt:=put k (A (k+1)) (put (k+1) (A k) A)
def Zfk(d:k+1<n):BU n (LV k A) = - BU n A:=by
 let two:∀u v:Nat->Int,BU n (put k (λc=>1*u c+1*v c) (put (k+1) (λc=>1*u c+1*v c) A))=0:=λu v=>Q0 d λc _=>by rw[ZC,YW _ _ (),ZC]
 let same:∀u:Nat->Int,BU n (put k u (put (k+1) u A))=0:=λu=>Q0 d λc _=>by rw[ZC,YW _ _ (),ZC]
 let a:∀u v:Nat->Int,put k u (put (k+1) v A)=put (k+1) v (put k u A):=λu v=>by
  funext r;delta put;by_cases q:r=k
  ·rw[Be q,Fb (),Be q]
  ·rw[Fb q];by_cases b:r=k+1
   ·rw[Be b,Be b]
   ·rw[Fb b,Fb b,Fb q]
 let h:=two (A k) (A (k+1));rw[XD (),a,XD d,a,XD d,<-a,<-a,<-a,<-a,same,same] at h
 let e:put k (A k) (put (k+1) (A (k+1)) A)=A:=by
  funext r;delta put;by_cases q:r=k
  ·rw[Be q,q]
  ·rw[Fb q];by_cases b:r=k+1
   ·rw[Be b,b]
   ·rw[Fb b]
 rw[e] at h;delta LV
 lia
def UU:∀(d:Nat){n i:Nat}{A:Mt},i+1+d<n->(∀c,c<n->A i c=A (i+1+d) c)->BU n A=0
 | 0,n,i,A,h,e=>Q0 h e
 | d+1,n,i,A,h,e=>by
  let a:BU n (LV (i+1+d) A)=0:=UU d (n:=n) (i:=i) () λc b=>by delta LV;rw[YW _ _ (),YW _ _ (),ZC];apply e c b
  rw[Zfk ()] at a
  lia
def UW(f:i<n)(d:j<n)(b:i≠j)(e:∀c,c<n->A i c=A j c):BU n A=0:=by
 rcases Nat.lt_or_gt_of_ne b with h | h
 ·apply UU (j-i-1) (i:=i) () λc a=>by rw[show i+1+(j-i-1)=j by lia];apply e c a
 ·apply UU (i-j-1) (i:=j) () λc a=>by rw[show j+1+(i-j-1)=i by lia];apply(e c a).symm
def OF:∀{n:Nat}{A:Mt},(∀c,c<n->A n c=0)->BU (n+1) A=A n n*BU n A
 | 0,A,_=>by
  change 0+1*A 0 0*1=A 0 0*1
  lia
 | n+1,A,h=>by
  rw[XX (n+1)];change BQ (n+1) _+Gj (n+1)*A (n+1) 0*_=_;rw[h 0 (),jZ,i6,mE,XX n,<-YB];show Zp λi b=>?_;rw[OF (n:=n) (A:=DP i A) λc a=>?_]
  ·let e:DP i A n n=A (n+1) (n+1):=by delta DP;rw[Fb ()]
   rw[e];dsimp[gY,kZ]
  ·delta DP;rw[Fb ()];apply h (c+1) ()
def OG{A:Mt}{a:Fp}{v:H8}(b:j<n):∀m,BU n (put j (λc=>BQ m λk=>a k*v k c) A)=BQ m λk=>a k*BU n (put j (v k) A)
 | 0=>by have:BU n (put j (λc=>0*(0:Int)+0*(0:Int)) A)=0*BU n (put j (λ_=>0) A)+0*BU n (put j (λ_=>0) A):=XD (u:=λ_=>0) (v:=λ_=>0) b;dsimp[i6,mE] at this;apply this
 | m+1=>by let:=XD (n:=n) (A:=A) (u:=λc=>BQ m λk=>a k*v k c) (v:=v m) (x:=1) (y:=a m) b;dsimp[pR] at this;change BU n (put j (λc=>(BQ m λk=>a k*v k c)+a m*v m c) A)=_;rw[this,OG b m];rfl
def Zfl{A:Mt}{a:Fp}(d:j<n):BU n (put j (λc=>BQ n λk=>a k*A k c) A)=a j*BU n A:=by
 rw[OG d n,Z1 d]
 ·have:put j (A j) A=A:=by funext r;delta put;split<;>simp_all
  rw[this]
 ·ext i e b;rw[UW e d b λc _=>by rw[YW _ _ b,ZC],jZ]
def Gb(n:Nat)(A:Mt)(i j:Nat):Int:=BU n (put j (λc=>if c=i then 1 else 0) A)
def Zfm(b:j<n)(v:Fp):BQ n (λi=>v i*Gb n A i j)=BU n (put j v A):=by
 delta Gb;rw[<-OG b n];show ZR λr c e d=>?_;delta put;split
 ·change BQ n (λk=>v k*if c=k then 1 else 0)=v c;rw[Z1 d]
  ·simp
  ·ext i f a;rw[Fb (λz=>a z.symm),jZ]
 ·rfl
def Zfn(b:k<n)(a:j<n):BQ n (λi=>A k i*Gb n A i j)=if k=j then BU n A else 0:=by
 rw[Zfm a];split
 ·rename_i h;subst h;have:put k (A k) A=A:=by funext r;delta put;split<;>simp_all
  rw[this]
 ·rename_i h;apply UW b a h λc _=>by rw[YW _ _ h,ZC]
def XY(k:Nat)(A:Mt):put k (A k) A=A:=by funext r;delta put;split<;>simp_all
def V6(a:k<n):BU n (put k (λc=>u c+v c) A)=BU n (put k u A)+BU n (put k v A):=by let:=XD (n:=n) (A:=A) (u:=u) (v:=v) (x:=1) (y:=1) a;simpa using this
def Th(a:k<n):BU n (put k (λc=>- u c) A) = - BU n (put k u A):=by let:=XD (n:=n) (A:=A) (u:=u) (v:=u) (x:=-1) (y:=0) a;simpa using this
def hY(a:k<n):BU n (put k (λc=>u c-v c) A)=BU n (put k u A)-BU n (put k v A):=by
 let:=XD (n:=n) (A:=A) (u:=u) (v:=v) (x:=1) (y:=-1) a;let e:(λc=>1*u c + -1*v c)=λc=>u c-v c:=by funext c;lia
 rw[e] at this
 lia
def Zbl(b:k<n)(h:∀c,c<n->A k c=0):BU n A=0:=by
 let:=XD (n:=n) (A:=A) (u:=A k) (v:=A k) (x:=0) (y:=0) b;rw[ZR (B:=A) (n:=n) λr c d a=>?_] at this
 ·simpa using this
 ·delta put;split
  ·rename_i q;subst q;rw[h c a];simp
  ·rfl
def RQ(e:k<n)(b:j<n)(a:j≠k)(h:∀c,c<n->u c=A j c):BU n (put k u A)=0:=
 UW e b (bN a) λc d=>by rw[ZC,YW _ _ a];apply h c d
def YC(h:k≠j)(u v:Fp)(A:Mt):put k u (put j v A)=put j v (put k u A):=by
 funext r;delta put;by_cases q:r=k
 ·subst q;simp[h]
 ·simp[q]
def Zbm(b:k<n)(a:j<n)(h:k≠j):BU n (put k u (put j v A)) = - BU n (put k v (put j u A)):=by
 let same:∀w:Nat->Int,BU n (put k w (put j w A))=0:=λw=>UW b a h λc _=>by rw[ZC,YW _ _ (bN h),ZC]
 let z:=same (λc=>u c+v c);rw[V6 b,YC h,V6 a,YC h,V6 a,<-YC h,<-YC h,<-YC h,<-YC h,same,same] at z
 lia
def g0{A B:Mt}{k:Fp}(g:q<n)(d:∀c,c<n->B q c=A q c)(h:∀r c,r<n->c<n->r≠q->B r c=A r c+k r*A q c):BU n B=BU n A:=by
 let l:∀t,t<=n->BU n (λr=>if r<t then B r else A r)=BU n A:=by
  ext t
  induction t with
  | zero=>ext _;apply ZR λr c _ _=>⋯
  | succ t E2=>
   ext m;rw[<-E2 ()];by_cases e:t=q
   ·subst e;show ZR λr c b a=>?_;by_cases z:r<t
    ·rw[Be (),Be z]
    ·by_cases z2:r=t
     ·subst z2;rw[Be (),Fb ()];apply d c a
     ·rw[Fb (),Fb z]
   ·let i:BU n (λr=>if r<t+1 then B r else A r)=BU n (put t (λc=>(1:Int)*A t c+k t*A q c) (λr=>if r<t then B r else A r)):=by
     show ZR λr c b a=>?_;delta put;by_cases z2:r=t
     ·subst z2;rw[Be rfl];rw[Be (),h r c b a e,pR]
     ·rw[Fb z2];change(if r<t+1 then B r else A r) c=(if r<t then B r else A r) c;by_cases z:r<t
      ·rw[Be (),Be z]
      ·rw[Fb (),Fb z]
    rw[i,XD ()];let f:put t (A t) (λr=>if r<t then B r else A r)=λr=>if r<t then B r else A r:=by let:=XY t (λr=>if r<t then B r else A r);dsimp[cO,if_false] at this;apply this
    rw[f,RQ (j:=q) () g (bN e) (λc a=>by
     split
     ·rw[d c a]
     ·rfl)]
    lia
 rw[<-l n (aZ n)];apply ZR λr c b _=>by rw[Be b]
abbrev Zm:=Nat×Nat
def MZ(a b:Nat):Int:=if a=b then 1 else 0
def ZW(a:Nat):MZ a a=1:=Be rfl
def ZS(h:a≠b):MZ a b=0:=Fb h
noncomputable def dl(e:Zm)(y:Nat):Int:=MZ e.1 y-MZ e.2 y
def DE(P:Fh)(a b:Nat):Nat->Nat:=λx=>if P x=P b then P a else P x
def Q1(P:Fh)(a b x y:Nat):DE P a b x=DE P a b y↔P x=P y\/((P x=P a\/P x=P b)/\(P y=P a\/P y=P b)):=by
 delta DE;split<;>split<;>lia
def DN:List Zm->(Nat->Nat)->Nat->Nat
 | [],_,0=>1
 | [],_,_+1=>0
 | e::E,P,0=>DN E P 0
 | e::E,P,s+1=>(if P e.1=P e.2 then 0 else DN E (DE P e.1 e.2) s)+DN E P (s+1)
def Eqv(n:Nat)(P Q:Fh):Prop:=∀x y,x<n->y<n->(P x=P y↔Q x=Q y)
theorem Eqv.DE(h:Eqv n P Q)(e:a<n)(f:b<n):Eqv n (DE P a b) (_p.DE Q a b):=λx y c d=>by rw[Q1,Q1,h x y c d,h x a c e,h x b c f,h y a d e,h y b d f]
def Ew(n:Nat)(E:List Zm):Prop:=∀e∈E,e.1<n/\e.2<n
def Q2:∀{E:List Zm}{P Q:Fh}{s:Nat},Ew n E->Eqv n P Q->DN E P s=DN E Q s
 | [],P,Q,0,_,_=>rfl
 | [],P,Q,s+1,_,_=>rfl
 | e::E,P,Q,0,hE,h=>Q2 (E:=E) (λf c=>hE f (by simp[c])) h
 | e::E,P,Q,s+1,hE,h=>by
  let a:=hE e ⋯;let b:Ew n E:=λf c=>hE f (by simp[c]);change(if P e.1=P e.2 then 0 else _)+_=(if Q e.1=Q e.2 then 0 else _)+_;rw[Q2 b (h.DE a.1 a.2),Q2 b h];by_cases q:P e.1=P e.2
  ·rw[Be q,Be ((h _ _ a.1 a.2).mp q)]
  ·rw[Fb q,Fb λz=>q ((h _ _ a.1 a.2).mpr z)]
def D4(P:Fh)(E:List Zm)(x y:Nat):Int:=(E.map λe=>(MZ (P e.1) x-MZ (P e.2) x)*dl e y).sum
def C_(P:Fh)(E:List Zm):Mt:=λr c=>if P (r+1)=r+1 then D4 P E (r+1) (c+1) else MZ (r+1) (c+1)-MZ (P (r+1)) (c+1)
structure g5(m:Nat)(P:Fh):Prop where
 le:∀x,x<=m->P x<=m
 rep:∀x,x<=m->P (P x)=P x
 root:P 0=0
def Y5(P:Fh)(e:Zm)(E:List Zm)(x y:Nat):D4 P (e::E) x y=(MZ (P e.1) x-MZ (P e.2) x)*dl e y+D4 P E x y:=by delta D4;rw[aa,bj]
def r3(P:Fh)(a b:Nat)(E:List Zm)(x y:Nat):D4 P ((a,b)::E) x y=D4 P ((b,a)::E) x y:=by
 rw[Y5,Y5];congr 1;delta dl;simp only;rw[<-Int.neg_mul_neg];congr 1<;>lia
def r2(P:Fh)(a b:Nat)(E:List Zm):C_ P ((a,b)::E)=C_ P ((b,a)::E):=by funext r c;delta C_;rw[r3]
def OH(h:P a≠P b):D4 (DE P a b) E x y=if x=P a then D4 P E (P a) y+D4 P E (P b) y else if x=P b then 0 else D4 P E x y:=by
 let c:∀u:Nat,MZ (DE P a b u) x=if x=P a then MZ (P u) (P a)+MZ (P u) (P b) else if x=P b then 0 else MZ (P u) x:=λu=>by
  delta DE MZ;split<;>split<;>(try split)<;>(try split)<;>lia
 delta D4
 induction E with
 | nil=>simp
 | cons e E E2=>
  rw[aa,bj,E2,c,c];dsimp[aa,bj];by_cases q:x=P a
  ·dsimp[Be q];have:(MZ (P e.1) (P a)+MZ (P e.1) (P b)-(MZ (P e.2) (P a)+MZ (P e.2) (P b)))*dl e y=(MZ (P e.1) (P a)-MZ (P e.2) (P a))*dl e y+(MZ (P e.1) (P b)-MZ (P e.2) (P b))*dl e y:=by rw[<-me];congr 1;lia
   rw[this];lia
  ·dsimp[Fb q];by_cases d:x=P b
   ·dsimp[Be d];simp
   ·dsimp[Fb d]
theorem g5.DE(ok:g5 m P)(e:a<=m)(g:b<=m)(f:P b≠0)(d:P a≠P b):g5 m (DE P a b):=by
 let h:=ok.rep a e;let k:=ok.rep b g;let i:=ok.le a e;show⟨λx c=>?_,λx c=>?_,?_⟩
 ·delta _p.DE;split
  ·apply i
  ·apply ok.le x c
 ·let j:=ok.rep x c;delta _p.DE;by_cases q:P x=P b
  ·rw[Be q,h,Fb d]
  ·rw[Fb q,j,Fb q]
 ·delta _p.DE;rw[ok.root,Fb (bN f)]
def tB(a:x≠0)(h:P x≠x)(c:Nat):C_ P E (x-1) c=MZ x (c+1)-MZ (P x) (c+1):=by delta C_;rw[show x-1+1=x by lia,Fb h]
def XG(a:x≠0)(h:P x=x)(c:Nat):C_ P E (x-1) c=D4 P E x (c+1):=by delta C_;rw[show x-1+1=x by lia,Be h]
def yK(c:Nat):MZ 0 (c+1)=0:=ZS ()
def VO{P:Fh}{E:List Zm}(ok:g5 m P){k a:Nat}{u:Fp}(d:k<m)(g:a<=m)(b:k+1≠a\/P a=a) :
  BU m (put k (λc=>u c+MZ a (c+1)) (C_ P E))=BU m (put k (λc=>u c+MZ (P a) (c+1)) (C_ P E)):=by
 by_cases q:P a=a
 ·rw[q]
 ·let b:k+1≠a:=b.resolve_right q;let f:a≠0:=λz=>q (by rw[z];apply ok.root);let e:(λc=>u c+MZ a (c+1))=λc=>(u c+MZ (P a) (c+1))+(MZ a (c+1)-MZ (P a) (c+1)):=by funext c;lia
  rw[e,V6 d,RQ (j:=a-1) (A:=C_ P E) d () () λc _=>(tB f q c).symm]
  lia
def OI{P:Fh}{E:List Zm}(ok:g5 m P){k a:Nat}{u:Fp}(d:k<m)(g:a<=m)(b:k+1≠a\/P a=a) :
  BU m (put k (λc=>u c-MZ a (c+1)) (C_ P E))=BU m (put k (λc=>u c-MZ (P a) (c+1)) (C_ P E)):=by
 by_cases q:P a=a
 ·rw[q]
 ·let b:k+1≠a:=b.resolve_right q;let f:a≠0:=λz=>q (by rw[z];apply ok.root);let e:(λc=>u c-MZ a (c+1))=λc=>(u c-MZ (P a) (c+1))-(MZ a (c+1)-MZ (P a) (c+1)):=by funext c;lia
  rw[e,hY d,RQ (j:=a-1) (A:=C_ P E) d () () λc _=>(tB f q c).symm]
  lia
def Tt(ok:g5 m P)(t:a<=m)(h:b<=m)(hp:P a=0)(f:P b≠0) :
  BU m (C_ P ((a,b)::E))=BU m (C_ P E)+BU m (C_ (DE P a b) E):=by
 let p:=ok.le b h;let e:=ok.rep b h;generalize d:P b=q at f p e
 let s:BU m (C_ P ((a,b)::E))=BU m (put (q-1) (λc=>C_ P E (q-1) c+(MZ b (c+1)-MZ a (c+1))) (C_ P E)):=by
  show ZR λr c v i=>?_;delta put;by_cases z:r=q-1
  ·rw[Be z,z,XG f e,XG f e,Y5];dsimp[dl,hp,d];rw[ZS (bN f),ZW]
   lia
  ·rw[Fb z];delta C_;split
   ·rw[Y5];dsimp[hp,d];rw[ZS (),ZS ()];simp
   ·rfl
 rw[s,V6 ()];rw[show put (q-1) (λc=>C_ P E (q-1) c) (C_ P E)=C_ P E from XY _ _];congr 1
 let n:q-1+1≠a\/P a=a:=by
  by_cases z:q-1+1=a
  ·apply absurd (show P a=q by rw[<-z,show q-1+1=q by lia];apply e) ()
  ·apply .inl z
 let w:q-1+1≠b\/P b=b:=by
  by_cases z:q-1+1=b
  ·apply .inr (by rw[d];lia)
  ·apply .inl z
 rw[OI (u:=λc=>MZ b (c+1)) ok () t n,hp];let o:(λc=>MZ b (c+1)-MZ 0 (c+1))=λc=>0+MZ b (c+1):=by funext c;rw[yK];lia
 rw[o,VO (u:=λ_=>0) ok () h w,d];symm;show g0 (q:=q-1) (k:=λr=>if P (r+1)=q/\r+1≠q then 1 else 0) () (λc i=>?_) (λr c v i g=>?_)
 ·rw[ZC];rw[tB (P:=DE P a b) f (by delta _p.DE;rw[e,d,Be rfl,hp];apply bN f)];have:DE P a b q=0:=by delta _p.DE;rw[e,d,Be rfl,hp]
  rw[this,yK];lia
 ·rw[YW _ _ g,ZC];let j:r+1≠q:=()
  delta C_;let l:DE P a b (r+1)=if P (r+1)=q then 0 else P (r+1):=by delta _p.DE;rw[d,hp]
  by_cases z:P (r+1)=q
  ·let k1:(if P (r+1)=q/\r+1≠q then(1:Int) else 0)=1:=Be ⟨z,j⟩;rw[k1,l,Be z,Fb (),z,Fb (),yK];lia
  ·let k0:(if P (r+1)=q/\r+1≠q then(1:Int) else 0)=0:=Fb λy=>z y.1;rw[k0,l,Fb z];split
   ·rw[OH (by rw[hp,d];lia),hp,d,Fb (),Fb j];lia
   ·lia
def Zfp(b:i<m)(a:j<m)(h:i≠j) :
  BU m (put i (λc=>M i c+d c) (put j (λc=>M j c-d c) M))=BU m M+BU m (put i d M)-BU m (put j d M):=by
 rw[V6 b,YC h,hY a,YC h d,hY a];let s1:put j (λc=>M j c) (put i (λc=>M i c) M)=M:=by rw[show put i (λc=>M i c) M=M from XY _ _];apply XY _ _
 let s2:put j d (put i (λc=>M i c) M)=put j d M:=by rw[show put i (λc=>M i c) M=M from XY _ _]
 let e:put j (λc=>M j c) (put i d M)=put i d M:=by rw[<-YC h,show put j (λc=>M j c) M=M from XY _ _]
 let f:BU m (put j d (put i d M))=0:=UW (i:=j) (j:=i) a b (bN h) λc _=>by rw[ZC,YW _ _ h,ZC]
 rw[s1,s2,e,f]
 lia
def Zbn(ok:g5 m P)(v:a<=m)(w:b<=m)(hp:P a≠0)(s:P b≠0)(g:P a≠P b) :
  BU m (C_ P ((a,b)::E))=BU m (C_ P E)+BU m (C_ (DE P a b) E):=by
 let J:=ok.le a v;let l:=ok.rep a v;let L:=ok.le b w;let n:=ok.rep b w;generalize f:P a=p at hp J l g;generalize e:P b=q at s L n g;let i:p-1≠q-1:=()
 let' M:=C_ P E;let' d:Nat->Int:=λc=>MZ a (c+1)-MZ b (c+1);let' j:Nat->Int:=λc=>MZ p (c+1)-MZ q (c+1)
 let N:BU m (C_ P ((a,b)::E))=BU m (put (p-1) (λc=>M (p-1) c+d c) (put (q-1) (λc=>M (q-1) c-d c) M)):=by
  show ZR λr c R A=>?_;delta put;by_cases z:r=p-1
  ·rw[Be z,z,XG hp l];change _=C_ P E (p-1) c+d c;rw[XG hp l,Y5];dsimp[dl,f,e];rw[ZS (bN g),ZW];change(1-0)*(MZ a (c+1)-MZ b (c+1))+_=_+(MZ a (c+1)-MZ b (c+1))
   lia
  ·rw[Fb z];by_cases z2:r=q-1
   ·rw[Be z2,z2,XG s n];change _=C_ P E (q-1) c-d c;rw[XG s n,Y5];dsimp[dl,f,e];rw[ZS g,ZW];change(0-1)*(MZ a (c+1)-MZ b (c+1))+_=_-(MZ a (c+1)-MZ b (c+1))
    lia
   ·rw[Fb z2];change C_ P ((a,b)::E) r c=C_ P E r c;delta C_;split
    ·rw[Y5];dsimp[f,e];rw[ZS (),ZS ()];simp
    ·rfl
 let F:∀{k:Nat},k+1=p\/k+1=q->k+1≠a\/P a=a:=λ{k} h=>by
  by_cases z:k+1=a
  ·rcases h with h | h
   ·apply .inr (by rw[f];lia)
   ·apply absurd (show P a=q by rw[<-z,h];apply n) ()
  ·apply .inl z
 let S:∀{k:Nat},k+1=p\/k+1=q->k+1≠b\/P b=b:=λ{k} h=>by
  by_cases z:k+1=b
  ·rcases h with h | h
   ·apply absurd (show P b=p by rw[<-z,h];apply l) ()
   ·apply .inr (by rw[e];lia)
  ·apply .inl z
 let dd:∀k,k<m->(k+1=p\/k+1=q)->BU m (put k d M)=BU m (put k j M):=λk h o=>by
  let f1:BU m (put k (λc=>MZ a (c+1)-MZ b (c+1)) M)=BU m (put k (λc=>MZ a (c+1)-MZ q (c+1)) M):=by rw[<-e];apply OI (u:=λc=>MZ a (c+1)) ok h w (S o)
  let G:(λc=>MZ a (c+1)-MZ q (c+1))=λc=>- MZ q (c+1)+MZ a (c+1):=by funext c;lia
  let H:BU m (put k (λc=>- MZ q (c+1)+MZ a (c+1)) M)=BU m (put k (λc=>- MZ q (c+1)+MZ p (c+1)) M):=by rw[<-f];apply VO (u:=λc=>- MZ q (c+1)) ok h v (F o)
  change BU m (put k (λc=>MZ a (c+1)-MZ b (c+1)) M)=BU m (put k (λc=>MZ p (c+1)-MZ q (c+1)) M);rw[f1,G,H];congr 2;funext c;lia
 -- abz Dl tie adds
 let I:BU m (put (p-1) (λc=>M (p-1) c+d c) (put (q-1) (λc=>M (q-1) c-d c) M))=BU m M+BU m (put (p-1) d M)-BU m (put (q-1) d M):=by apply Zfp () () i
 -- Dl pieces made one
 let O:BU m (C_ (DE P a b) E)=BU m (put (q-1) (λc=>- j c) (put (p-1) (λc=>M (p-1) c+M (q-1) c) M)):=by
  show g0 (q:=q-1) (k:=λr=>if P (r+1)=q/\r+1≠q then 1 else 0) () (λc A=>?_) (λr c R A t=>?_)
  ·rw[ZC];have:DE P a b q=p:=by delta _p.DE;rw[n,e,Be rfl,f]
   rw[tB (P:=DE P a b) s (by rw[this];apply g),this];change _ = -(MZ p (c+1)-MZ q (c+1))
   lia
  ·rw[YW _ _ t,ZC];let B:r+1≠q:=()
   let C:DE P a b (r+1)=if P (r+1)=q then p else P (r+1):=by delta _p.DE;rw[e,f]
   by_cases D:r=p-1
   ·let x:r+1=p:=()
    let k0:(if P (r+1)=q/\r+1≠q then(1:Int) else 0)=0:=Fb λy=>g (by rw[<-y.1,x];apply l.symm);rw[k0,D,ZC,XG hp (by delta _p.DE;rw[l,e,Fb g]),OH (by rw[f,e];apply g),f,e,Be rfl];change _=C_ P E (p-1) c+C_ P E (q-1) c+_;rw[XG hp l,XG s n]
    lia
   ·rw[YW _ _ D];change C_ (DE P a b) E r c=C_ P E r c+_;delta C_;by_cases z:P (r+1)=q
    ·let k1:(if P (r+1)=q/\r+1≠q then(1:Int) else 0)=1:=Be ⟨z,B⟩;rw[k1,C,Be z,Fb (),z,Fb ()];change _=_+1 * -(MZ p (c+1)-MZ q (c+1))
     lia
    ·let k0:(if P (r+1)=q/\r+1≠q then(1:Int) else 0)=0:=Fb λy=>z y.1;rw[k0,C,Fb z];split
     ·rw[OH (by rw[f,e];apply g),f,e,Fb (),Fb B];lia
     ·lia
 let Q:BU m (put (q-1) (λc=>- j c) (put (p-1) (λc=>M (p-1) c+M (q-1) c) M))=BU m (put (p-1) j M)-BU m (put (q-1) j M):=by
  rw[YC (bN i),V6 ()];let s1:put (p-1) (λc=>M (p-1) c) (put (q-1) (λc=>- j c) M)=put (q-1) (λc=>- j c) M:=by rw[YC i,show put (p-1) (λc=>M (p-1) c) M=M from XY _ _]
  let s2:BU m (put (p-1) (λc=>M (q-1) c) (put (q-1) (λc=>- j c) M))=BU m (put (p-1) j M):=by
   rw[Zbm () () i,show put (q-1) (λc=>M (q-1) c) M=M from XY _ _,Th ()]
   lia
  rw[s1,s2,Th ()]
  lia
 rw[N,I,O,Q,dd (p-1) () (.inl ()),dd (q-1) () (.inr ())];change BU m M+_-_=BU m M+_
 lia
def Av(m:Nat)(P:Fh):Int:=BQ (m+1) λx=>MZ (P x) x
def Zj3:∀{n:Nat},q<n->(∀x,x<n->x≠q->f x=g x)->BQ n f=BQ n g+(f q-g q):=by
 ext n b h;let e:=Xm (λx=>g x) (λx=>f x-g x) n;let d:BQ n f=BQ n λx=>g x+(f x-g x):=Zp λx _=>()
 rw[d,e,Z1 (f:=λx=>f x-g x) b (λx c a=>by rw[h x c a];lia)]
def VX(ok:g5 m P)(i:a<=m)(e:b<=m)(c:P a≠P b):Av m (DE P a b)=Av m P-1:=by
 let k:=ok.rep a i;let d:=ok.rep b e;let n:=ok.le b e;delta Av;rw[Zj3 (q:=P b) (f:=λx=>MZ (DE P a b x) x) (g:=λx=>MZ (P x) x) () λx l j=>?_]
 ·let h:DE P a b (P b)=P a:=by delta DE;rw[d,Be rfl]
  change _+(MZ (DE P a b (P b)) (P b)-MZ (P (P b)) (P b))=_;rw[h,ZS c,d,ZW]
  lia
 ·change MZ (DE P a b x) x=MZ (P x) x;delta DE;split
  ·rename_i q;delta MZ;have:P a≠x:=λz=>by rw[<-z,k] at q;apply c q
   rw[Fb this,Fb ()]
  ·rfl
def Zbo:∀{n:Nat},(∀x,x<n->0<=f x)->0<=BQ n f
 | 0,_=>fM 0
 | n+1,h=>by
  let a:=Zbo (n:=n) λx b=>h x ();let c:=h n ();change 0<=BQ n f+f n
  lia
def tF:∀{n:Nat},k<n->(∀x,x<n->0<=f x)->f k<=BQ n f
 | 0,MK,_=>()
 | n+1,MK,h=>by
  let c:=Zbo (n:=n) λx a=>h x ();let b:=h n ();change f k<=BQ n f+f n;by_cases q:k=n
  ·rw[q];lia
  ·let:=tF (n:=n) (k:=k) () λx a=>h x ()
   lia
def Zbq(a b:Nat):0<=MZ a b:=by delta MZ;split<;>lia
def Zbr(ok:g5 m P):1<=Av m P:=by let:=tF (f:=λx=>MZ (P x) x) (k:=0) (n:=m+1) () λx _=>Zbq _ _;dsimp[ok.root,ZW] at this;apply this
def mx:∀{n:Nat}{A:Mt},(∀r c,r<n->c<n->A r c=MZ r c)->BU n A=1
 | 0,_,_=>rfl
 | n+1,A,h=>by rw[OF (λc a=>by rw[h n c () ()];apply ZS ()),h n n () (),ZW,mx (n:=n) λr c b a=>h r c () ()];rfl
def wL:∀{n:Nat},j<k->k<n->(∀x,x<n->0<=f x)->f j+f k<=BQ n f
 | 0,_,MK,_=>()
 | n+1,hj,MK,h=>by
  let b:=h n ();change f j+f k<=BQ n f+f n;by_cases q:k=n
  ·let:=tF (f:=f) (n:=n) (k:=j) () λx a=>h x ();rw[q];lia
  ·let:=wL (n:=n) hj () λx a=>h x ()
   lia
def UX:∀{E:List Zm}{P:Fh}{s:Nat},Ew (m+1) E->g5 m P->Av m P=(s:Int)+1->BU m (C_ P E)=(DN E P s:Int)
 | [],P,0,_,ok,i=>by
  let p:∀x,x<=m->x≠0->P x=0:=λx o u=>by
   let:=wL (f:=λx=>MZ (P x) x) (j:=0) (k:=P x) (n:=m+1);by_cases q:P x=0
   ·apply q
   ·let t:=this () (by let:=ok.le x o;lia) λx _=>Zbq _ _;dsimp[ok.root,ok.rep x o,ZW] at t;delta Av at i;dsimp[Int.natCast_zero] at i
    lia
  change BU m (C_ P [])=1;show mx λr c i I=>?_;delta C_;let:=p (r+1) () ();rw[this,Fb (),yK];delta MZ;by_cases q:r=c
  ·rw[Be (),Be q];lia
  ·rw[Fb (),Fb q];lia
 | [],P,s+1,_,ok,i=>by
  change BU m (C_ P [])=0
  have:∃x,x<=m/\x≠0/\P x=x:=by
   apply((eO));ext H;let e:Av m P=1:=by delta Av;rw[Z1 (k:=0) () λx o u=>ZS λz=>H ⟨x,(),u,z⟩,ok.root,ZW]
   lia
  let⟨x,o,u,hp⟩:=this;apply Zbl (k:=x-1) () λc _=>by rw[XG u hp];rfl
 | e::E,P,s,hE,ok,i=>by
  let⟨a,b⟩:=e;let A:=hE (a,b) ⋯;let g:a<=m:=by let:=A.1;simp only at this;lia
  let h:b<=m:=by let:=A.2;simp only at this;lia
  let d:Ew (m+1) E:=λf D=>hE f (by simp[D]);let B:=UX d ok i;by_cases q:P a=P b
  ·let G:C_ P ((a,b)::E)=C_ P E:=by
    funext r c;delta C_;rw[Y5];dsimp[q];split
    ·rw[Int.sub_self,i6,qr]
    ·rfl
   rw[G,B]
   cases s with
   | zero=>rfl
   | succ s=>
    change _=(((if P a=P b then 0 else _)+DN E P (s+1):Nat):Int);rw[Be q,jW]
  ·let step:BU m (C_ P ((a,b)::E))=BU m (C_ P E)+BU m (C_ (if P b=0 then DE P b a else DE P a b) E)/\g5 m (if P b=0 then DE P b a else DE P a b)/\Av m (if P b=0 then DE P b a else DE P a b)=Av m P-1:=by
    by_cases l:P b=0
    ·rw[Be l];show⟨?_,ok.DE h g () (),VX ok h g ()⟩;rw[r2];apply Tt ok h g l ()
    ·rw[Fb l];show⟨?_,ok.DE g h l q,VX ok g h q⟩;by_cases w:P a=0
     ·apply Tt ok g h w l
     ·apply Zbn ok g h w l q
   let⟨s1,s2,F⟩:=step;let pos:=Zbr s2;obtain⟨t,rfl⟩:∃t,s=t+1:=⟨s-1,()⟩;let v:=UX (s:=t) d s2 (by rw[F];lia)
   let C:DN E (if P b=0 then DE P b a else DE P a b) t=DN E (DE P a b) t:=by
    show Q2 d λx y o J=>?_;split
    ·rw[Q1,Q1];lia
    ·apply tX
   rw[s1,B,v,C];change _=(((if P a=P b then 0 else DN E (DE P a b) t)+DN E P (t+1):Nat):Int);rw[Fb q]
   lia
 termination_by E=>E.length
def Zbs(h:P e.1=P e.2):DN (e::E) P s=DN E P s:=by
 cases s with
 | zero=>rfl
 | succ s=>
  change(if P e.1=P e.2 then 0 else _)+_=_;rw[Be h,jW]
def Zfq(h:P e.1≠P e.2):DN (e::E) P (s+1)=DN E (DE P e.1 e.2) s+DN E P (s+1):=by change(if P e.1=P e.2 then 0 else _)+_=_;rw[Fb h]
def HQ(T:List Zm)(t:Nat):Zm:=T.getD t (0,0)
def K9(T:List Zm):(Nat->Nat)->List Nat->Nat->Nat
 | P,[]=>P
 | P,t::g=>K9 T (DE P (HQ T t).1 (HQ T t).2) g
def RU(T:List Zm):∀(g:Iw)(P:Fh)(t:Nat),K9 T P (g++[t])=DE (K9 T P g) (HQ T t).1 (HQ T t).2
 | [],P,t=>rfl
 | x::g,P,t=>RU T g _ t
def Ak(g:Iw):Nat:=match g.getLast? with | some t=>t+1 | none=>0
def XZ(g:Iw)(t:Nat):Ak (g++[t])=t+1:=by delta Ak;simp
def Ga(T:List Zm)(g:Iw):List Nat:=(mh (Ak g) (la T-Ak g)).filter λt=>!decide (K9 T id g (HQ T t).1=K9 T id g (HQ T t).2)
def KP(T:List Zm)(gs:Lm):List (List Nat):=gs.flatMap λg=>(Ga T g).map λt=>g++[t]
def Z_(h:k<n):mh k (n-k)=k::mh (k+1) (n-(k+1)):=by rw[show n-k=(n-(k+1))+1 by lia,List.range'_succ]
def r1(h:k<T.length):T.drop k=HQ T k::T.drop (k+1):=by delta HQ;rw[j8 h,aP,aI h];rfl
def OJ(T:List Zm)(P:Fh)(r:Nat):∀(d k:Nat),T.length-k=d->DN (T.drop k) P (r+1) =
  (((mh k (la T-k)).filter λt=>!decide (P (HQ T t).1=P (HQ T t).2)).map λt=>DN (T.drop (t+1)) (DE P (HQ T t).1 (HQ T t).2) r).sum
 | 0,k,h=>by rw[gV (),h];rfl
 | d+1,k,h=>by
  rw[r1 (),Z_ ()];let a:=OJ T P r d (k+1) ();by_cases q:P (HQ T k).1=P (HQ T k).2
  ·rw[Zbs q,a,List.filter_cons_of_neg (by simp[q])]
  ·rw[Zfq q,a,List.filter_cons_of_pos (by simp[q]),aa,bj]
def dy(f:β->Nat)(g:α->List β):∀l:List α,((l.flatMap g).map f).sum=(l.map λa=>((g a).map f).sum).sum
 | []=>rfl
 | a::l=>by rw[jN,bO,jq,dy f g l,aa,bj]
def Bl(T:List Zm)(r:Nat)(g:Iw):Nat:=DN (T.drop (Ak g)) (K9 T id g) r
def d'(T:List Zm)(a:Lm)(r:Nat):((KP T a).map (Bl T r)).sum=(a.map (Bl T (r+1))).sum:=by delta KP;rw[dy];congr 1;apply((az));ext g _;delta Bl Ga;rw[OJ T _ r _ _ rfl,bR];congr 1;apply((az));ext t _;change DN (T.drop (Ak (g++[t]))) (K9 T id (g++[t])) r=_;rw[XZ,RU]
def B2(T:List Zm):Nat->List (List Nat)
 | 0=>[[]]
 | s+1=>KP T (B2 T s)
def OK(T:List Zm):∀s r,((B2 T s).map (Bl T r)).sum=DN T id (s+r)
 | 0,r=>by change DN (T.drop 0) id r+0=_;rw[sx,jW,lu]
 | s+1,r=>by change((KP T (B2 T s)).map (Bl T r)).sum=_;rw[d',OK T s (r+1)];congr 1;lia
def OL:∀(E:List Zm)(P:Fh),DN E P 0=1
 | [],_=>rfl
 | e::E,P=>OL E P
def Tu:∀{l:List α},(∀a∈l,f a=1)->(l.map f).sum=la l
 | [],_=>rfl
 | a::l,h=>by rw[aa,bj,h a ⋯,Tu λb c=>h b (by simp[c]),bB];lia
def Wn(T:List Zm)(s:Nat):(B2 T s).length=DN T id s:=by let:=OK T s 0;rw[Tu (f:=Bl T 0) λg _=>OL _ _] at this;apply this
noncomputable def bn:Nat->Nat->Nat
 | _,0=>1
 | 0,_+1=>0
 | k+1,s+1=>bn k s+bn k (s+1)
def OM:∀(E:List Zm)(P:Fh)(s:Nat),DN E P s<=bn (la E) s
 | [],P,0=>by change 1<=1;lia
 | [],P,s+1=>by change 0<=_;lia
 | e::E,P,0=>by rw[OL];change 1<=bn (la E+1) 0;simp[bn]
 | e::E,P,s+1=>by
  let a:=OM E (DE P e.1 e.2) s;let b:=OM E P (s+1);change(if P e.1=P e.2 then 0 else _)+_<=bn (la E) s+bn (la E) (s+1);split<;>lia
structure Gv(T:List Zm)(g:Iw):Prop where
 lt:∀t∈g,t<la T
 vJ:g.Pairwise (· < ·)
 xH:∀i t,g[i]?=aA t->K9 T id (g.take i) (HQ T t).1≠K9 T id (g.take i) (HQ T t).2
def r4(h:g.Pairwise (· < ·))(c:Ak g<=t)(a:x∈g):x<t:=by
 rcases kc g with rfl | ⟨l,b,rfl⟩
 ·simp at a
 ·rw[jG] at *;rw[XZ] at c;rcases ag.mp a with q | q
  ·let:=(eI.mp h).2.2 x q b ⋯
   lia
  ·simp at q;lia
def Gv.snoc(h:Gv T g)(b:t∈Ga T g):Gv T (g++[t]):=by
 delta Ga at b;rw[dM,mj] at b;let⟨⟨e,f⟩,d⟩:=b;show⟨λx a=>?_,?_,λi x a=>?_⟩
 ·rcases ag.mp a with q | q
  ·apply h.lt x q
  ·simp at q;lia
 ·rw[eI];apply⟨h.vJ,⋯,λx a y c=>by simp at c;rw[c];apply r4 h.vJ e a⟩
 ·by_cases q:i<g.length
  ·rw[bM q] at a;rw[eu ()];apply h.xH i x a
  ·have:i=g.length:=by let:=(aS.mp a).1;simp at this;lia
   subst this;simp at a;subst a;rw[ju]
   ·simpa using d
   ·rfl
def Wb(T:List Zm):∀s,∀g∈B2 T s,Gv T g/\g.length=s
 | 0,g,c=>by
  have:g=[]:=by simpa [B2] using c
  subst this;apply⟨⟨λt d=>by simp at d,.nil,λi t h=>by simp at h⟩,rfl⟩
 | s+1,g,c=>by let c:g∈KP T (B2 T s):=c;delta KP at c;let⟨h,e,c⟩:=gE.mp c;let⟨t,d,rfl⟩:=a9.mp c;let⟨a,b⟩:=Wb T s h e;apply⟨a.snoc d,by rw[aq,b];rfl⟩
def IH:List Nat->List Nat->Prop
 | a::g,b::h=>a<b\/(a=b/\IH g h)
 | _,_=>False
def Yv:∀{g h:Iw}{x y:Nat},g.length=la h->IH g h->IH (g++[x]) (h++[y])
 | [],[],_,_,_,q=>q.elim
 | a::g,b::h,x,y,Fg,q=>by
  rcases q with q | ⟨q,r⟩
  ·apply .inl q
  ·apply .inr ⟨q,Yv (~~~Fg) r⟩
def ZL:∀(g:Iw){x y:Nat},x<y->IH (g++[x]) (g++[y])
 | [],x,y,h=>.inl h
 | a::g,x,y,h=>.inr ⟨rfl,ZL g h⟩
def Qp(T:List Zm):∀s,(B2 T s).Pairwise IH
 | 0=>by change([[]]:Lm).Pairwise IH;simp
 | s+1=>by
  change(KP T (B2 T s)).Pairwise IH;let e:=Qp T s;let c:=Wb T s;delta KP;generalize B2 T s=gs at e c
  induction gs with
  | nil=>simp
  | cons g gs ihg=>
   rw[jN,eI];let a:=List.pairwise_cons.mp e;show⟨?_,ihg a.2 λh b=>c h (by simp[b]),λx f y d=>?_⟩
   ·rw[dU];delta Ga;apply(List.pairwise_lt_range' (s:=Ak g) (n:=T.length-Ak g)).filter _ |>.imp λq=>ZL g q
   ·let⟨t,_,rfl⟩:=a9.mp f;let⟨h,b,d⟩:=gE.mp d;let⟨u,_,rfl⟩:=a9.mp d;apply Yv (by rw[(c g ⋯).2,(c h (by simp[b])).2]) (a.1 h b)
def g5.id(m:Nat):g5 m id:=⟨λ_ h=>h,λ_ _=>rfl,rfl⟩
def Zfr(m:Nat):Av m id=(m:Int)+1:=by
 delta Av
 have:∀n:Nat,BQ n (λx=>MZ (id x) x)=(n:Int):=by
  ext n
  induction n with
  | zero=>rfl
  | succ n E2=>show BQ n _+MZ n n=_;rw[E2,ZW];lia
 rw[this];lia
def Bo(n:Nat):List Zm:=(aQ n).flatMap λa=>(aQ (n-(a+1))).map λj=>(a,a+1+j)
def i5:(a,b)∈Bo n↔a<b/\b<n:=by
 delta Bo;dsimp[gE,av,a9,Prod.mk.injEq];constructor
 ·ext⟨x,d,j,c,rfl,rfl⟩;lia
 ·ext⟨f,e⟩;apply⟨a,(),b-(a+1),(),rfl,()⟩
structure Wt(n:Nat)(w:H8):Prop where
 nn:∀a b,a<n->b<n->0<=w a b
 sy:∀a b,a<n->b<n->w a b=w b a
 dg:∀a,a<n->w a a=0
def NZ(n:Nat)(w:H8):List Zm:=(Bo n).flatMap λp=>ak (w p.1 p.2).toNat p
def Zbt(n:Nat)(w:H8):Ew n (NZ n w):=λe a=>by
 delta NZ at a;let⟨p,hp,a⟩:=gE.mp a;rw[qX] at a;rw[a.2];let:=i5.mp (show(p.1,p.2)∈Bo n from hp)
 lia
def Zfs(f:Zm->Int):∀n,((Bo n).map f).sum=BQ n λa=>BQ n λb=>if a<b then f (a,b) else 0:=by
 ext n;delta Bo
 let d:∀(l:Iw)(g:Nat->List Zm),((l.flatMap g).map f).sum=(l.map λa=>((g a).map f).sum).sum:=by
  ext l g
  induction l with
  | nil=>rfl
  | cons a l E2=>rw[jN,bO,jq,E2,aa,bj]
 rw[d,S4];show Zp λa e=>?_;rw[bR,S4]
 -- Dl c of Dl row
 let c:∀k,BQ (a+1+k) (λb=>if a<b then f (a,b) else 0)=BQ k λj=>f (a,a+1+j):=by
  ext k
  induction k with
  | zero=>apply QZ λi h=>Fb ()
  | succ k E2=>
   change BQ (a+1+k) _+(if a<a+1+k then f (a,a+1+k) else 0)=BQ k _+f (a,a+1+k);rw[E2,Be ()]
 let:=c (n-(a+1));rw[show a+1+(n-(a+1))=n by lia] at this;rw[this];rfl
def YL(f:Zm->Int)(p:Zm):∀k:Nat,((ak k p).map f).sum=(k:Int)*f p
 | 0=>⋯
 | k+1=>by rw[fj,aa,bj,YL f p k,Int.natCast_succ,me];lia
def q2(ok:Wt n w)(f:Zm->Int):((NZ n w).map f).sum=BQ n λa=>BQ n λb=>if a<b then w a b*f (a,b) else 0:=by
 delta NZ
 let c:∀(l:List Zm)(g:Zm->List Zm),((l.flatMap g).map f).sum=(l.map λa=>((g a).map f).sum).sum:=by
  ext l g
  induction l with
  | nil=>rfl
  | cons a l E2=>rw[jN,bO,jq,E2,aa,bj]
 rw[c,Zfs (λp=>((ak (w p.1 p.2).toNat p).map f).sum)];show Zp λa d=>Zp λb e=>?_;split
 ·rw[YL];rw[ja (ok.nn a b d e)]
 ·rfl
def Zbu(ok:Wt n w)(h:x<n)(p:y<n):D4 id (NZ n w) x y=if x=y then BQ n (w x) else-w x y:=by
 delta D4;rw[q2 ok (λe=>(MZ (id e.1) x-MZ (id e.2) x)*dl e y)];dsimp[id,dl];by_cases q:x=y
 ·subst q;rw[Be rfl]
  let e:∀a,a<n->BQ n (λb=>if a<b then w a b*((MZ a x-MZ b x)*(MZ a x-MZ b x)) else 0)=(if a=x then BQ n (λb=>if x<b then w x b else 0) else 0)+(if a<x then w x a else 0):=λa g=>by
   by_cases c:a=x
   ·subst c;rw[Be rfl,Fb (),mE];show Zp λb i=>?_;split
    ·rw[ZW,ZS ()];simp
    ·rfl
   ·rw[Fb c];rw[Z1 (k:=x) h λb i d=>?_]
    ·split
     ·rw[ZS c,ZW,ok.sy a x g h];simp
     ·simp
    ·split
     ·rw[ZS c,ZS d];simp
     ·rfl
  rw[Zp e,Xm,Z1 (k:=x) h λa g f=>Fb f,Be rfl,<-Xm];show Zp λb i=>?_;by_cases o:x<b
  ·rw[Be o,Fb ()];lia
  ·rw[Fb o];by_cases r:b<x
   ·rw[Be r];lia
   ·have:b=x:=()
    subst this;rw[Fb r,ok.dg b i];rfl
 ·rw[Fb q]
  let e:∀a,a<n->BQ n (λb=>if a<b then w a b*((MZ a x-MZ b x)*(MZ a y-MZ b y)) else 0)=(if a=x then(if x<y then-w x y else 0) else 0)+(if a=y then(if y<x then-w x y else 0) else 0):=λa g=>by
   by_cases c:a=x
   ·subst c;rw[Be rfl,Fb q,mE,Z1 (k:=y) p λb i j=>?_]
    ·split
     ·rw[ZW,ZS (bN q),ZS q,ZW];simp
     ·rfl
    ·split
     ·rw[ZW,ZS q,ZS j];simp
     ·rfl
   ·rw[Fb c,qr];by_cases l:a=y
    ·subst l;rw[Be rfl,Z1 (k:=x) h λb i d=>?_]
     ·split
      ·rw[ZS c,ZW,ZW,ZS q,ok.sy a x g h];simp
      ·rfl
     ·split
      ·rw[ZS c,ZS d];simp
      ·rfl
    ·rw[Fb l];show QZ λb i=>?_;split
     ·rw[ZS c,ZS l];by_cases z:b=x
      ·subst z;rw[ZS q];simp
      ·rw[ZS z];simp
     ·rfl
  rw[Zp e,Xm,Z1 (k:=x) h λa g f=>Fb f,Be rfl,Z1 (k:=y) p λa g m=>Fb m,Be rfl];split<;>split<;>lia
def Zft(ok:Wt (m+1) w):BU m (λr c=>if r=c then BQ (m+1) (w (r+1)) else-w (r+1) (c+1))=(DN (NZ (m+1) w) id m:Int):=by
 rw[<-UX (Zbt (m+1) w) (g5.id m) (Zfr m)];show ZR λr c b a=>?_;show Eq.trans ?_ (Be (show id (r+1)=r+1 from rfl)).symm;rw[Zbu ok () ()];by_cases q:r=c
 ·rw[Be q,Be ()]
 ·rw[Fb q,Fb ()]
def ON(p:Zm)(g:α->List Zm):∀l:List α,(l.flatMap g).count p=(l.map λa=>(g a).count p).sum
 | []=>rfl
 | a::l=>by rw[jN,List.count_append,ON p g l,aa,bj]
def Zbv:∀n,n<=7->(Bo n).Nodup:=by decide +kernel
def RV:∀{l:List Zm},l.Nodup->(∀q∈l,q≠p->f q=0)->(l.map f).sum=if p∈l then f p else 0
 | [],_,_=>⋯
 | q::l,E3,h=>by
  let a:=au.mp E3;rw[aa,bj,RV a.2 λr b=>h r (by simp[b])];by_cases e:q=p
  ·subst e;rw[Fb a.1,Be ⋯];lia
  ·rw[h q ⋯ e,jW];by_cases z:p∈l
   ·rw[Be z,Be (by simp[z])]
   ·rw[Fb z,Fb (by simp[z];apply λy=>e y.symm)]
def uq(b:n<=7)(w:H8)(p:Zm):(NZ n w).count p=if p∈Bo n then(w p.1 p.2).toNat else 0:=by
 delta NZ;rw[ON,RV (p:=p) (Zbv n b) λq _ a=>?_]
 ·split
  ·rw[List.count_replicate_self]
  ·rfl
 ·rw[List.count_replicate,Fb (~~~a)]
end _p
namespace _e
open _p
def Zbw(hp:p<n)(d:q<n)(ne:p≠q)(h:∀i,i<n->i≠p->i≠q->f i=0):BQ n f=f p+f q:=by
 let e:BQ n f=BQ n (λi=>(if i=p then f p else 0)+(if i=q then f q else 0)):=Zp λi c=>by
  by_cases a:i=p
  ·subst a;simp[ne]
  ·by_cases b:i=q
   ·subst b;simp[a]
   ·simp[a,b,h i c a b]
 rw[e,Xm,Z1 hp (λi _ c=>Fb c),Z1 d (λi _ c=>Fb c),Be rfl,Be rfl]
def Zbx(f g:Fp)(n:Nat):BQ n (λi=>f i-g i)=BQ n f-BQ n g:=by
 have:BQ n (λi=>f i-g i)=BQ n (λi=>f i+(-1)*g i):=Zp λi _=>()
 rw[this,Xm,YB];lia
def NG(m:Fh)(G:Iw)(v:Nat):Bool:=G.any λg=>m g==v
def d_:NG m G v=aD↔∃g,g∈G/\m g=v:=by delta NG;simp[iM]
def KC(b:Bool):Int:=if b=aD then 1 else 0
def ML(n:Nat)(m:Fh)(G:Iw):Int:=BQ n λv=>KC (NG m G v)
def ND(m:Fh)(a b:Nat):Nat->Nat:=λx=>if m x=m a then m b else m x
def Zmq(ne:m a≠m b):NG (ND m a b) G (m a)=aC:=by
 cases q:NG (ND m a b) G (m a) with
 | false=>rfl
 | true=>
  let⟨g,_,e⟩:=d_.mp q;delta ND at e;split at e
  ·apply absurd e.symm ne
  ·rename_i z;apply absurd e z
def Zmr:NG (ND m a b) G (m b)=(NG m G (m a) || NG m G (m b)):=by
 rw[jr,ig,d_,d_,d_];constructor
 ·ext⟨g,c,e⟩;delta ND at e;split at e
  ·rename_i z;apply .inl ⟨g,c,z⟩
  ·apply .inr ⟨g,c,e⟩
 ·ext(⟨g,c,e⟩ | ⟨g,c,e⟩)
  ·apply⟨g,c,by delta ND;rw[Be e]⟩
  ·apply⟨g,c,by delta ND;split<;>first | rfl | apply e⟩
def Zms(f:v≠m a)(d:v≠m b):NG (ND m a b) G v=NG m G v:=by
 rw[jr,d_,d_];constructor
 ·ext⟨g,c,e⟩;delta ND at e;split at e
  ·apply absurd e.symm d
  ·apply⟨g,c,e⟩
 ·ext⟨g,c,e⟩;apply⟨g,c,by delta ND;rw[Fb (by rw[e];apply f)];apply e⟩
def OO(c:m a<n)(d:m b<n)(ne:m a≠m b):ML n (ND m a b) G=ML n m G-KC (NG m G (m a)&&NG m G (m b)):=by
 let e:ML n (ND m a b) G-ML n m G=BQ n (λv=>KC (NG (ND m a b) G v)-KC (NG m G v)):=(Zbx _ _ n).symm;rw[Zbw c d ne (λi _ g f=>by rw[Zms g f];lia),Zmq ne,Zmr] at e;have:KC aC-KC (NG m G (m a))+(KC (NG m G (m a) || NG m G (m b))-KC (NG m G (m b))) = - KC (NG m G (m a)&&NG m G (m b)):=by cases NG m G (m a)<;>cases NG m G (m b)<;>decide
 lia
def Zg8(b:Bool):0<=KC b:=by cases b<;>decide
def Zmt(b:Bool):KC b<=1:=by cases b<;>decide
def El(G:Iw)(e:Zm):Bool:=decide (e.1∈G)&&decide (e.2∈G)
def Nw(G:Iw)(E:List Zm):Int:=(E.map λe=>KC (El G e)).sum
def WI(G:Iw)(E:List Zm)(e:Zm):Nw G (E++[e])=Nw G E+KC (El G e):=by delta Nw;simp
structure l4(n:Nat)(m:Fh)(T:List Zm):Prop where
 lt:∀x,x<n->m x<n
 le:∀G:List Nat,G.Nodup->(∀g∈G,g<n)->Nw G T+ML n m G<=la G
 eq:Nw (aQ n) T+ML n m (aQ n)=n
 inn:∀e∈T,e.1<n/\e.2<n
def Tn:∀{l m:Iw},l.Nodup->(∀x∈l,x∈m)->la l<=la m
 | [],m,_,_=>dH _
 | x::l,m,E3,sub=>by let a:=au.mp E3;let b:=sub x ⋯;let:=Tn (l:=l) (m:=m.erase x) a.2 λy c=>(gu (λz:y=x=>a.1 (by rw[<-z];apply c))).mpr (sub y (by simp[c]));rw[iA b] at this;have:0<la m:=kT b;dsimp[bB];lia
def RW(p:Nat->Bool):∀n,BQ n (λv=>KC (p v))=(((aQ n).filter p).length:Int)
 | 0=>rfl
 | n+1=>by
  change BQ n _+KC (p n)=_;rw[RW p n,lZ,qY,aq];cases h:p n<;>simp[rq,h,KC]
def l4.start(n:Nat):l4 n (λx=>x) []:=by
 let b:∀(G:Iw)(v:Nat),NG (λx=>x) G v=decide (v∈G):=λG v=>by rw[jr,d_,decide_eq_true_eq];apply⟨λ⟨g,h,e⟩=>e▸h,λh=>⟨v,h,rfl⟩⟩
 show⟨λx h=>h,λG j f=>?_,?_,⋯⟩
 ·delta ML;rw[Zp λi _=>by rw[b],RW]
  let:=Tn (l:=(aQ n).filter λv=>decide (v∈G)) (gD.filter _) (λx d=>by
   let:=(dM.mp d).2;simpa using this)
  change(0:Int)+_<=_
  lia
 ·delta ML;rw[Zp λi _=>by rw[b],RW];rw[p9.mpr λa c=>by simpa using c];change(0:Int)+_=_;simp
def l4.step(h:l4 n m T)(c:a<n)(d:b<n)(ne:m a≠m b):l4 n (ND m a b) (T++[(a,b)]):=by
 let i:=h.lt a c;let g:=h.lt b d;let has:∀{G:Iw}{x:Nat},x∈G->NG m G (m x)=aD:=λ{G x} f=>d_.mpr ⟨x,f,rfl⟩;show⟨λx f=>?_,λG l k=>?_,?_,λe j=>?_⟩
 ·delta ND;split
  ·apply g
  ·apply h.lt x f
 ·let:=h.le G l k;rw[WI,OO i g ne]
  cases q:El G (a,b) with
  | true=>
   delta El at q;dsimp[aX,decide_eq_true_eq] at q;rw[has q.1,has q.2];change _+KC aD+(_-KC aD)<=_
   lia
  | false=>
   let:=Zg8 (NG m G (m a)&&NG m G (m b));change _+(0:Int)+_<=_
   lia
 ·let:=h.eq;rw[WI,OO i g ne];let q:El (aQ n) (a,b)=aD:=by delta El;simp[c,d]
  rw[q,has (av.mpr c),has (av.mpr d)];change _+KC aD+(_-KC aD)=_
  lia
 ·rcases ag.mp j with z | z
  ·apply h.inn e z
  ·rw[aO.mp z];apply⟨c,d⟩
def l4.lF(h:l4 n m T)(e:G.Nodup)(a:∀g∈G,g<n)(ne:G≠[]):Nw G T<=(G.length:Int)-1:=by
 let l:=h.le G e a;let⟨g,b⟩:=List.exists_mem_of_ne_nil G ne
 let j:(1:Int)<=ML n m G:=by
  let c:=h.lt g (a g b)
  let le:BQ n (λv=>if v=m g then(1:Int) else 0)<=BQ n λv=>KC (NG m G v):=by
   have:0<=BQ n (λv=>KC (NG m G v)-(if v=m g then(1:Int) else 0)):=by
    let d:∀k,0<=BQ k (λv=>KC (NG m G v)-(if v=m g then(1:Int) else 0)):=by
     ext k
     induction k with
     | zero=>apply fM _
     | succ k E2=>
      change 0<=BQ k _+(KC (NG m G k)-(if k=m g then(1:Int) else 0));by_cases z:k=m g
      ·rw[z,d_.mpr ⟨g,b,rfl⟩,Be rfl];change 0<=BQ (m g) _+((1:Int)-1);rw[z] at E2
       lia
      ·rw[Fb z];let:=Zg8 (NG m G k)
       lia
    apply d n
   rw[Zbx] at this
   lia
  rw[Z1 c λi _ f=>Fb f,Be rfl] at le;apply le
 lia
def M0(E:List Zm)(i:Nat):Zm:=E.getD i (0,0)
def hI(h:m x=m y):ND m a b x=ND m a b y:=by delta ND;rw[h]
end _e
namespace _p
open _e
structure WS where
 L:List Nat
 F:List Nat
 B:List (Nat×Nat×Nat)
def Nh(E:List Zm)(L F:Iw):Option Nat:=(aQ (la E)).find? λk=>!decide (k∈L)&&(decide ((M0 E k).1∈F) != decide ((M0 E k).2∈F))
def Hz(E:List Zm)(F:Iw)(k:Nat):Nat:=if(M0 E k).1∈F then(M0 E k).2 else(M0 E k).1
def E8(E:List Zm)(h j:Nat):Bool:=decide (h=(M0 E j).1) || decide (h=(M0 E j).2)
def KN(E:List Zm)(L:Iw)(h:Nat):Nat:=(L.filter (E8 E h)).length
def DI(E:List Zm)(φ:Hf)(s:WS)(k:Nat):WS:=
 if φ k (Hz E s.F k) (KN E (s.L++[k]) (Hz E s.F k))=aD then⟨s.L++[k],s.F++[Hz E s.F k],s.B++[(k,Hz E s.F k,KN E (s.L++[k]) (Hz E s.F k))]⟩ else⟨s.L++[k],s.F,s.B⟩
def BY(E:List Zm)(φ:Hf):Nat->WS->WS
 | 0,s=>s
 | n+1,s=>match Nh E s.L s.F with
  | some k=>BY E φ n (DI E φ s k)
  | none=>s
def FN(b:Nat):WS:=⟨[],[b],[]⟩
def YO{E:List Zm}{L F:Iw}{k:Nat}(h:Nh E L F=aA k):k<la E/\k∉L/\(decide ((M0 E k).1∈F) != decide ((M0 E k).2∈F))=aD:=by let a:=jt h;let b:=j7 h;dsimp[aX,jL,decide_eq_false_iff_not] at a;apply⟨av.mp b,a⟩
def ZZ{E:List Zm}{L F:Iw}(h:Nh E L F=aB){k:Nat}(d:k<la E)(c:k∉L):(M0 E k).1∈F↔(M0 E k).2∈F:=by
 let:=iZ.mp h k (av.mpr d);dsimp[c] at this;by_cases a:(M0 E k).1∈F
 ·by_cases b:(M0 E k).2∈F
  ·apply⟨λ_=>b,λ_=>a⟩
  ·simp[a,b] at this
 ·by_cases b:(M0 E k).2∈F
  ·simp[a,b] at this
  ·apply⟨λz=>absurd z a,λz=>absurd z b⟩
def UY{E:List Zm}{L F:Iw}{k:Nat}(h:Nh E L F=aA k):Hz E F k∉F/\E8 E (Hz E F k) k=aD/\∃o∈F,(M0 E k=(o,Hz E F k)\/M0 E k=(Hz E F k,o)):=by
 let⟨_,_,c⟩:=YO h;delta Hz E8;by_cases a:(M0 E k).1∈F
 ·by_cases b:(M0 E k).2∈F
  ·simp[a,b] at c
  ·rw[Be a];apply⟨b,⋯,_,a,.inl rfl⟩
 ·by_cases b:(M0 E k).2∈F
  ·rw[Fb a];apply⟨a,⋯,_,b,.inr rfl⟩
  ·simp[a,b] at c
def Wi{E:List Zm}{L:Iw}{k h:Nat}(a:E8 E h k=aD):KN E (L++[k]) h=KN E L h+1:=by delta KN;simp[a]
def SD{E:List Zm}{L:Iw}{k h:Nat}(a:E8 E h k=aC):KN E (L++[k]) h=KN E L h:=by delta KN;simp[a]
structure dB(E:List Zm)(n b:Nat)(s:WS):Prop where
 ym:s.L.Nodup
 wH:∀k∈s.L,k<la E
 ur:s.F.Nodup
 uT:∀h∈s.F,h<n
 hB:s.F=b::s.B.map (·.2.1)
 Iv:∀x∈s.B,x.1∈s.L
 yn:(s.B.map (·.1)).Nodup
 cn:∀q:Nat->Nat,(∀x∈s.B,q (M0 E x.1).1=q (M0 E x.1).2)->∀h∈s.F,q h=q b
def dB.start{E:List Zm}{n b:Nat}(e:b<n):dB E n b (FN b):=
 ⟨cC,λk d=>by simp[FN] at d,by simp[FN],λh a=>by simp[FN] at a;lia,rfl,λx c=>by simp[FN] at c,by simp[FN],λq _ h a=>by simp[FN] at a;rw[a]⟩
def YY{b:Type}{l:List b}{a:b}(h:l.Nodup)(n:a∉l):(l++[a]).Nodup:=by grind
def dB.step{E:List Zm}{n b k:Nat}{s:WS}{φ:Hf}(A:∀e∈E,e.1<n/\e.2<n)(i:dB E n b s)(m:Nh E s.L s.F=aA k):dB E n b (DI E φ s k):=by
 let⟨k1,k2,_⟩:=YO m;let⟨w,C,o,B,r⟩:=UY m;let c:=YY i.ym k2
 let f:∀j∈s.L++[k],j<la E:=λj t=>by
  rcases ag.mp t with z | z
  ·apply i.wH j z
  ·rw[aO.mp z];apply k1
 let u:M0 E k∈E:=by delta M0;rw[aP,aI k1];apply cI k1
 let lt:Hz E s.F k<n:=by
  let:=A _ u;rcases r with z | z<;>rw[z] at this
  ·apply this.2
  ·apply this.1
 delta DI;split
 ·show⟨c,f,YY i.ur w,λh g=>?_,?_,λx a=>?_,?_,λq p h g=>?_⟩
  ·rcases ag.mp g with z | z
   ·apply i.uT h z
   ·rw[aO.mp z];apply lt
  ·change s.F++[_]=b::(s.B++[_]).map _;rw[bO,<-nZ,<-i.hB];rfl
  ·rcases ag.mp a with z | z
   ·apply aj _ (i.Iv x z)
   ·rw[aO.mp z];apply bA _ ⋯
  ·change((s.B++[_]).map _).Nodup;rw[bO];show YY i.yn λz=>?_;let⟨x,a,v⟩:=a9.mp z;let:=i.Iv x a;rw[v] at this;apply k2 this
  ·let d:=i.cn q λx a=>p x (aj _ a);rcases ag.mp g with z | z
   ·apply d h z
   ·rw[aO.mp z];let:=p (k,Hz E s.F k,KN E (s.L++[k]) (Hz E s.F k)) (bA _ ⋯);let l:=d o B;rcases r with y | y
    ·rw[y] at this;apply this.symm.trans l
    ·rw[y] at this;apply this.trans l
 ·apply⟨c,f,i.ur,i.uT,i.hB,λx a=>aj _ (i.Iv x a),i.yn,i.cn⟩
def dB.walk{E:List Zm}{n b:Nat}{φ:Hf}(a:∀e∈E,e.1<n/\e.2<n):∀{m:Nat}{s:WS},dB E n b s->dB E n b (BY E φ m s)
 | 0,s,i=>i
 | m+1,s,i=>by
  delta BY;split
  ·rename_i k c;apply dB.walk a (i.step a c)
  ·apply i
def Qq{n:Nat}:∀{l:Iw},l.Nodup->(∀x∈l,x<n)->la l<=n:=by
 induction n with
 | zero=>
  ext l _ h
  cases l with
  | nil=>simp
  | cons a r=>apply absurd (h a ⋯) ()
 | succ n E2=>
  ext l c h
  let i:=E2 (l:=l.filter (· != n)) (c.filter _) λx b=>by
   let:=dM.mp b;let f:=h x this.1;let j:x≠n:=by simpa using this.2
   lia
  let f:la l<=(l.filter (· != n)).length+1:=by
   clear h i E2
   induction l with
   | nil=>simp
   | cons a r ih2=>
    let d:=au.mp c;rw[List.filter_cons];by_cases e:a=n
    ·subst e;have:r.filter (· != a)=r:=p9.mpr λx b=>by have:x≠a:=λz=>d.1 (z▸b);simpa using this
     simp[this]
    ·let g:(a != n)=aD:=by simpa using e
     rw[g];dsimp[if_true,bB];let:=ih2 d.2
     lia
  lia
def S7{E:List Zm}{n b:Nat}{φ:Hf}(a:∀e∈E,e.1<n/\e.2<n):∀{m:Nat}{s:WS},dB E n b s->la E<=m+s.L.length->Nh E (BY E φ m s).L (BY E φ m s).F=aB
 | 0,s,i,h=>by
  delta BY
  cases z:Nh E s.L s.F with
  | none=>rfl
  | some k=>
   let⟨k1,k2,_⟩:=YO z
   let:=Qq (n:=E.length) (YY i.ym k2) λx c=>by
    rcases ag.mp c with y | y
    ·apply i.wH x y
    ·rw[aO.mp y];apply k1
   rw[aq,bu] at this
   lia
 | m+1,s,i,h=>by
  delta BY
  cases z:Nh E s.L s.F with
  | none=>apply z
  | some k=>
   show S7 a (i.step a z) ?_
   have:(DI E φ s k).L.length=s.L.length+1:=by
    delta DI;split<;>simp
   lia
def RX(E:List Zm)(φ:Hf)(s:WS)(k:Nat):(DI E φ s k).L=s.L++[k]:=by delta DI;split<;>rfl
def lL{E:List Zm}{φ:Hf}:∀{m:Nat}{s:WS}{k:Nat},k∈s.L->k∈(BY E φ m s).B.map (·.1)->k∈s.B.map (·.1)
 | 0,s,k,_,h=>h
 | m+1,s,k,MK,h=>by
  delta BY at h;split at h
  ·rename_i j b;let a:=lL (s:=DI E φ s j) (by rw[RX];apply aj _ MK) h;let⟨_,c,_⟩:=YO b;delta DI at a;split at a
   ·rw[bO] at a;rcases ag.mp a with z | z
    ·apply z
    ·have:k=j:=by simpa using z
     apply absurd (this▸MK) c
   ·apply a
  ·apply h
def RZ{E:List Zm}{φ:Hf}:∀{m:Nat}{s:WS}{x:E_},x∈s.B->x∈(BY E φ m s).B
 | 0,s,x,h=>h
 | m+1,s,x,h=>by
  delta BY;split
  ·show RZ ?_;delta DI;split
   ·apply aj _ h
   ·apply h
  ·apply h
def OP{E:List Zm}{φ:Hf}{T:Iw}:∀{m:Nat}{s:WS},(∀x∈s.B,x.1∈s.L)->(∀k,k∈T↔k∈(BY E φ m s).B.map (·.1))->BY E (λk _ _=>decide (k∈T)) m s=BY E φ m s
 | 0,s,_,_=>rfl
 | m+1,s,IF,hT=>by
  delta BY at hT ⊢
  cases z:Nh E s.L s.F with
  | none=>rfl
  | some k=>
   rw[z] at hT;simp only at hT ⊢;let⟨_,k2,_⟩:=YO z;let g:k∈(DI E φ s k).L:=by rw[RX];simp
   let same:DI E (λk _ _=>decide (k∈T)) s k=DI E φ s k:=by
    by_cases c:φ k (Hz E s.F k) (KN E (s.L++[k]) (Hz E s.F k))=aD
    ·let b:k∈T:=(hT k).mpr (by
      have:(k,Hz E s.F k,KN E (s.L++[k]) (Hz E s.F k))∈(DI E φ s k).B:=by delta DI;rw[Be c];simp
      apply a9.mpr ⟨_,RZ this,rfl⟩)
     delta DI;rw[Be c,Be (~~~b)]
    ·let b:k∉T:=λy=>by
      let d:=lL g ((hT k).mp y);let f:(DI E φ s k).B=s.B:=by delta DI;rw[Fb c]
      rw[f] at d;let⟨x,a,e⟩:=a9.mp d;apply k2 (e▸IF x a)
     delta DI;rw[Fb c,Fb (~~~b)]
   rw[same];show OP (λx a=>?_) hT;rw[RX];delta DI at a;split at a
   ·rcases ag.mp a with y | y
    ·apply aj _ (IF x y)
    ·rw[aO.mp y];simp
   ·apply aj _ (IF x a)
def OQ{E:List Zm}{φ a:Hf}{b:Nat}(h:∀k g c,g≠b->φ k g c=a k g c):∀{m:Nat}{s:WS},b∈s.F->BY E φ m s=BY E a m s
 | 0,s,_=>rfl
 | m+1,s,IF=>by
  delta BY
  cases z:Nh E s.L s.F with
  | none=>rfl
  | some k=>
   let⟨d,_⟩:=UY z;let ne:Hz E s.F k≠b:=λy=>d (y▸IF);let same:DI E φ s k=DI E a s k:=by delta DI;rw[h _ _ _ ne]
   simp only;rw[same];show OQ h ?_;delta DI;split
   ·apply aj _ IF
   ·apply IF
def Lw(D:Fp):Nat->Nat->Nat->Bool:=λ_ h c=>decide (D h<(c:Int))
structure h_(E:List Zm)(n:Nat)(D:Fp)(s:WS):Prop where
 out:∀h,h<n->h∉s.F->(KN E s.L h:Int)<=D h
 zZ:∀x∈s.B,(x.2.2:Int)=D x.2.1+1
def h_.step{E:List Zm}{n b k:Nat}{D:Fp}{s:WS}(v:∀e∈E,e.1<n/\e.2<n)(p:h_ E n D s)(j:Nh E s.L s.F=aA k):h_ E n D (DI E (Lw D) s k):=by
 let⟨k1,k2,_⟩:=YO j;let⟨u,t,o,A,m⟩:=UY j;let r:M0 E k∈E:=by delta M0;rw[aP,aI k1];apply cI k1
 let lt:Hz E s.F k<n:=by
  let:=v _ r;rcases m with z | z<;>rw[z] at this
  ·apply this.2
  ·apply this.1
 let B0:∀g,g∉s.F->g≠Hz E s.F k->E8 E g k=aC:=λg y f=>by
  delta E8;let w:g≠o:=λz=>y (z▸A);rcases m with z | z<;>rw[z]<;>simp[w,f]
 let hs:=p.out _ lt u;let B:=Wi (L:=s.L) t;delta DI Lw;split
 ·rename_i c;let c:=of_decide_eq_true c;show⟨λh i a=>?_,λx q=>?_⟩
  ·let l:=λz=>a (aj _ z);let d:h≠Hz E s.F k:=λz=>a (bA _ (by simp[z]));rw[SD (B0 h l d)];apply p.out h i l
  ·rcases ag.mp q with z | z
   ·apply p.zZ x z
   ·rw[aO.mp z];change((KN E (s.L++[k]) (Hz E s.F k):Nat):Int)=D (Hz E s.F k)+1
    lia
 ·rename_i c;let c:¬D (Hz E s.F k)<(KN E (s.L++[k]) (Hz E s.F k):Int):=λz=>c (decide_eq_true z);show⟨λh i a=>?_,p.zZ⟩;by_cases d:h=Hz E s.F k
  ·rw[d];change(KN E (s.L++[k]) (Hz E s.F k):Int)<=_
   lia
  ·rw[SD (B0 h a d)];apply p.out h i a
def h_.walk{E:List Zm}{n:Nat}{D:Fp}(a:∀e∈E,e.1<n/\e.2<n):∀{m:Nat}{s:WS},h_ E n D s->h_ E n D (BY E (Lw D) m s)
 | 0,s,i=>i
 | m+1,s,i=>by
  delta BY;split
  ·rename_i k c;apply h_.walk a (i.step (b:=0) a c)
  ·apply i
def h_.start{E:List Zm}{n b:Nat}{D:Fp}(h:∀g,g<n->g≠b->0<=D g):h_ E n D (FN b):=
 ⟨λg d a=>by
  have:g≠b:=λz=>a (by simp[FN,z]);let:=h g d this;dsimp[FN,KN,List.filter_nil];omega,λx c=>by simp[FN] at c⟩
end _p
namespace _e
open _p
def B9(m:Fh):List Zm->Nat->Nat
 | []=>m
 | e::T=>B9 (ND m e.1 e.2) T
def Bq(e:Zm):Zm:=(e.2,e.1)
def z8:∀{T:List Zm}{m:Fh}{x y:Nat},m x=m y->B9 m T x=B9 m T y
 | [],m,x,y,h=>h
 | e::T,m,x,y,h=>z8 (T:=T) (hI h)
def jk(m:Fh)(a b:Nat):ND m a b a=ND m a b b:=by
 delta ND;rw[Be rfl];split<;>rfl
def S8:∀{T:List Zm}{m:Fh},∀e∈T,B9 m T e.1=B9 m T e.2
 | [],m,e,h=>by simp at h
 | f::T,m,e,h=>by
  rcases aW.mp h with rfl | h
  ·apply z8 (T:=T) (jk m _ _)
  ·apply S8 (T:=T) e h
def OR{q:Fh}:∀{T:List Zm}{m:Fh},(∀e∈T,q e.1=q e.2/\e.1<n/\e.2<n)->(∀x y,x<n->y<n->m x=m y->q x=q y)->∀x y,x<n->y<n->B9 m T x=B9 m T y->q x=q y
 | [],m,_,h,x,y,a,b,e=>h x y a b e
 | f::T,m,hT,h,x,y,a,b,e=>by
  let⟨c,l1,l2⟩:=hT f ⋯;show OR (T:=T) (λe d=>hT e (by simp[d])) (λx y a b e=>?_) x y a b e;delta ND at e;split at e
  ·rename_i z1;split at e
   ·rename_i z2;rw[h x _ a l1 z1,h y _ b l1 z2]
   ·rw[h x _ a l1 z1,c,h _ y l2 b e]
  ·split at e
   ·rename_i z2;rw[h x _ a l2 e,<-c,h y _ b l1 z2]
   ·apply h x y a b e
def Up(h:m a=m b):ND m a b=m:=by
 funext x;delta ND;split
 ·rename_i z;rw[z,h]
 ·rfl
def Yj:∀{T:List Zm}{m:Fh},(∀e∈T,e.1<n/\e.2<n)->(∀x,x<n->m x<n)->∀x,x<n->B9 m T x<n
 | [],m,_,h,x,a=>h x a
 | f::T,m,hT,h,x,a=>Yj (T:=T) (λe b=>hT e (by simp[b])) (λx a=>by
   delta ND;split
   ·apply h _ (hT f ⋯).2
   ·apply h x a) x a
def uU(G:Iw):∀{T:List Zm}{m:Fh},(∀e∈T,e.1<n/\e.2<n)->(∀x,x<n->m x<n)->ML n m G-(la T:Int)<=ML n (B9 m T) G
 | [],m,_,h=>by change ML n m G-(0:Int)<=ML n m G;lia
 | f::T,m,hT,h=>by
  let a:=hT f ⋯
  let lt:∀x,x<n->ND m f.1 f.2 x<n:=λx c=>by
   delta ND;split
   ·apply h _ a.2
   ·apply h x c
  let d:=uU G (T:=T) (m:=ND m f.1 f.2) (λe b=>hT e (by simp[b])) lt
  let st:ML n m G-1<=ML n (ND m f.1 f.2) G:=by
   by_cases q:m f.1=m f.2
   ·rw[Up q];lia
   ·rw[OO (h _ a.1) (h _ a.2) q];let:=Zmt (NG m G (m f.1)&&NG m G (m f.2))
    lia
  change ML n m G-((la T+1:Nat):Int)<=ML n (B9 (ND m f.1 f.2) T) G
  lia
def xF:∀(A B:List Zm)(m:Fh),B9 m (A++B)=B9 (B9 m A) B
 | [],B,m=>rfl
 | e::A,B,m=>xF A B (ND m e.1 e.2)
def Zj4(a:0<n)(lt:∀x,x<n->m x<n)(one:∀x,x<n->m x=m 0):ML n m (aQ n)=1:=by
 delta ML;rw[Z1 (lt 0 a) λi e c=>?_]
 ·rw[d_.mpr ⟨0,av.mpr a,rfl⟩];rfl
 ·cases q:NG m (aQ n) i with
  | false=>rfl
  | true=>
   let⟨g,d,b⟩:=d_.mp q;rw[one g (av.mp d)] at b;apply absurd b.symm c
def Zmu(n:Nat):ML n (λx=>x) (aQ n)=n:=by
 let:=(l4.start n).eq;let z:Nw (aQ n) []=0:=rfl
 lia
def Zfv{T:List Zm}(l:0<n)(b:∀e∈T,e.1<n/\e.2<n)(len:(la T:Int)=n-1)(one:∀x,x<n->B9 (λx=>x) (T.map Bq) x=B9 (λx=>x) (T.map Bq) 0){A B:List Zm}{e:Zm}(hs:T=A++e::B) :
  B9 (λx=>x) A e.1≠B9 (λx=>x) A e.2:=λd=>by
 let m:=λx j=>by show OR (q:=B9 (λx=>x) T) (λf c=>?_) (λx y _ _ h=>by rw[h]) x 0 j l (one x j);let⟨g,i,rfl⟩:=a9.mp c;apply⟨(S8 g i).symm,(b g i).2,(b g i).1⟩
 let a:∀x,x<n->(λx:Nat=>x) x<n:=λx h=>h;let p:=Zj4 l (Yj b a) m;let k:∀f∈A,f.1<n/\f.2<n:=λf c=>b f (by rw[hs];simp[c]);let o:∀f∈B,f.1<n/\f.2<n:=λf c=>b f (by rw[hs];simp[c]);let s:=uU (aQ n) k a;let u:=uU (aQ n) o (Yj k a);let r:B9 (λx=>x) T=B9 (B9 (λx=>x) A) B:=by rw[hs,xF];change B9 (ND (B9 (λx=>x) A) e.1 e.2) B=_;rw[Up d]
 rw[r] at p;let t:(la T:Int)=la A+la B+1:=by rw[hs];simp;lia
 let:=Zmu n
 lia
def ho{m:Fh}{T:List Zm}(h:l4 n m T)(A:0<n)(len:(la T:Int)=n-1){q:Fh}(v:∀e∈T,q e.1=q e.2):∀x,x<n->q x=q 0:=λx t=>by
 show eO λne=>?_;let' G:=(aQ n).filter λy=>decide (q y=q 0);let' d:=(aQ n).filter λy=>!decide (q y=q 0);let i:∀y,y∈G↔y<n/\q y=q 0:=λy=>by change y∈(aQ n).filter (λy=>decide (q y=q 0))↔_;rw[dM,av,decide_eq_true_eq]
 let b:∀y,y∈d↔y<n/\¬q y=q 0:=λy=>by change y∈(aQ n).filter (λy=>!decide (q y=q 0))↔_;rw[dM,av];simp
 let f1:=h.lF (G:=G) (gD.filter _) (λg r=>((i g).mp r).1) (qZ ((i 0).mpr ⟨A,rfl⟩));let C:=h.lF (G:=d) (gD.filter _) (λg r=>((b g).mp r).1) (qZ ((b x).mpr ⟨t,ne⟩))
 let k:∀l:List Zm,(∀e∈l,q e.1=q e.2/\e.1<n/\e.2<n)->Nw G l+Nw d l=la l:=by
  ext l
  induction l with
  | nil=>ext _;rfl
  | cons e l E2=>
   ext s;let c:=s e ⋯;let:=E2 λf u=>s f (by simp[u]);delta Nw at this ⊢;rw[aa,aa,bj,bj,bB]
   let one:KC (El G e)+KC (El d e)=1:=by
    delta El;by_cases z:q e.1=q 0
    ·let p:e.1∈G:=(i _).mpr ⟨c.2.1,z⟩;let o:e.2∈G:=(i _).mpr ⟨c.2.2,by rw[<-c.1];apply z⟩;let j:e.1∉d:=λw=>((b _).mp w).2 z;simp[p,o,j,KC]
    ·let p:e.1∈d:=(b _).mpr ⟨c.2.1,z⟩;let o:e.2∈d:=(b _).mpr ⟨c.2.2,by rw[<-c.1];apply z⟩;let j:e.1∉G:=λw=>z ((i _).mp w).2;simp[p,o,j,KC]
   lia
 let s1:=k T λe c=>⟨v e c,h.inn e c⟩
 let B:G.length+d.length=n:=by
  have:∀l:List Nat,(l.filter λy=>decide (q y=q 0)).length+(l.filter λy=>!decide (q y=q 0)).length=la l:=by
   ext l
   induction l with
   | nil=>rfl
   | cons a l E2=>
    by_cases z:q a=q 0<;>simp[rq,z]<;>lia
  let:=this (aQ n);rw[b8] at this;apply this
 lia
def Zbz{l acc:E1}:∀x,x∈acc\/x∈l->x∈l.foldl (λ(U:E1) k=>if U.any (·==k) then U else U++[k]) acc:=by
 induction l generalizing acc with
 | nil=>ext x h;simpa using h
 | cons a l E2=>
  ext x h;rw[gQ];show E2 x ?_;rcases h with h | h
  ·left;split
   ·apply h
   ·simp[h]
  ·rcases aW.mp h with rfl | h
   ·left;split
    ·rename_i z;let⟨y,b,e⟩:=iM.mp z;have:y=x:=by simpa using e
     rw[<-this];apply b
    ·simp
   ·apply .inr h
def OS:∀{l:E1},(∀x∈l,x=a)->l.foldl (λ(U:E1) k=>if U.any (·==k) then U else U++[k]) [a]=[a]
 | [],_=>rfl
 | b::l,h=>by
  let d:=h b ⋯;subst d;rw[gQ];have:([b].any (·==b))=aD:=⋯
  rw[Be this];apply OS λx c=>h x (by simp[c])
end _e
namespace _p
open _l _v
noncomputable def sW(ns:E1)(mo:Nat)(c n:Fp)(x:Nat):Unit:=Unit.unit
def gB{y:Nat}{l:Iw}:(y:Int)∈Hr l↔y∈l:=by delta Hr;rw[a9];apply⟨λ⟨a,h,e⟩=>by rw[show y=a by lia];apply h,λh=>⟨y,h,rfl⟩⟩
def B7(W:Iz)(h:Nat)(F:Iw):Int:=(F.map λo=>DD W h o).sum
def sl{W:Iz}{h i j k:Nat}{F:Iw}{s:ZG}(ok:Zu W)(a:h<la W)(b:∀x∈F,x<la W)(m:la F<=100)(d:s[i]?=aA (aA (wP W)))(c:s[j]?=aA (aA (.int (h:Int))))(f:s[k]?=aA (aA (.lst (iL (Hr F))))) :
  BO Ni [HC 1 [i,j] (Af (Dz k)) (.one 0) Ac (DA Hu (DA Hu (Dz 1) (Dz 2)) (Dz 0))] s=aA (.int (B7 W h F)):=by
 let e:HC 1 [i,j] (Af (Dz k)) (.one 0) Ac (DA Hu (DA Hu (Dz 1) (Dz 2)) (Dz 0)) s=aA (.lst (iL (F.map λo=>DD W h o))):=by
  rw[Z2 F (λo=>.int (o:Int)) (λo=>.int (DD W h o)) (by simp[f,Hr]) () (λo l=>⟨_,rfl,rfl,?_⟩)]
  ·simp
  ·let g:=ok.sq h a;let:=Xy (by rw[g];apply b o l);simp[F3,d,c,QP a,this];rfl
 dsimp[Xx,Zy,e];apply rL _
def uN{W:Iz}{h:Nat}{F:Iw}{X:PV}(ok:Zu W)(a:h<la W)(b:∀x∈F,x<la W)(f:la F<=100)(c:LH (Dz 2) [aA (wP W),aA (.int (h:Int)),aA X]=aA (iL (Hr F))):ED [wP W,.int (h:Int),X]=aA (.int (B7 W h F)):=by
 let d:HC 1 [0,1] (LH (Dz 2)) (.one 0) Ac (DA Hu (DA Hu (Dz 1) (Dz 2)) (Dz 0)) [aA (wP W),aA (.int (h:Int)),aA X]=aA (.lst (iL (F.map λo=>DD W h o))):=by
  rw[Z2 F (λo=>.int (o:Int)) (λo=>.int (DD W h o)) (by rw[c];simp[Hr]) () (λo e=>⟨_,rfl,rfl,?_⟩)]
  ·simp
  ·let:=Xy (by rw[ok.sq h a];apply b o e);simp[F3,QP a,this];rfl
 change(Hv _ [aA (wP W),aA (.int (h:Int)),aA X]).bind Ly=_
 rw[Rd (vP (by
  dsimp[Xx,Zy,d];apply rL _))]
 rfl
def Un{W:Iz}{h:Nat}{F:Iw}(ok:Zu W)(a:h<la W)(b:∀x∈F,x<la W)(c:la F<=100):ED [wP W,.int (h:Int),.lst (iL (Hr F))]=aA (.int (B7 W h F)):=uN ok a b c (Zl2 rfl)
def Lf(W:Iz)(D:E1)(F:Iw):Option Nat:=(aQ (la W)).find? λh=>!decide (h∈F)&&decide (BR D h<B7 W h F)
def Jz:Option Nat->PV
 | none=>.IB
 | some h=>.int (h:Int)
def gI(y:Nat)(l:Iw):Nf aD (.int (y:Int)) (.lst (iL (Hr l)))=aA (.Iv (!decide (y∈l))):=by rw[va];let:=gB (y:=y) (l:=l);simp[this]
def Q4(y:Nat)(l:Iw):Nf aC (.int (y:Int)) (.lst (iL (Hr l)))=aA (.Iv (decide (y∈l))):=by rw[va];let:=gB (y:=y) (l:=l);simp[this]
def R0{W:Iz}{D:E1}{F:Iw}(ok:Zu W)(a:la D=la W)(b:∀x∈F,x<la W)(d:la F<=100):LO [wP W,pP D,.lst (iL (Hr F))]=aA (Jz (Lf W D F)):=
 Uj (Zg4 (L:=aQ (la W)) (q:=λ(i:Nat)=>.tup [.int (i:Int),.int (BR D i)]) (g:=λi=>.int (i:Int)) (λh=>!decide (h∈F)&&decide (BR D h<B7 W h F)) (λs=>∃x y,s=[aA (wP W),aA (pP D),aA (.lst (iL (Hr F))),x,y]) (congrArg aA ((Zjs D).trans (by rw[a]))) ⟨aB,aB,rfl⟩ (by
  ext h c s ⟨x,y,e⟩;subst e
  apply⟨_,rfl,xa (xb (o2 rfl rfl (gI h F))) (xb (o2 rfl (c3 rfl rfl rfl (Un ok (av.mp c) b d)) rfl)),rfl,_,_,rfl⟩) (λh e=>by delta Lf;rw[e];rfl) λe s ⟨x,y,h⟩=>by
  subst h;apply W6 (ep rfl) (by delta Lf;rw[e];rfl))
structure f_(W:Iz)(D:E1)(b:Nat)(F:Iw):Prop where
 E3:F.Nodup
 lt:∀x∈F,x<la W
 hd:F[0]?=aA b
 st:∀k,1<=k->k<la F->Lf W D (F.take k)=F[k]?
def f_.len{W:Iz}{D:E1}{b:Nat}{F:Iw}(h:f_ W D b F):la F<=la W:=by
 let e:(Hr F).Nodup:=List.Pairwise.map _ (λa b z=>()) h.E3;let:=UT e λy d=>by let⟨a,c,rfl⟩:=a9.mp d;apply a9.mpr ⟨a,av.mpr (h.lt a c),rfl⟩
 simpa [Hr] using this
def f_.pos{W:Iz}{D:E1}{b:Nat}{F:Iw}(h:f_ W D b F):1<=la F:=(aS.mp h.hd).1
def f_.one{W:Iz}{D:E1}{b:Nat}(c:b<la W):f_ W D b [b]:=⟨⋯,λx a=>by rw[aO.mp a];apply c,rfl,λk e d=>by simp at d;lia⟩
def V7{W:Iz}{D:E1}{F:Iw}{h:Nat}(e:Lf W D F=aA h):h<la W/\h∉F/\BR D h<B7 W h F:=by let a:=jt e;let b:=j7 e;dsimp[aX,jL,decide_eq_false_iff_not,decide_eq_true_eq] at a;apply⟨av.mp b,a⟩
def OT{W:Iz}{D:E1}{F:Iw}(e:Lf W D F=aB){h:Nat}(a:h<la W)(b:h∉F):B7 W h F<=BR D h:=by let:=iZ.mp e h (av.mpr a);simp[b] at this;apply this
def f_.add{W:Iz}{D:E1}{b h:Nat}{F:Iw}(B:f_ W D b F)(e:Lf W D F=aA h):f_ W D b (F++[h]):=by
 let⟨i,g,_⟩:=V7 e;let hp:=B.pos;show⟨?_,λx d=>?_,?_,λk k1 k2=>?_⟩
 ·rw[dt];apply⟨B.E3,⋯,λa j c f z=>by rw[aO.mp f] at z;apply g (z▸j)⟩
 ·rcases ag.mp d with d | d
  ·apply B.lt x d
  ·rw[aO.mp d];apply i
 ·rw[bM ()];apply B.hd
 ·rw[aq,bu] at k2;by_cases q:k<la F
  ·rw[eu (),bM q];apply B.st k k1 q
  ·have:k=la F:=()
   subst this;rw[ju,e]
   ·simp
   ·rfl
def W4{W:Iz}{D:E1}{b:Nat}(ok:Zu W)(g:la D=la W)(f:b<la W):∃F,LQ [wP W,pP D,.int (b:Int)]=aA (.lst (iL (Hr F)))/\f_ W D b F/\Lf W D F=aB:=by
 let j:=ok.lF;let d:∀{F:Iw},f_ W D b F->LO [wP W,pP D,.lst (iL (Hr F))]=aA (Jz (Lf W D F)):=λ{F} B=>R0 ok g B.lt (by let:=B.len;lia)
 let a:∃v,LQ [wP W,pP D,.int (b:Int)]=aA v/\∃F,v = .lst (iL (Hr F))/\f_ W D b F/\Lf W D F=aB:=by
  show gi (ZD rfl (ZD (Zl (c3 rfl rfl rfl (d (f_.one f)))) (Wl (Zg5 (λk s=>∃F,s=[aA (wP W),aA (pP D),aA (.int (b:Int)),aA (.lst (iL (Hr F))),aA (Jz (Lf W D F))]/\f_ W D b F/\la W<=k+la F) ⟨[b],rfl,f_.one f,by omega⟩ ?_) ?_)))
  ·ext k s ⟨F,rfl,B,l⟩
   cases e:Lf W D F with
   | none=>apply .inl rfl
   | some h=>
    let c:=B.add e;let i:=c.len;rw[aq,bu] at i;apply .inr ⟨rfl,Yr (gw rfl rfl ()) (nT (Zl (c3 rfl rfl rfl (d c))) ⟨k-1,(),_,rfl,c,by rw[aq,bu];lia⟩)⟩
  ·ext s ⟨k,⟨F,rfl,B,_⟩,q⟩;show⟨_,rfl,F,rfl,B,?_⟩
   cases e:Lf W D F with
   | none=>rfl
   | some h=>rw[e] at q;cases q
 let⟨v,e,F,rfl,h⟩:=a;apply⟨F,e,h⟩
def f_.uniq{W:Iz}{D:E1}{b:Nat}{F G:Iw}(f:f_ W D b F)(d:f_ W D b G)(i:Lf W D F=aB)(g:Lf W D G=aB):F=G:=by
 let j:=f.pos;let n:=d.pos
 let a:∀k,k<=la F->k<=la G->F.take k=G.take k:=by
  ext k
  induction k with
  | zero=>intros;simp
  | succ k E2=>
   ext m l;let e:=E2 () ();rw[jU,jU,e];congr 1;by_cases q:k=0
   ·subst q;rw[f.hd,d.hd]
   ·rw[<-f.st k () (),<-d.st k () (),e]
 rcases Nat.lt_trichotomy (la F) (la G) with h | h | h
 ·let:=a (la F) () ();rw[dQ] at this;let c:=d.st (la F) () h;rw[<-this,i,aI h] at c;cases c
 ·let:=a (la F) () ();rw[dQ,h,dQ] at this;apply this
 ·let:=a (la G) () ();rw[dQ] at this;let c:=f.st (la G) () h;rw[this,g,aI h] at c;cases c
def Lx(D:E1)(b:Nat):List Nat:=(aQ (la D)).filter λh=>!decide (h=b)&&decide (BR D h<0)
def o'{b:Nat}(e:D.length<=1000):GH [pP D,.int (b:Int)]=aA (.lst (iL (Hr (Lx D b)))):=by
 let d:Ay aC [Dz 0] [aA (pP D),aA (.int (b:Int))]=aA ((aQ D.length).map λi=>.tup [.int (i:Int),.int (BR D i)]):=by let:=Zfg D;simp[this]
 let a:HC 2 [1] (Ay aC [Dz 0]) (.many [0,1]) (D3 (xB (DA (KD aD) (Dz 0) (Dz 2))) (xB (DA Ah (Dz 1) (DB (.int 0))))) (FG (Dz 0)) [aA (pP D),aA (.int (b:Int))]=aA (.lst (iL (Hr (Lx D b)))):=by
  rw[X7 (aQ D.length) (λi=>.tup [.int (i:Int),.int (BR D i)]) (λi=>.int (i:Int)) (λh=>!decide (h=b)&&decide (BR D h<0)) d (by simp;lia) λy f=>⟨[aA (.int (y:Int)),aA (.int (BR D y)),aA (.int (b:Int))],by simp[F3,tb],?_,λ_=>⋯⟩]
  ·delta Hr Lx iL;rw[bR];rfl
  ·by_cases q:y=b
   ·subst q;simp
   ·let c:¬(y:Int)=(b:Int):=()
    simp[q,c]
 change(Hv _ [aA (pP D),aA (.int (b:Int))]).bind Ly=_;rw[Rd a];rfl
def XA:Lx D b=[]↔∀h,h<D.length->h≠b->0<=BR D h:=by
 delta Lx;rw[List.filter_eq_nil_iff];constructor
 ·ext h x a c;let:=h x (av.mpr a);simp[c] at this;apply this
 ·ext h x a;by_cases q:x=b
  ·simp[q]
  ·let:=h x (av.mp a) q;simp[q];lia
def OU:∀{l:E1},(∀x∈l,0<=x)->0<=l.sum
 | [],_=>⋯
 | x::r,h=>by
  rw[bj];let:=h x ah;let:=OU (l:=r) λy a=>h y (aR _ a)
  lia
open _z
def VQ(a:f s=aA (pP l))(b:g s=aA (.int (k:Int)))(h:k<l.length):Ho F4 f F9 (Lr g) s=aA (pP (l.take k)):=by
 rw[yo,a];dsimp[aY,UM];delta Lr;rw[b];dsimp[aY];delta F4;dsimp[];rw[Fb,Zj1];rw[_b.kr,_b.iz,aK]
 lia
def Yp(b:f s=aA (pP l))(a:g s=aA (.int (k:Int)))(h:k<l.length):Ho F4 f (Lr (DA Xa g (DB (.int 1)))) F9 s=aA (pP (l.drop (k+1))):=by
 let a:DA Xa g (DB (.int 1)) s=aA (.int ((k+1:Nat):Int)):=by rw[QO,a];rfl
 rw[yo,b];dsimp[aY,UM];delta Lr;rw[a];dsimp[aY];delta F4;dsimp[];rw[Fb,Zj2];rw[_b.kr,_b.iz,aK]
 lia
def Q5(h:a.length+b.length<=1000):Jd (pP a) (pP b)=aA (pP (a++b)):=by delta Jd;dsimp[];rw[Be (by rw[aK,aK];lia),<-bO]
def Zj5(d:f s=aA (pP l))(c:g s=aA (.int (k:Int)))(e:h s=aA (.int v))(a:k<l.length)(i:l.length<=900) :
  FG (DA Jd (DA Jd (Ho F4 f F9 (Lr g)) (DU [h])) (Ho F4 f (Lr (DA Xa g (DB (.int 1)))) F9)) s=aA (pP (l.set k v)):=by
 show uJ (o2 (o2 (VQ d c a) (b:=pP [v]) ?_ (Q5 (by rw[bz,bu];lia))) (Yp d c a) ?_)
 ·rw[PM,Zy,e];rfl
 ·rw[Q5 (by rw[aq,bz,fL,bu];lia),Zfj v a]
def R1:∀{m:Nat},q<=m->(∀k,q<=k->k<m->f k=0)->BQ m f=BQ q f
 | 0,h,_=>by rw[show q=0 by lia]
 | m+1,h,z=>by
  by_cases e:q=m+1
  ·rw[e]
  ·change BQ m f+f m=_;rw[R1 (m:=m) () (λk a b=>z k a ()),z m () ()];lia
def UP:∀{m:Nat},q<=i->i<m->(∀k,q<=k->k<m->k≠i->f k=0)->BQ m f=BQ q f+f i
 | 0,_,h,_=>()
 | m+1,MO,E5,z=>by
  change BQ m f+f m=_;by_cases e:i=m
  ·subst e;rw[R1 (q:=q) () λk a b=>z k a () ()]
  ·rw[UP (m:=m) MO () (λk a b=>z k a ()),z m () () (λq=>e q.symm)];lia
def FU(m:Nat)(X:Mt):Nat->Mt×Int
 | 0=>(X,1)
 | p+1=>(λi j=>if i=p then(FU m X p).1 i j else((FU m X p).1 p p*(FU m X p).1 i j-(FU m X p).1 i p*(FU m X p).1 p j).fdiv (FU m X p).2,(FU m X p).1 p p)
structure xR(m:Nat)(A X:Mt):Prop where
 sym:∀i j,i<m->j<m->A i j=A j i
 inj:∀p,p<=m->∀z:Nat->Int,(∀j,j<p->BQ p (λk=>z k*A k j)=0)->∀k,k<p->z k=0
 ext:∀i j,i<m->j<m->X i j=A i j
structure Zor(m p:Nat)(X:Mt)(E:Mt)(d:Int)(i:Nat)(a:Fp):Prop where
 off:∀k,k<m->p<=k->k≠i->a k=0
 on:p<=i->a i=d
 val:∀j,j<=m->E i j=BQ m (λk=>a k*X k j)
 wQ:∀j,j<p->E i j=if i=j then d else 0
structure z9(m:Nat)(A X:Mt)(p:Nat)(E:Mt)(d:Int):Prop where
 de:d=BU p A
 nz:d≠0
 row:∀i,i<m->∃a,Zor m p X E d i a
def OV(ok:xR m A X)(hp:p<m)(I:z9 m A X p E d) :
  z9 m A X (p+1) (λi j=>if i=p then E i j else(E p p*E i j-E i p*E p j).fdiv d) (E p p)/\∀i j,i<m->j<=m->i≠p->∃q,E p p*E i j-E i p*E p j=d*q:=by
 let⟨u,t⟩:=I.row p hp;let O:=I.nz
 -- Dl yj row
 let x:∀j,j<m->E p j=BQ (p+1) (λk=>u k*A k j):=λj g=>by
  rw[t.val j (),R1 (q:=p+1) () λk w v=>by rw[t.off k v () (),i6]];apply Zp λk f=>by rw[ok.ext k j () g]
 let Y:E p p=BU (p+1) A:=by
  let w:=Zfl (n:=p+1) (j:=p) (A:=A) (a:=u) ();let v:=OF (A:=put p (λc=>BQ (p+1) λk=>u k*A k c) A) λc S=>by rw[ZC];rw[<-x c (),t.wQ c S,Fb ()]
  let P:BU p (put p (λc=>BQ (p+1) λk=>u k*A k c) A)=BU p A:=ZR λr c hr S=>by rw[YW _ _ ()]
  rw[ZC,P,w,t.on (aZ p),<-I.de] at v;let Bt:d*BU (p+1) A=E p p*d:=by rw[v];rw[<-x p hp]
  let h5:d*(BU (p+1) A)=d*E p p:=by rw[Bt,gJ]
  apply(Int.eq_of_mul_eq_mul_left O h5).symm
 let pz:E p p≠0:=λz=>by
  let:=ok.inj (p+1) () u (λj g=>by
   rw[<-x j ()];by_cases q:j=p
   ·rw[q];apply z
   ·rw[t.wQ j (),Fb ()]) p ()
  rw[t.on (aZ p)] at this;apply O this
 -- Dl s rows
 let s:∀i,i<m->i≠p->∃b:Nat->Int,(∀k,k<m->p+1<=k->k≠i->b k=0)/\(p+1<=i->b i=E p p)/\(∀l,l<p+1->BQ m (λk=>b k*A k l)=if i=l then E p p else 0)/\∀j,j<=m->E p p*E i j-E i p*E p j=d*BQ m (λk=>b k*X k j):=by
  ext i D o
  obtain⟨b,KC,F,L⟩:∃b:Nat->Int,(∀k,k<m->p+1<=k->k≠i->b k=0)/\(p+1<=i->b i=E p p)/\(∀l,l<p+1->BQ m (λk=>b k*A k l)=if i=l then E p p else 0):=by
   let Z:∀j l,j<p+1->l<p+1->BQ (p+1) (λk=>Gb (p+1) A k j*A k l)=if l=j then E p p else 0:=λj l g y=>by
    rw[Y,<-Zfn y g];apply Zp λk f=>by rw[ok.sym l k () (),gJ]
   by_cases q:i<p
   ·obtain⟨b,B⟩:∃b:Nat->Int,∀k,b k=if k<p+1 then Gb (p+1) A k i else 0:=⟨_,λ_=>rfl⟩
    show⟨b,λk f w _=>by rw[B,Fb ()],λh=>(),λl y=>?_⟩;rw[R1 (q:=p+1) () λk w v=>by rw[B,Fb (),i6]];rw[Zp λk f=>by rw[B,Be f],Z i l () y];by_cases e:i=l
    ·rw[Be e,Be e.symm]
    ·rw[Fb e,Fb (λz=>e z.symm)]
   ·obtain⟨b,B⟩:∃b:Nat->Int,∀k,b k=if k<p+1 then-BQ (p+1) (λj=>A i j*Gb (p+1) A k j) else if k=i then E p p else 0:=⟨_,λ_=>rfl⟩
    let J:b i=E p p:=by rw[B,Fb (),Be rfl]
    show⟨b,λk f w v=>by rw[B,Fb (),Fb v],λh=>J,λl y=>?_⟩;rw[UP (q:=p+1) () D λk w v P=>by rw[B,Fb (),Fb P,i6]];rw[J]
    let Q:BQ (p+1) (λk=>b k*A k l)=BQ (p+1) (λk=>(-1)*BQ (p+1) (λj=>A i j*(Gb (p+1) A k j*A k l))):=Zp λk f=>by
     rw[B,Be f,iP,gJ _ (A k l),<-YB,iP,pR];congr 1;apply Zp λj _=>by rw[gJ (A k l),gY]
    rw[Q,YB,Wk];let e2:(BQ (p+1) λj=>BQ (p+1) λk=>A i j*(Gb (p+1) A k j*A k l))=A i l*E p p:=by rw[Zp λj g=>by rw[YB,Z j l g y]];rw[Z1 y λj _ N=>by rw[Fb (λz=>N z.symm),jZ],Be rfl]
    rw[e2,gJ (E p p)];lia
  show⟨b,KC,F,L,?_⟩;let⟨C,G⟩:=I.row i D
  let hw:∀k,k<m->E p p*C k-E i p*u k-d*b k=0:=by
   let H:∀k,k<m->p+1<=k->E p p*C k-E i p*u k-d*b k=0:=λk f w=>by
    let W:=t.off k f () ();by_cases q:k=i
    ·subst q;rw[G.on (),W,F w,gJ d];lia
    ·rw[G.off k f () q,W,KC k f w q];lia
   ext k f;by_cases q:k<p+1
   ·show ok.inj (p+1) () (λk=>E p p*C k-E i p*u k-d*b k) (λl y=>?_) k q;rw[<-R1 (m:=m) () λk w v=>by rw[H k v w,i6]]
    let Q:BQ m (λk=>(E p p*C k-E i p*u k-d*b k)*A k l)=E p p*BQ m (λk=>C k*A k l)+((- E i p)*BQ m (λk=>u k*A k l)+(- d)*BQ m (λk=>b k*A k l)):=by
     rw[<-YB,<-YB,<-YB,<-Xm,<-Xm]
     apply Zp λk _=>by
      rw[Int.sub_mul,Int.sub_mul];dsimp[gY,iP]
      lia
    let T:∀a:Nat->Int,BQ m (λk=>a k*X k l)=BQ m (λk=>a k*A k l):=λa=>Zp λk f=>by rw[ok.ext k l f ()]
    rw[Q,L l y,<-T,<-T,<-G.val l (),<-t.val l ()];by_cases Bx:l=p
    ·subst Bx;rw[Fb o,gJ (E l l),iP];lia
    ·rw[G.wQ l (),t.wQ l (),Fb (show ¬p=l by lia)];by_cases M:i=l
     ·rw[Be M,Be M,iP d,gJ d];lia
     ·rw[Fb M,Fb M];lia
   ·apply H k f ()
  ext j g;rw[G.val j g,t.val j g,<-YB,<-YB,<-YB]
  have:BQ m (λk=>E p p*(C k*X k j))=BQ m (λk=>d*(b k*X k j))+BQ m (λk=>E i p*(u k*X k j)):=by
   rw[<-Xm];show Zp λk f=>?_;let:=hw k f;rw[<-gY,<-gY,<-gY,<-me];congr 1
   lia
  lia
 show⟨⟨Y,pz,λi D=>?_⟩,λi j D g o=>?_⟩
 ·by_cases o:i=p
  ·subst o;show⟨u,λk f w v=>t.off k f () v,λh=>(),λj g=>by rw[Be rfl];apply t.val j g,λj g=>?_⟩;rw[Be rfl];by_cases q:i=j
   ·subst q;rw[Be rfl]
   ·rw[Fb q,t.wQ j (),Fb q]
  ·let⟨b,KC,F,L,R⟩:=s i D o;let U:∀j,j<=m->(E p p*E i j-E i p*E p j).fdiv d=BQ m (λk=>b k*X k j):=λj g=>by rw[R j g,nI _ O]
   show⟨b,KC,F,λj g=>by rw[Fb o];apply U j g,λj g=>?_⟩;rw[Fb o,U j (),<-L j g];apply Zp λk f=>by rw[ok.ext k j f ()]
 ·let⟨b,KC,F,L,R⟩:=s i D o;apply⟨_,R j g⟩
def To(ok:xR m A X):∀{p:Nat},p<=m->z9 m A X p (FU m X p).1 (FU m X p).2
 | 0,_=>⟨rfl,(show(1:Int)≠0 by decide),λi c=>⟨λk=>if k=i then 1 else 0,λk _ _ h=>Fb h,λ_=>Be rfl,λj a=>by rw[Z1 (k:=i) c λk _ b=>by rw[Fb b,i6],Be rfl,pR];rfl,λj a=>()⟩⟩
 | p+1,h=>(OV ok () (To ok (p:=p) ())).1
open _l _v
def WX{z:Int}(h:z.natAbs<2^1000):z.natAbs.log2<1000:=by
 by_cases a:z.natAbs=0
 ·rw[a];decide +kernel
 ·apply(Nat.log2_lt a).mpr h
def V0(h:a.natAbs<2^1000)(h':b.natAbs<2^1000):Ep a b:=⟨by let:=WX h;lia,by let:=WX h';lia⟩
def Zfw(c:b≠0)(h:b.natAbs<2^1000):Jq a b:=⟨c,by let:=WX h;lia⟩
def Mb:Nat->Nat
 | 0=>2^7
 | p+1=>2*Mb p*Mb p
def Nb:Nat->Nat
 | 0=>2^208
 | p+1=>2*Mb p*Nb p
def Zos(h:p<=6):Mb p<2^1000:=by
 have:p=0\/p=1\/p=2\/p=3\/p=4\/p=5\/p=6:=()
 rcases this with rfl | rfl | rfl | rfl | rfl | rfl | rfl<;>decide +kernel
def Zot(h:p<=6):Nb p<2^1000:=by
 have:p=0\/p=1\/p=2\/p=3\/p=4\/p=5\/p=6:=()
 rcases this with rfl | rfl | rfl | rfl | rfl | rfl | rfl<;>decide +kernel
def VV{a b c d:Int}{M N:Nat}(f:a.natAbs<=M)(h:b.natAbs<=N)(g:c.natAbs<=M)(e:d.natAbs<=N):(a*b-c*d).natAbs<=2*M*N:=by
 let k:(a*b).natAbs<=M*N:=by rw[pS];apply mS f h
 let i:(c*d).natAbs<=M*N:=by rw[pS];apply mS g e
 let j:2*M*N=M*N+M*N:=by rw[Nat.mul_assoc];lia
 lia
def P4{x d q:Int}(a:d≠0)(e:x=d*q):(x.fdiv d).natAbs<=x.natAbs:=by
 rw[e,nI _ a,pS];have:1<=d.natAbs:=()
 calc q.natAbs=1*q.natAbs:=()
  _<=d.natAbs*q.natAbs:=lQ _ this
def Zfx(p:Nat):Mb p<=Mb (p+1):=by
 let h:∀p,1<=Mb p:=λp=>by
  induction p with
  | zero=>decide
  | succ p E2=>apply mS (show 1<=2*Mb p by lia) E2
 calc Mb p=1*Mb p:=()
  _<=2*Mb p*Mb p:=lQ _ (by let:=h p;lia)
def Zfy(p:Nat):Nb p<=Nb (p+1):=by
 let h:∀p,1<=Mb p:=λp=>by
  induction p with
  | zero=>decide
  | succ p E2=>apply mS (show 1<=2*Mb p by lia) E2
 calc Nb p=1*Nb p:=()
  _<=2*Mb p*Nb p:=lQ _ (by let:=h p;lia)
def gT{A X:Mt}(ok:xR m A X)(g:∀i j,i<m->j<m->(X i j).natAbs<=2^7)(h:∀i,i<m->(X i m).natAbs<=2^208):∀{p:Nat},p<=m->(∀i j,i<m->j<m->((FU m X p).1 i j).natAbs<=Mb p)/\∀i,i<m->((FU m X p).1 i m).natAbs<=Nb p
 | 0,_=>⟨g,h⟩
 | p+1,hp=>by
  let⟨KC,d⟩:=gT ok g h (p:=p) ();let I:=To ok (p:=p) ();let f:=(OV ok () I).2;show⟨λi j a c=>?_,λi a=>?_⟩
  ·change(if i=p then(FU m X p).1 i j else _).natAbs<=_;split
   ·apply cA (KC i j a c) (Zfx p)
   ·rename_i b;let⟨q,e⟩:=f i j a () b;apply cA (P4 I.nz e) (VV (KC p p () ()) (KC i j a c) (KC i p a ()) (KC p j () c))
  ·change(if i=p then(FU m X p).1 i m else _).natAbs<=_;split
   ·apply cA (d i a) (Zfy p)
   ·rename_i b;let⟨q,e⟩:=f i m a () b;apply cA (P4 I.nz e) (VV (KC p p () ()) (d i a) (KC i p a ()) (d p ()))
def FJ(w:Nat)(f:Fp):List Int:=(aQ w).map f
def OW(w:Nat)(f:Fp):(FJ w f).length=w:=by simp[FJ]
def Zj(h:j<w):BR (FJ w f) j=f j:=TF h
def XQ(g:Fp)(d:fi s=aA ((aQ w).map q))(e:w<=100)(h:∀j,j<w->∃s1,NQ T (q j) (F3 n Bm s)=aA s1/\fe s1=aA (.int (g j))):HC n Bm fi T Ac fe s=aA (.lst (iL (FJ w g))):=by
 rw[Z2 (aQ w) q (λj=>.int (g j)) d (by rw[b8];lia) λj c=>by
  let⟨s1,a,b⟩:=h j (av.mp c);apply⟨s1,a,rfl,b⟩]
 simp[FJ]
def RB(h:j<w):HG (iL (FJ w f)) (j:Int)=aA (.int (f j)):=by rw[Xy (by rw[OW];apply h),Zj h]
def ih(l:w<=100)(hp:p<w)(h:∀j,j<w->(f j).natAbs<2^1000)(e:∀j,j<w->(g j).natAbs<2^1000)(k:d≠0)(b:d.natAbs<2^1000) :
  GG [pP (FJ w f),pP (FJ w g),.int (p:Int),.int d]=aA (pP (FJ w λj=>(g p*f j-f p*g j).fdiv d)):=by
 show Yu (ret (uJ (c1 (XQ (q:=λj=>.tup [.int (f j),.int (g j)]) (λj=>(g p*f j-f p*g j).fdiv d) ?_ l λj c=>⟨_,rfl,?_⟩) rfl)))
 ·change aA (Lo (iL (FJ w f)) (iL (FJ w g)))=_;rw[lR _ _ (by simp[OW]),aK,OW];congr 1;show az λi a=>?_;let a:=av.mp a;rw[QQ _ i (by rw[OW];apply a),QQ _ i (by rw[OW];apply a),Zj a,Zj a]
 ·apply vC (vI (vC (o2 rfl rfl (RB hp)) rfl (V0 (e p hp) (h j c))) (vC (o2 rfl rfl (RB hp)) rfl (V0 (h p hp) (e j c)))) rfl (Zfw k b)
def KO(m w:Nat)(E:Mt):List (List Int):=(aQ m).map λi=>FJ w (E i)
def Zfz(m w:Nat)(E:Mt):(KO m w E).length=m:=by simp[KO]
def HN(M:Iz):List PV:=M.map pP
def Zb2(m w:Nat)(E:Mt):HN (KO m w E)=(aQ m).map λi=>pP (FJ w (E i)):=by delta HN KO;rw[bR];rfl
def eC(m w:Nat)(E:Mt):(HN (KO m w E)).length=m:=by simp[HN,Zfz]
def Zb3(h:i<m):(HN (KO m w E))[i]?=aA (pP (FJ w (E i))):=by rw[Zb2,af,fm h];rfl
def Oi(M:Iz):BW (HN M)=aD:=Uo M
def Xj(E:Mt)(d:fi s=aA ((aQ m).map q))(e:m<=100)(h:∀j,j<m->∃s1,NQ T (q j) (F3 n Bm s)=aA s1/\fe s1=aA (pP (FJ w (E j)))):HC n Bm fi T Ac fe s=aA (.lst (HN (KO m w E))):=by
 rw[Z2 (aQ m) q (λj=>pP (FJ w (E j))) d (by rw[b8];lia) λj c=>by
  let⟨s1,a,b⟩:=h j (av.mp c);apply⟨s1,a,rfl,b⟩,Zb2]
def w'(x:m<=6)(y:m<=w)(t:w<=m+1)(ok:xR m A X)(r:∀i j,i<m->j<m->(X i j).natAbs<=2^7)(u:∀i,i<m->(X i m).natAbs<=2^208)(n:R = .lst (HN (KO m w X))\/R = .tup (HN (KO m w X))) :
  LP [R]=aA (.tup [.int (FU m X m).2,.lst (HN (KO m w (FU m X m).1))]):=by
 let g:∀{p:Nat},p<=m->∀i j,i<m->j<m+1->((FU m X p).1 i j).natAbs<2^1000:=λ{p} hp i j a d=>by
  let⟨KC,l⟩:=gT ok r u hp;by_cases q:j<m
  ·apply g6 (KC i j a q) (Zos ())
  ·rw[show j=m by lia];apply g6 (l i a) (Zot ())
 let o:∀{p:Nat},p<=m->(FU m X p).2.natAbs<2^1000:=λ{p} hp=>by
  cases p with
  | zero=>show(1:Int).natAbs<_;decide +kernel
  | succ p=>apply g () p p () ()
 let' st:=λp b c=>[aA R,aA (.lst (HN (KO m w (FU m X p).1))),aA (.int (FU m X p).2),b,c]
 let f:Cg [R]=aA (.lst (HN (KO m w X)))/\M5 [R]=aA (.int (m:Int)):=by
  rcases n with rfl | rfl
  ·apply⟨by rw[uP,Be (Oi _)],by change aA (PV.int ((HN (KO m w X)).length:Int))=_;rw[eC]⟩
  ·apply⟨by rw[uv,Be (Oi _)],by change aA (PV.int ((HN (KO m w X)).length:Int))=_;rw[eC]⟩
 suffices h:B5 Jr (Lg 5 [R]) λv=>v = .tup [.int (FU m X m).2,.lst (HN (KO m w (FU m X m).1))] by let⟨v,e,rfl⟩:=gi h;apply e
 show ZD (Zl (c1 rfl f.1)) (ZD (Zl (vP rfl)) (Wl (Qm (λp s=>∃b c,s=st p b c) (c1 rfl f.2) ⟨aB,aB,rfl⟩ ?_) ?_))
 ·ext p s hp ⟨b,c,rfl⟩;let I:=To ok (p:=p) ();let k:=λi j a d=>g (p:=p) () i j a d;show Yr (Zl (uJ (o2 rfl rfl (WA (Zb3 hp))))) (Yr (Zl (Xj (FU m X (p+1)).1 (q:=λi=>.tup [.int (i:Int),pP (FJ w ((FU m X p).1 i))]) ?_ () λi a=>⟨_,rfl,uJ ?_⟩)) (nT (Zl (vP (o2 rfl rfl (RB ())))) ⟨_,_,rfl⟩))
  ·change aA (K7 (HN (KO m w (FU m X p).1)))=_;rw[XJ,eC];congr 1;show az λi a=>?_;rw[aP,Zb3 (av.mp a)];rfl
  ·by_cases q:i=p
   ·apply Y1 (xb ((kV rfl rfl).trans (by rw[decide_eq_true ()]))) (by rw[show(FU m X (p+1)).1 i=(FU m X p).1 i from funext λj=>Be q];rfl)
   ·show Ut (xb ((kV rfl rfl).trans (by rw[decide_eq_false ()]))) ?_;rw[show(FU m X (p+1)).1 i=_ from funext λj=>Fb q];apply c4 rfl rfl rfl rfl (ih () () (λj d=>k i j a ()) (λj d=>k p j hp ()) I.nz (o ()))
 ·ext s ⟨b,c,rfl⟩;apply⟨_,rfl,rfl⟩
def B0(b i:Nat):Nat:=if i<b then i else i+1
noncomputable def idx(b h:Nat):Nat:=if h<b then h else h-1
def Zj8(b i:Nat):B0 b i≠b:=by delta B0;split<;>lia
def U0(h:i<m):B0 b i<m+1:=by delta B0;split<;>lia
def Zf0(b i:Nat):idx b (B0 b i)=i:=by delta idx B0;split<;>(try split)<;>lia
def Zf1(q:h≠b):B0 b (idx b h)=h:=by delta idx B0;split<;>(try split)<;>lia
def XB(c:n<=7)(a:b<n):(aQ n).filter (λh=>!decide (h=b))=(aQ (n-1)).map (B0 b):=by
 have:∀n,n<8->∀b,b<8->b<n->(aQ n).filter (λh=>!decide (h=b))=(aQ (n-1)).map (B0 b):=∅
 apply this n () b () a
def Zb4(a:f b=0):∀{m:Nat},b<m+1->BQ (m+1) f=BQ m (λi=>f (B0 b i))
 | 0,h=>by
  have:b=0:=()
  subst this;change 0+f 0=0;rw[a];rfl
 | m+1,h=>by
  by_cases q:b=m+1
  ·subst q;change BQ (m+1) f+f (m+1)=_;rw[a,mE];apply Zp λi c=>by delta B0;rw[Be c]
  ·change BQ (m+1) f+f (m+1)=BQ m (λi=>f (B0 b i))+f (B0 b m);rw[Zb4 a (m:=m) (),show B0 b m=m+1 by delta B0;rw[Fb ()]]
def Qs:∀{n:Nat},(∀i,i<n->0<=f i)->BQ n f<=0->∀i,i<n->f i=0
 | 0,_,_,i,h=>()
 | n+1,h,s,i,a=>by
  let s:BQ n f+f n<=0:=s
  let c:0<=BQ n f:=by
   have:∀k,k<=n->0<=BQ k f:=by
    ext k
    induction k with
    | zero=>ext _;apply fM 0
    | succ k E2=>ext d;let:=E2 ();let:=h k ();change 0<=BQ k f+f k;lia
   apply this n (aZ n)
  let b:=h n ();by_cases q:i=n
  ·subst q;lia
  ·apply Qs (n:=n) (λi a=>h i ()) () i ()
def UG(Y:Fp):∀{n:Nat},0<n->∃h,h<n/\∀g,g<n->Y h<=Y g
 | 0,h=>()
 | 1,_=>⟨0,(),λg a=>by rw[show g=0 by lia];apply fM _⟩
 | n+2,_=>by
  let⟨h,c,b⟩:=UG Y (n:=n+1) ();by_cases q:Y h<=Y (n+1)
  ·apply⟨h,(),λg a=>by
    by_cases e:g=n+1
    ·rw[e];apply q
    ·apply b g ()⟩
  ·apply⟨n+1,(),λg a=>by
    by_cases e:g=n+1
    ·rw[e];apply fM _
    ·let:=b g ();lia⟩
def Jk(W:Iz)(Y:Fp)(h:Nat):Int:=BQ (la W) (λg=>DD W h g*(Y g-Y h))
def Zmw(ok:Zu W)(r:Iy W)(q:b<W.length)(i:∀h,h<W.length->h≠b->Y h<Y b->Jk W Y h<=0):∀h,h<W.length->Y b<=Y h:=by
 ext h p;show Int.not_lt.mp λm=>?_;let⟨f,l,j⟩:=UG Y (n:=W.length) ();let o:Y f<Y b:=by let:=j h p;lia
 let step:∀a c,a<W.length->c<W.length->0<DD W a c->Y a=Y f->Y c=Y f:=λa c d e hp ea=>by
  let s:=i a d (λz=>by rw[z] at ea;lia) ();let t:=Qs (λg k=>sr (ok.lo a g d k) (by let:=j g k;lia)) s c e
  have:Y c-Y a=0:=by
   rcases Int.mul_eq_zero.mp t with z | z
   ·lia
   ·apply z
  lia
 let:=(r (λx=>Y x=Y f) (λa c d e hp=>⟨step a c d e hp,step c a e d (by rw[ok.sym c a e d];apply hp)⟩) f b l q).mp rfl
 lia
def Zj9(c:Int)(Y:Fp)(h:Nat):Jk W (λx=>c*Y x) h=c*Jk W Y h:=by
 delta Jk;rw[<-YB];apply Zp λg _=>by rw[<-Int.mul_sub,kZ]
def KQ(W:Iz)(b:Nat):Mt:=λi j=>if B0 b j=B0 b i then(FK W (B0 b i)).sum else-DD W (B0 b i) (B0 b j)
def IX(W:Iz)(b:Nat)(c:Fp):Mt:=λi j=>if j<la W-1 then KQ W b i j else c (B0 b i)
def Zka(ok:Zu W)(t:b<W.length)(l:Y b=0)(e:k<W.length-1):Jk W Y (B0 b k) = - BQ (W.length-1) (λi=>KQ W b k i*Y (B0 b i)):=by
 obtain⟨m,c⟩:∃m,W.length=m+1:=⟨W.length-1,()⟩;let d:W.length-1=m:=()
 rw[d] at e ⊢;generalize f:B0 b k=h;let a:h<W.length:=by rw[c,<-f];apply U0 e
 let n:BQ m (λi=>KQ W b k i*Y (B0 b i))=BQ (m+1) (λg=>(if g=h then(FK W h).sum else-DD W h g)*Y g):=by
  rw[Zb4 (by rw[l,jZ]) ()];apply Zp λi _=>by delta KQ;rw[f]
 let j:BQ (m+1) (λg=>(if g=h then(FK W h).sum else-DD W h g)*Y g)=(-1)*BQ (m+1) (λg=>DD W h g*Y g)+(FK W h).sum*Y h:=by
  have:BQ (m+1) (λg=>if g=h then(FK W h).sum*Y h else 0)=(FK W h).sum*Y h:=by rw[Z1 () λi _ r=>Fb r,Be rfl]
  rw[<-this,<-YB,<-Xm];show Zp λg s=>?_;by_cases q:g=h
  ·subst q;rw[Be rfl,ok.xC g a];lia
  ·rw[Fb q,iP];lia
 let o:(FK W h).sum=BQ (m+1) (λg=>DD W h g):=by rw[eh ok a,S4,c]
 let p:Jk W Y h=BQ (m+1) (λg=>DD W h g*Y g)+(- Y h)*BQ (m+1) (λg=>DD W h g):=by
  delta Jk;rw[c,<-YB,<-Xm];apply Zp λg _=>by rw[Int.mul_sub,gJ (- Y h),Int.mul_neg];lia
 rw[p,n,j,o,gJ (BQ (m+1) λg=>DD W h g) (Y h),iP];lia
def Zkb(ok:Zu W)(D:Iy W)(A:b<W.length)(c:Fp):xR (W.length-1) (KQ W b) (IX W b c):=by
 let hp:=ok.pos;obtain⟨m,r⟩:∃m,W.length=m+1:=⟨W.length-1,()⟩;let a:W.length-1=m:=()
 let l:∀i j,i<m->j<m->KQ W b i j=KQ W b j i:=λi j t g=>by
  delta KQ;by_cases q:B0 b j=B0 b i
  ·rw[Be q,Be q.symm,q]
  ·rw[Fb q,Fb (λz=>q z.symm),ok.sym _ _ (by rw[r];apply U0 t) (by rw[r];apply U0 g)]
 rw[a];show⟨l,λp w z F k v=>?_,λi j t g=>by delta IX;rw[a,Be g]⟩;obtain⟨Z,y⟩:∃Z:Nat->Int,∀h,Z h=if h=b then 0 else if idx b h<p then z (idx b h) else 0:=⟨_,λ_=>rfl⟩
 let f:Z b=0:=by rw[y,Be rfl]
 let u:∀i,Z (B0 b i)=if i<p then z i else 0:=λi=>by rw[y,Fb (Zj8 b i),Zf0]
 let n:∀j,j<p->Jk W Z (B0 b j)=0:=λj g=>by
  rw[Zka ok A f (),a]
  let e:BQ m (λi=>KQ W b j i*Z (B0 b i))=BQ p (λk=>z k*KQ W b k j):=by
   rw[R1 (q:=p) w λk C B=>by rw[u,Fb (),jZ]];apply Zp λk v=>by rw[u,Be v,l j k () (),gJ]
  rw[e,F j g];rfl
 let off:∀h,h<W.length->Z h≠0->Jk W Z h=0:=λh s ne=>by
  let o:h≠b:=λz=>ne (by rw[z];apply f);let t:idx b h<p:=by show Nat.not_le.mp λq=>ne ?_;rw[y,Fb o,Fb ()]
  let:=n _ t;rw[Zf1 o] at this;apply this
 let up:=Zmw ok D (Y:=Z) A (λh s _ d=>by rw[off h s (by rw[f] at d;lia)];apply fM _)
 let E:=Zmw ok D (Y:=λx=>(-1)*Z x) A (λh s _ d=>by
  dsimp[f] at d;rw[Zj9,off h s ()];decide)
 let C:=up (B0 b k) (by rw[r];apply U0 ());let B:=E (B0 b k) (by rw[r];apply U0 ());dsimp[f,u,Be v] at C B
 lia
def tc(ok:Zu W)(a:h<W.length)(d:m<=6)(c:∀i,i<m->f i<W.length) :
  EG [wP W,.int (h:Int),.lst (iL (Hr ((aQ m).map f)))]=aA (pP (FJ m λj=>if f j=h then(FK W h).sum else-DD W h (f j))):=by
 show Yu (ret (uJ (c1 (XQ (q:=λj=>.int ((f j:Nat):Int)) _ (by change aA (iL (Hr ((aQ m).map f)))=_;simp[Hr]) () λj b=>⟨_,rfl,?_⟩) rfl)));by_cases q:f j=h
 ·rw[Be q];apply Y1 (xb ((kV rfl rfl).trans (by rw[decide_eq_true ()]))) (c2 rfl rfl (hZ a))
 ·rw[Fb q];apply Ut (xb ((kV rfl rfl).trans (by rw[decide_eq_false ()]))) (vB (o2 (o2 rfl rfl (QP a)) rfl (Xy (by rw[ok.sq h a];apply c j b))) rfl)
def S9(ok:Zu W)(j:b<W.length) :
  Np [wP W,.int (b:Int)]=aA (wP (KO (W.length-1) (W.length-1) (KQ W b))):=by
 let hp:=ok.pos;let k:=ok.lF;obtain⟨m,e⟩:∃m,W.length=m+1:=⟨W.length-1,()⟩;let a:W.length-1=m:=()
 rw[a];let d:∀i,i<m->B0 b i<W.length:=λi c=>by rw[e];apply U0 c
 let g:HC 1 [1] (Ai [BO M5 [Dz 0]]) (.one 0) (xB (DA (KD aD) (Dz 0) (Dz 1))) (FG (Dz 0)) [aA (wP W),aA (.int (b:Int)),aB]=aA (.lst (iL (Hr ((aQ m).map (B0 b))))):=by
  rw[X7 (aQ W.length) (λ(i:Nat)=>.int (i:Int)) (λ(i:Nat)=>.int (i:Int)) (λh=>!decide (h=b)) (Ta (n:=W.length) ⋯ ()) (by simp;lia) λy o=>⟨[aA (.int (y:Int)),aA (.int (b:Int))],rfl,?_,λ_=>⋯⟩]
  ·rw[XB k j,a];simp[Hr]
  ·by_cases q:y=b
   ·simp[q]
   ·let l:¬(y:Int)=(b:Int):=()
    simp[q,l]
 apply Yu (sq (Zl g) (ret (ep (c1 (Xj (w:=m) (KQ W b) (q:=λi=>.int ((B0 b i:Nat):Int)) (by change aA (iL (Hr ((aQ m).map (B0 b))))=_;simp[Hr]) () λi c=>⟨_,rfl,c3 rfl rfl rfl (tc (f:=B0 b) ok (d i c) () d)⟩) rfl) (Uo _))))
def VU:∀{n:Nat},(∀i,i<n->0<=f i/\f i<=9)->0<=BQ n f/\BQ n f<=9*n
 | 0,_=>⟨fM _,by change(0:Int)<=_;lia⟩
 | n+1,h=>by
  let⟨a,b⟩:=VU (n:=n) λi c=>h i ();let:=h n ();show⟨?_,?_⟩
  ·change 0<=BQ n f+f n;lia
  ·change BQ n f+f n<=_;lia
def R2(ok:Zu W)(h:i<W.length-1)(d:j<W.length-1):(IX W b c i j).natAbs<=2^7:=by
 let hp:=ok.pos;let k:=ok.lF;let e:B0 b i<W.length:=by let:=U0 (b:=b) h;lia
 let g:B0 b j<W.length:=by let:=U0 (b:=b) d;lia
 delta IX KQ;rw[Be d];split
 ·rw[eh ok e,S4];let⟨a,b⟩:=VU (f:=λj=>DD W (B0 b i) j) (n:=W.length) λj d=>⟨ok.lo _ j e d,ok.E5 _ j e d⟩
  lia
 ·let:=ok.lo _ _ e g;let:=ok.E5 _ _ e g
  lia
structure i_(W:Iz)(b:Nat)(N:E1)(F:Iw):Prop where
 free:∀h,h<la W->h≠b->0<=BR N h
 ny:f_ W N b F
 stop:Lf W N F=aB
 all:∀h,h<la W->h∈F
def gIx_p(h:l.length=n):∀k:Nat,k<n->Hu (pP l) (.int (k:Int))=aA (.int (BR l k)):=λk a=>Xy ()
def Zmx(h:l.length=n):∀k:Nat,k<n->Hu (.lst (iL l)) (.int (k:Int))=aA (.int (BR l k)):=λk a=>Xy ()
def Zg9(l:List α)(f:α->Int):iL (l.map f)=l.map λg=>.int (f g):=bR
open _e
noncomputable def eW(W:Iz):List Zm:=NZ (la W) (DD W)
def CN(W:Iz)(a b:Nat):List Zm:=ak (DD W a b).toNat (a,b)
def CP(W:Iz)(a:Nat):List Zm:=(aQ (la W-(a+1))).flatMap λj=>CN W a (a+1+j)
def Vk(W:Iz):eW W=(aQ (la W)).flatMap (CP W):=by delta eW NZ Bo;rw[List.flatMap_assoc];congr 1;funext a;rw[List.flatMap_map];rfl
def Sb(W:Iz):la (eW W)=(Lb W).length:=by rw[Vk];delta Lb;rw[iD,iD];congr 1;show az λa _=>?_;delta CP Nl;rw[iD,iD];congr 1;show az λj _=>?_;delta CN Jj;simp
def rU:∀e∈eW W,e.1<e.2/\e.2<W.length/\0<DD W e.1 e.2:=λe b=>by delta eW NZ at b;let⟨p,hp,c⟩:=gE.mp b;let a:=qX.mp c;let⟨d,rfl⟩:=a;let:=i5.mp (show(e.1,e.2)∈Bo W.length from hp);apply⟨(),(),()⟩
def Nx(n:Nat)(m:Fh):List Int:=(aQ n).map λx=>((m x:Nat):Int)
def ZY(n:Nat)(m:Fh):(Nx n m).length=n:=by simp[Nx]
def YM{n:Nat}{m:Fh}{x:Nat}(h:x<n):BR (Nx n m) x=(m x:Int):=TF h
def gF{F:Iw}(h:la F<64):CJ [.lst (iL (Hr F))]=aA (.lst (iL (sortI (Hr F)))):=by change(F2 (iL (Hr F))).bind (λns=>if ns.length<64 then aA (PV.lst (iL (sortI ns))) else aB)=_;rw[Yl];rw[aY,Be (by simpa [Hr] using h)]
section
variable {W:Iz}{c:Int}
def Zha{n:Nat}{m:Fh}{z:Nat}(a:z<n):Hu (.lst (iL (Nx n m))) (.int (z:Int))=aA (.int (m z:Int)):=by rw[Zmx (ZY n m) z a,YM a]
def Zf2{k:Nat}(a:k<=10000):LJ (.int (k:Int))=aA (.lst (iL (Hr (aQ k)))):=by change(if 0<=(k:Int)/\(k:Int)<=10000 then aA (PV.lst (iL ((aQ (k:Int).toNat).map λ(i:Nat)=>(i:Int)))) else aB)=_;rw[Be ⟨(),()⟩];rfl
end
def Zhb(b:Bool)(a:Int)(l:E1):Nf b (.int a) (pP l)=aA (.Iv (if b then !decide (a∈l) else decide (a∈l))):=by
 delta Nf;let c:((iL l).all λz=>K0 8 z (.int a))=aD:=by rw[mC,bK];ext x _;rfl
 change(aA (iL l)).bind _=_;dsimp[aY,Be c]
 have:decide (PV.int a∈iL l)=decide (a∈l):=decide_eq_decide.mpr (by
  rw[a9];constructor
  ·ext⟨x,d,e⟩;cases e;apply d
  ·ext h;apply⟨a,h,rfl⟩)
 rw[this]
def OX{W:Iz}{i:Nat}(k:i<la (eW W)):∃t:Int,(Lb W)[i]?=aA [((M0 (eW W) i).1:Int),((M0 (eW W) i).2:Int),t]:=by
 let f:(Lb W).map (λr=>((BR r 0).toNat,(BR r 1).toNat))=eW W:=by rw[Vk];delta Lb;rw[r0];congr 1;funext a;delta Nl CP;rw[r0];congr 1;funext j;delta Jj CN;apply gC ⋯ (by intros;simp[BR];lia)
 let c:∀r∈Lb W,∃(a b:Nat) (t:Int),r=[(a:Int),(b:Int),t]:=λr d=>by let⟨a,_,d⟩:=gE.mp d;let⟨j,_,d⟩:=gE.mp d;let⟨t,_,rfl⟩:=a9.mp d;apply⟨a,a+1+j,t,rfl⟩
 let h:i<(Lb W).length:=by rw[<-Sb];apply k
 let⟨a,b,t,e⟩:=c _ (cI h);show⟨t,?_⟩;let m:M0 (eW W) i=(a,b):=by let g:=congrArg (λl=>l[i]?) f;dsimp[af] at g;rw[aI h,aI k,e] at g;delta M0;rw[aP,aI k];rw[<-g];rfl
 rw[aI h,e,m]
def Fx(W:Iz)(K:Iw):Nat->Nat:=B9 (λx=>x) ((K.map (M0 (eW W))).map Bq)
def Zb5(W:Iz)(K:Iw)(k:Nat):Fx W (K++[k])=ND (Fx W K) (M0 (eW W) k).2 (M0 (eW W) k).1:=by delta Fx;rw[bO,bO,xF];rfl
def Xe{W:Iz}(ok:Zu W){K:Iw}(p:∀k∈K,k<la (eW W)):Ct [wP W,.lst ((Lb W).map pP),pP (Hr K)]=aA (.lst (iL (Nx (la W) (Fx W K)))):=by
 let v:=ok.lF;show Uj (ZD (Zl (vB (c1 rfl Qn) (Zf2 ()))) (Wl (Zml (λi s=>∃f h g c,s=[aA (wP W),aA (.lst ((Lb W).map pP)),aA (pP (Hr K)),aA (.lst (iL (Nx (la W) (Fx W (K.take i))))),f,h,g,c]) rfl ⟨aB,aB,aB,aB,rfl⟩ ?_) ?_))
 ·ext i s n ⟨f,h,g,c,rfl⟩;let d:=p _ (cI n);let⟨t,o⟩:=OX d;let j:=Zb5 W (K.take i) K[i];rw[<-fY n] at j
  let r:(M0 (eW W) K[i]).1<(M0 (eW W) K[i]).2/\(M0 (eW W) K[i]).2<la W:=by
   let:=rU (M0 (eW W) K[i]) (by
    delta M0;rw[aP,aI d];apply cI d)
   apply⟨this.1,this.2.1⟩
  generalize M0 (eW W) K[i]=e at *;let⟨a,b⟩:=e;generalize Fx W (K.take i)=m at *;show Yr (Zl (uJ (l:=[(a:Int),(b:Int),t]) (o2 rfl rfl (WA (by rw[af,o];rfl))))) (Yr (Zl (ep (o2 rfl (o2 rfl rfl rfl) (Zha ())))) (Yr (Zl (ep (o2 rfl (o2 rfl rfl rfl) (Zha r.2)))) (nT (Zl ((Z2 (aQ (la W)) (λx=>.int (m x:Int)) (λx=>.int (ND m b a x:Int)) ?_ (by rw[b8];lia) λx u=>⟨_,rfl,rfl,ep ?_⟩).trans ?_)) ⟨_,_,_,_,by rw[j];rfl⟩)))
  ·change aA (iL (Nx (la W) m))=_;rw[Nx,Zg9]
  ·delta ND;by_cases q:m x=m b
   ·rw[Be q];apply Y1 (xb ((kV rfl rfl).trans (by rw[decide_eq_true ()]))) rfl
   ·rw[Fb q];apply Ut (xb ((kV rfl rfl).trans (by rw[decide_eq_false ()]))) rfl
  ·rw[Nx,Zg9]
 ·ext s ⟨f,h,g,c,rfl⟩;rw[dQ];apply⟨_,rfl,rfl⟩
def Fy(K:Iw):List Int:=(Hr K).foldl KW []
def CB(W:Iz)(K:Iw):Nat:=((Nx (la W) (Fx W K)).foldl gO []).length
def Zkc{K:Iw}(a:∀k∈K,k<=31)(d:la K<=17):_a.CO (pP (Hr K))=aA (.lst (iL (sortI (Fy K)))):=by
 change(F2 (iL (Hr K))).bind (λns=>if _a.Cw ns=aD then aA (PV.lst (iL (sortI (ns.foldl KW [])))) else aB)=_;rw[Yl,aY,Be]
 ·rfl
 ·delta _a.Cw;dsimp[aX,decide_eq_true_eq,bK];show⟨λk c=>?_,by simpa [Hr] using d⟩;let⟨j,b,rfl⟩:=a9.mp c;let:=a j b
  lia
def Zkd{n:Nat}{m:Fh}(h:((Nx n m).foldl gO []).length=1)(c:0<n):∀x,x<n->m x=m 0:=λx d=>by
 let⟨a,ea⟩:=List.length_eq_one_iff.mp h;let b:=λy e=>by have:(m y:Int)∈(Nx n m).foldl gO []:=Zbz _ (.inr (a9.mpr ⟨y,av.mpr e,rfl⟩));rw[ea] at this;simpa using this
 let g:=b x d;let f:=b 0 c
 lia
def Zke{n:Nat}{m:Fh}(d:0<n)(h:∀x,x<n->m x=m 0):((Nx n m).foldl gO []).length=1:=by
 let e:Nx n m=(m 0:Int)::(Nx n m).tail:=by delta Nx;obtain⟨k,rfl⟩:∃k,n=k+1:=⟨n-1,()⟩;rw[iU,aa,List.tail_cons]
 rw[e];let:=OS λx b=>by let a:x∈Nx n m:=List.mem_of_mem_tail b;let⟨y,c,rfl⟩:=a9.mp a;rw[h y (av.mp c)]
 apply congrArg fK this
def RG:∀{l acc:E1},(acc++l).Nodup->l.foldl KW acc=acc++l
 | [],acc,_=>⋯
 | k::l,acc,h=>by
  let a:k∉acc:=λz=>by rw[dt] at h;apply h.2.2 k z k ⋯ rfl
  let ea:KW acc k=acc++[k]:=by delta KW;rw[Fb a]
  rw[gQ,ea];let:=RG (l:=l) (acc:=acc++[k]) (~~~h);rw[this];simp
def Fz(F:Iw):List Nat:=(sortI (Hr F)).map jD
def WR(F:Iw):Hr (Fz F)=sortI (Hr F):=by
 change((sortI (Hr F)).map jD).map (λ(i:Nat)=>(i:Int))=_;rw[bR]
 conv=>rhs;rw[<-kG (sortI (Hr F))]
 show az λx a=>?_;let:=(sortI_perm _).mem_iff.mp a;let⟨j,_,rfl⟩:=a9.mp this;rfl
def Zb6{a b:Nat}:(λ(i:Nat)=>(i:Int)) a=(λ(i:Nat)=>(i:Int)) b->a=b:=by grind
def YI(F:Iw):(Fz F).Perm F:=by
 let:=(sortI_perm (Hr F)).map jD
 let e:(Hr F).map jD=F:=by
  delta Hr;rw[bR]
  conv=>rhs;rw[<-kG F]
  apply az λx _=>rfl
 rw[e] at this;apply this
def Xi(i:dB E n b s)(all:∀h,h<n->h∈s.F):s.B.length+1=n:=by
 let f:=Qq i.ur i.uT;let c:=UT (dU.mpr (gD.imp λz e=>z (Zb6 e))) λx a=>by let⟨k,d,rfl⟩:=a9.mp a;apply a9.mpr ⟨k,all k (av.mp d),rfl⟩
 let e:s.F.length=s.B.length+1:=by rw[i.hB];simp
 dsimp[Hr,aK,b8] at c
 lia
def wg(E:List Zm):(aQ (la E)).map (M0 E)=E:=by
 apply((gC))
 ·simp
 ·ext i b a;rw[iO,mR];delta M0;rw[aP,aI a];rfl
def Zb7:∀{l:List α},(∀x∈l,¬(p x=aD/\q x=aD))->l.countP (λx=>p x || q x)=l.countP p+l.countP q
 | [],_=>rfl
 | a::r,h=>by
  let c:=Zb7 (l:=r) λx d=>h x (aR _ d);let b:=h a ⋯;rw[n6,n6,n6,c];cases Ko:p a<;>cases e2:q a<;>simp[Ko,e2] at b ⊢<;>lia
def Ds(h o:Nat):Zm:=if h<o then(h,o) else(o,h)
def Zf3(b:o≠h)(a:Kq≠h)(e:Ds h o=Ds h Kq):o=Kq:=by
 delta Ds at e;split at e<;>split at e<;>cases e<;>first | rfl | lia
def Ju(E:List Zm)(h:Nat)(G:Iw)(j:Nat):Bool:=G.any λo=>decide (M0 E j=Ds h o)
def Zkf(ok:Zu W)(a:h<W.length)(b:o<W.length)(ne:o≠h):((aQ (la (eW W))).countP (λj=>decide (M0 (eW W) j=Ds h o)):Int)=DD W h o:=by
 let c:(aQ (la (eW W))).countP (λj=>decide (M0 (eW W) j=Ds h o))=(eW W).count (Ds h o):=by
  conv=>rhs;rw[<-wg (eW W)]
  rw[List.count,sE];show List.countP_congr λx _=>?_;simp
 rw[c];delta eW;rw[uq ok.lF];delta Ds;let d:=ok.lo h o a b;split
 ·rw[Be (i5.mpr ⟨(),()⟩)];change((DD W h o).toNat:Int)=_
  lia
 ·rw[Be (i5.mpr ⟨(),()⟩)];rw[ok.sym o h b a]
  lia
def OZ(ok:Zu W)(f:h<W.length):∀{G:Iw},G.Nodup->(∀o∈G,o<W.length/\o≠h)->((aQ (la (eW W))).countP (Ju (eW W) h G):Int)=B7 W h G
 | [],_,_=>by
  have:(aQ (la (eW W))).countP (Ju (eW W) h [])=0:=by rw[List.countP_eq_zero];ext a _;simp[Ju]
  rw[this];rfl
 | o::G,E3,hG=>by
  let g:=au.mp E3;let l:=OZ ok f g.2 λx i=>hG x (aR _ i);let k:=Zkf ok f (hG o ⋯).1 (hG o ⋯).2
  let e:(aQ (la (eW W))).countP (Ju (eW W) h (o::G))=(aQ (la (eW W))).countP (λj=>decide (M0 (eW W) j=Ds h o))+(aQ (la (eW W))).countP (Ju (eW W) h G):=by
   rw[<-Zb7]
   ·rfl
   ·intro x _ ⟨a,c⟩;let a:M0 (eW W) x=Ds h o:=of_decide_eq_true a;let⟨d,b,c⟩:=iM.mp c;let c:M0 (eW W) x=Ds h d:=of_decide_eq_true c;let:=Zf3 (hG o ⋯).2 (hG d (aR _ b)).2 (a.symm.trans c);apply g.1 (this▸b)
  rw[e]
  push_cast
  rw[l,k];delta B7;rw[aa,bj]
def Zb8(ok:Zu W)(i:dB (eW W) W.length b s)(m:Nh (eW W) s.L s.F=aB)(q:h<W.length)(j:h∉s.F):B7 W h s.F<=(KN (eW W) s.L h:Int):=by
 rw[<-OZ ok q i.ur λo d=>⟨i.uT o d,λz=>j (z▸d)⟩]
 let sub:∀x∈(aQ (la (eW W))).filter (Ju (eW W) h s.F),x∈s.L.filter (E8 (eW W) h):=λx f=>by
  let⟨g,p⟩:=dM.mp f;let g:=av.mp g;let⟨o,d,c⟩:=iM.mp p;let c:=of_decide_eq_true c
  let l:E8 (eW W) h x=aD:=by
   delta E8;rw[c];delta Ds;split<;>simp
  show dM.mpr ⟨?_,l⟩;by_cases z:x∈s.L
  ·apply z
  ·let a:=ZZ m g z;rw[c] at a;delta Ds at a;split at a
   ·apply absurd (a.mpr d) j
   ·apply absurd (a.mp d) j
 let:=UT (dU.mpr ((gD.filter _).imp λz e=>z (Zb6 e))) λx f=>by let⟨k,n,rfl⟩:=a9.mp f;apply a9.mpr ⟨k,sub k n,rfl⟩
 dsimp[Hr,aK] at this;rw[ip];delta KN
 lia
def Zb9{l m:E1}(h:l.Perm m):l.sum=m.sum:=by
 induction h with
 | nil=>rfl
 | cons x _ E2=>rw[bj,bj,E2]
 | swap x y l=>dsimp[bj];lia
 | trans _ _ a b=>apply a.trans b
def U1(ok:Zu W)(b:h<W.length):∀{G F:Iw},G.Nodup->(∀x∈G,x∈F)->(∀x∈F,x<W.length)->B7 W h G<=B7 W h F
 | [],F,_,_,hF=>by
  change(0:Int)<=_;delta B7;apply OU λx a=>by let⟨o,f,rfl⟩:=a9.mp a;apply ok.lo h o b (hF o f)
 | g::G,F,E3,sub,hF=>by
  let c:=au.mp E3;let i:=sub g ⋯
  let k:=U1 ok b (G:=G) (F:=F.erase g) c.2 (λx a=>by
   have:x≠g:=λz=>c.1 (z▸a);apply(gu this).mpr (sub x (aR _ a))) λx a=>hF x (List.mem_of_mem_erase a)
  let d:F.Perm (g::F.erase g):=pJ i;let e:B7 W h F=DD W h g+B7 W h (F.erase g):=by delta B7;rw[Zb9 (d.map _)];rw[aa,bj]
  let j:B7 W h (g::G)=DD W h g+B7 W h G:=by delta B7;rw[aa,bj]
  lia
def RF(ok:Zu W)(i:dB (eW W) W.length b s)(p:h_ (eW W) W.length (BR D) s)(f:Nh (eW W) s.L s.F=aB)(B:f_ W D b G):∀k,k<=G.length->∀x∈G.take k,x∈s.F
 | 0,_,x,IJ=>by simp at IJ
 | k+1,MK,x,IJ=>by
  let g:=RF ok i p f B k ();let a:k<G.length:=()
  rw[jU,aI a] at IJ;rcases ag.mp IJ with z | z
  ·apply g x z
  ·let e:x=G[k]:=by simpa using z
   by_cases k0:k=0
   ·subst k0;let:=B.hd;rw[aI a] at this;have:G[0]=b:=bG this;rw[e,this,i.hB];simp
   ·let st:=B.st k () a;rw[aI a] at st;let⟨d,l,h⟩:=V7 st;by_cases c:x∈s.F
    ·apply c
    ·rw[e] at c;let j:=p.out _ d c;let n:=Zb8 ok i f d c;let m:=U1 ok d (B.E3.sublist (gm _ _)) g i.uT
     lia
def Ny(W:Iz)(k:Nat):List Int:=(Lb W).getD k []
def Zf4{W:Iz}{k:Nat}(a:k<la (eW W)):∃t:Int,Ny W k=[((M0 (eW W) k).1:Int),((M0 (eW W) k).2:Int),t]:=by let⟨t,e⟩:=OX a;show⟨t,?_⟩;delta Ny;rw[aP,e];rfl
def A1(W:Iz):PV:=.lst ((Lb W).map pP)
def r7(W:Iz):K7 ((Lb W).map pP)=(aQ (la (eW W))).map λ(i:Nat)=>.tup [.int (i:Int),pP (Ny W i)]:=by rw[XJ,aK,Sb];show az λi a=>?_;let a:=av.mp a;rw[aP,af,aI a];delta Ny;rw[aP,aI a];rfl
def Zca{W:Iz}{k:Nat}(b:k<la (eW W)):Hu (A1 W) (.int (k:Int))=aA (pP (Ny W k)):=by
 let a:k<(Lb W).length:=by rw[<-Sb];apply b
 show WA (xs:=(Lb W).map pP) ?_;delta Ny;rw[af,aP,aI a];rfl
def O1{W:Iz}{k:Nat}(b:k<la (eW W)):Hu (pP (Ny W k)) (.int 0)=aA (.int ((M0 (eW W) k).1:Int))/\Hu (pP (Ny W k)) (.int 1)=aA (.int ((M0 (eW W) k).2:Int))/\F4 (pP (Ny W k)) aB (aA 2)=aA (pP [((M0 (eW W) k).1:Int),((M0 (eW W) k).2:Int)]):=by let⟨t,a⟩:=Zf4 b;rw[a];apply⟨rfl,rfl,rfl⟩
def Qt{W:Iz}{L F:Iw}:CG [A1 W,.lst (iL (Hr L)),.lst (iL (Hr F))]=aA (Jz (Nh (eW W) L F)):=by
 show Uj (Zg4 (L:=aQ (la (eW W))) (q:=λ(i:Nat)=>.tup [.int (i:Int),pP (Ny W i)]) (g:=λ(i:Nat)=>.int (i:Int)) (λk=>!decide (k∈L)&&(decide ((M0 (eW W) k).1∈F) != decide ((M0 (eW W) k).2∈F))) (λst=>∃x y,st=[aA (A1 W),aA (.lst (iL (Hr L))),aA (.lst (iL (Hr F))),x,y]) (by rw[<-r7];rfl) ⟨aB,aB,rfl⟩ ?_ (λa e=>by delta Nh;rw[e];rfl) λe s=>?_)
 ·ext k f s ⟨x,y,rfl⟩;let⟨b,d,_⟩:=O1 (av.mp f)
  let c:∀p q:Bool,KD aD (.Iv p) (.Iv q)=aA (.Iv (p != q)):=λp q=>by
   delta KD;rw[Be (by rfl)];cases p<;>cases q<;>simp
  apply⟨_,rfl,xa (xb (o2 rfl rfl (gI k L))) (xb (o2 (o2 (o2 rfl rfl b) rfl (Q4 _ F)) (o2 (o2 rfl rfl d) rfl (Q4 _ F)) (c _ _))),rfl,_,_,rfl⟩
 ·ext⟨x,y,rfl⟩;show⟨.IB,rfl,?_⟩;delta Nh;rw[e];rfl
def N3(x:E_):List Int:=[(x.1:Int),(x.2.1:Int),(x.2.2:Int)]
abbrev Zmy(W:Iz)(b:Nat)(C:PV)(s:WS)(Kv x8 x9:Option PV):ZG:=[aA (wP W),aA (.int (b:Int)),aA C,aA (A1 W),aA (.lst (iL (Hr s.F))),aA (.lst (iL (Hr s.L))),aA (.lst (s.B.map λx=>pP (N3 x))),Kv,x8,x9]
def Xr{W:Iz}:∀e∈eW W,e.1<la W/\e.2<la W:=λe a=>by
 let:=rU e a
 lia
def Zf5{E:List Zm}{k:Nat}(h:k<la E):M0 E k∈E:=by delta M0;rw[aP,aI h];apply cI h
def Zkg{s:ZG}{i:Nat}{fs:List XE}{ls:List PV}{a:q_}{l:PV}{v:Bool}(g:s[i]?=aA (aA (.nv a l)))(c:HE fs s=aA ls)(pl:NP l=aD)(b:Lj ls=aD)(d:Am a l ls=aA (.Iv v)):Jx (A3 Am i fs) s=aA v:=by delta Jx A3;rw[g];rw[c];dsimp[aY];rw[Be (by rw[pl,b];rfl),d];rfl
def x7{W:Iz}{L:Iw}{h:Nat}{s:ZG}(a:∀j∈L,j<la (eW W))(g:la L<=1000)(d:Dz 5 s=aA (.lst (iL (Hr L))))(f:F3 1 [8,3] s=[aB,aA (.int (h:Int)),aA (A1 W)]) :
  BO M5 [HC 1 [8,3] (Af (Dz 5)) (.one 0) (xB (DA (Nf aC) (Dz 1) (Ho F4 (DA Hu (Dz 2) (Dz 0)) F9 (Lr (DB (.int 2)))))) (Dz 0)] s=aA (.int (KN (eW W) L h:Int)):=by
 show c1 (X7 L (λi=>.int (i:Int)) (λi=>.int (i:Int)) (E8 (eW W) h) (by delta Af;rw[d];simp[Hr]) () λy c=>⟨[aA (.int (y:Int)),aA (.int (h:Int)),aA (A1 W)],by rw[f];rfl,?_,λ_=>rfl⟩) (by simp[KN]);let⟨_,_,e⟩:=O1 (a y c);show xb (o2 (b:=pP [((M0 (eW W) y).1:Int),((M0 (eW W) y).2:Int)]) rfl ?_ ?_)
 ·change((Hu (A1 W) (.int (y:Int))).bind λx=>F4 x aB (aA 2))=_;rw[Zca (a y c)];apply e
 ·rw[Zhb];simp[E8,Int.ofNat_inj]
def ei{W:Iz}(ok:Zu W){b:Nat}(E:b<la W){g:q_}{l:PV}{φ:Hf}(pl:NP l=aD)
  (A:∀k h c:Nat,k<la (eW W)->h<la W->Am g l [.int (k:Int),.int (h:Int),.int (c:Int)]=aA (.Iv (φ k h c))) :
  A2 [wP W,.int (b:Int),.nv g l]=aA (.lst ((BY (eW W) φ (la (eW W)) (FN b)).B.map λx=>pP (N3 x))):=by
 let J:=ok.lF;let w:=Wm ok;let H:la (eW W)<=441:=by rw[Sb];apply w.2
 show Uj (ZD (Zl (c1 rfl w.1)) (ZD rfl (ZD rfl (ZD rfl (ZD (Zl (c3 rfl rfl rfl (Qt (L:=[]) (F:=[b])))) (Wl (Zg5 (λk st=>∃s u t,st=Zmy W b (.nv g l) s (aA (Jz (Nh (eW W) s.L s.F))) u t/\dB (eW W) (la W) b s/\la (eW W)<=k+s.L.length/\BY (eW W) φ k s=BY (eW W) φ (la (eW W)) (FN b)) ⟨FN b,aB,aB,rfl,dB.start E,⋯,rfl⟩ ?_) ?_))))))
 ·ext k st ⟨s,u,t,rfl,a,wl,p⟩
  cases e:Nh (eW W) s.L s.F with
  | none=>apply .inl rfl
  | some j=>
   cases k with
   | zero=>
    let:=S7 (φ:=φ) Xr a (by omega);delta BY at this;rw[e] at this;cases this
   | succ k=>
    let⟨d,M,_⟩:=YO e;let⟨N,Q,o,P,B⟩:=UY e
    let r:Hz (eW W) s.F j<la W:=by
     let:=Xr _ (Zf5 d);rcases B with z | z<;>rw[z] at this
     ·apply this.2
     ·apply this.1
    let G:=Qq a.ym a.wH;let O:=Qq a.ur a.uT;let I:s.F.length=s.B.length+1:=by rw[a.hB];simp
    let⟨m,D,_⟩:=O1 d;let f:=Zca d;let' h:=Hz (eW W) s.F j;let' c:=KN (eW W) (s.L++[j]) h;show .inr ⟨rfl,Yr (gw rfl rfl ()) (Yr (Zl (vP ?_)) (Yr (Zl (vP (x7 (λi C=>?_) (by rw[aq,bu];lia) rfl rfl))) (Zg3 (R:=λst=>st=Zmy W b (.nv g l) (DI (eW W) φ s j) (aA (.int (j:Int))) (aA (.int (h:Int))) (aA (.int (c:Int)))) (rI (Zkg rfl rfl pl rfl (A j h c d r)) (λv=>Yr (gw rfl rfl ()) (nT (TK (λx=>pP (N3 x)) (y:=(j,h,c)) rfl rfl ()) ?_)) λv=>nT rfl ?_) ?_)))⟩
    ·change _=aA (PV.int (Hz (eW W) s.F j:Int));delta Hz;by_cases q:(M0 (eW W) j).1∈s.F
     ·rw[Be q];apply Y1 (xb ((o2 (o2 (o2 rfl rfl f) rfl m) rfl (Q4 _ _)).trans (by rw[decide_eq_true q]))) (o2 (o2 rfl rfl f) rfl D)
     ·rw[Fb q];apply Ut (xb ((o2 (o2 (o2 rfl rfl f) rfl m) rfl (Q4 _ _)).trans (by rw[decide_eq_false q]))) (o2 (o2 rfl rfl f) rfl m)
    ·rcases ag.mp C with z | z
     ·apply a.wH i z
     ·rw[aO.mp z];apply d
    ·delta DI;rw[Be v];rfl
    ·delta DI;rw[Fb (by rw[v];decide)];rfl
    ·ext st rfl;show nT (Zl (c3 rfl rfl rfl Qt)) ⟨k,(),DI (eW W) φ s j,_,_,rfl,a.step Xr e,by rw[RX,aq,bu];lia,?_⟩;rw[<-p]
     conv=>rhs;unfold BY
     rw[e]
 ·ext st ⟨k,⟨s,u,t,rfl,a,wl,p⟩,q⟩;show⟨_,rfl,?_⟩;rw[<-p]
  cases k with
  | zero=>rfl
  | succ n=>
   delta BY
   cases e:Nh (eW W) s.L s.F with
   | none=>rfl
   | some h=>rw[e] at q;cases q
def y3(st:cJ)(i:Nat)(q f:bH):(Mi st i q f).free=f:=by
 delta Mi;split
 ·split<;>rfl
 ·rfl
def Zkh{s t:cJ}{i j:Nat}{p q f g:bH}(h:f≠g):Mi s i p f≠Mi t j q g:=λz=>h (by
 let:=congrArg q_.free z
 rwa [y3,y3] at this)
def xe{K:Iw}{k h c:Nat}:Am AI (pP (Hr K)) [.int (k:Int),.int (h:Int),.int (c:Int)]=aA (.Iv (decide (k∈K))):=by delta Am;rw[Be rfl];apply o2 rfl rfl (by rw[Zhb];dsimp[gB];rfl)
def w7{D:E1}{k h c:Nat}(a:h<la D):Am AJ (pP D) [.int (k:Int),.int (h:Int),.int (c:Int)]=aA (.Iv (Lw (BR D) k h c)):=by delta Am;rw[Fb (show AJ≠AI from Zkh ∅),Be rfl];apply o2 (o2 rfl rfl (Xy a)) rfl rfl
def V8(D:E1):NP (pP D)=aD:=by
 change Lj (iL D)=aD
 induction D with
 | nil=>rfl
 | cons a r E2=>apply E2
def pn{W:Iz}(ok:Zu W){b:Nat}(e:b<la W){d:q_}{l:PV}{φ:Hf}(pl:NP l=aD)
  (i:∀k h c:Nat,k<la (eW W)->h<la W->Am d l [.int (k:Int),.int (h:Int),.int (c:Int)]=aA (.Iv (φ k h c))) :
  GB [wP W,.int (b:Int),.nv d l]=aA (pP (Hr (Fz ((BY (eW W) φ (la (eW W)) (FN b)).B.map (·.1))))):=by
 let f:=ei ok e pl i;generalize hs:BY (eW W) φ (la (eW W)) (FN b)=s at f ⊢;let a:dB (eW W) (la W) b s:=by rw[<-hs];apply dB.walk Xr (dB.start e)
 let m:=Qq a.ur a.uT;let j:s.F.length=s.B.length+1:=by rw[a.hB];simp
 let n:=ok.lF;let g:(s.B.map λx=>PV.int (x.1:Int))=iL (Hr (s.B.map (·.1))):=by simp[Hr]
 show Yu (ret (uJ ?_));rw[WR];apply c1 (c1 ((Z2 s.B (λx=>pP (N3 x)) (λx=>.int (x.1:Int)) (by delta Af;rw[c3 (D:=A2) rfl rfl rfl f];rfl) (by omega) λx o=>⟨_,rfl,rfl,rfl⟩).trans (by rw[g])) (gF (by rw[aK];omega))) rfl
def NU(W:Iz)(D:E1)(b:Nat):WS:=BY (eW W) (Lw (BR D)) (la (eW W)) (FN b)
def NB(W:Iz)(D:E1)(b:Nat):List Nat:=Fz ((NU W D b).B.map (·.1))
def mb{W:Iz}(ok:Zu W){D:E1}(a:la D=la W){b:Nat}(e:b<la W)(hs:Gu [wP W,pP D,.int (b:Int)]=aA (.Iv aD)):Cv [wP W,.int (b:Int),pP D]=aA (pP (Hr (NB W D b))):=by let f:=pn ok e (V8 D) λk h c _ d=>w7 (by rw[a];apply d);show Yu (sq (Qv (xn (xb (c3 rfl rfl rfl hs)))) (ret ?_));change(GB [wP W,.int (b:Int),.nv AJ (pP D)]).bind _=_;rw[f,aY,Be (V8 _)];rfl
def Zcb{W:Iz}(ok:Zu W){D:E1}{b:Nat}(a:b<la W){G:Iw}(B:f_ W D b G)(all:la G=la W)(f:∀g,g<la W->g≠b->0<=BR D g):∀h,h<la W->h∈(NU W D b).F:=λh k=>by
 let c:dB (eW W) (la W) b (NU W D b):=dB.walk Xr (dB.start a);let j:h_ (eW W) (la W) (BR D) (NU W D b):=h_.walk Xr (h_.start f);let e:Nh (eW W) (NU W D b).L (NU W D b).F=aB:=S7 Xr (dB.start a) ⋯
 let i:h∈G:=by
  by_cases z:h∈G
  ·apply z
  ·let:=Qq (YY B.E3 z) λx d=>by
    rcases ag.mp d with y | y
    ·apply B.lt x y
    ·rw[aO.mp y];apply k
   rw[aq,bu] at this;omega
 apply RF ok c j e B (la G) (aZ _) h (by rw[dQ];apply i)
def q6{W:Iz}{D:E1}{b:Nat}:BY (eW W) (λk _ _=>decide (k∈NB W D b)) (la (eW W)) (FN b)=NU W D b:=
 OP (T:=NB W D b) (λx a=>by simp[FN] at a) λk=>(YI _).mem_iff
def s6{W:Iz}{D D':E1}{b:Nat}(h:∀g,g≠b->BR D g=BR D' g):NU W D b=NU W D' b:=
 OQ (λk g c a=>by delta Lw;rw[h g a]) (by simp[FN])
def F6(B:Le)(c:E1):List Int:=B.foldl (λc x=>c.set x.2.1 ((x.2.2:Int)-1)) c
def Ra:∀(B:Le)(c:E1),(F6 B c).length=la c
 | [],_=>rfl
 | x::B,c=>by change(F6 B (c.set _ _)).length=_;rw[Ra,cq]
def vQ(B:Le)(x:E_)(c:E1):F6 (B++[x]) c=(F6 B c).set x.2.1 ((x.2.2:Int)-1):=by delta F6;rw[m6];rfl
def Qu{W:Iz}(ok:Zu W){b:Nat}(g:b<la W){K:Iw} :
  CI [wP W,.int (b:Int),pP (Hr K)]=aA (pP (F6 (BY (eW W) (λk _ _=>decide (k∈K)) (la (eW W)) (FN b)).B (ak (la W) 0))):=by
 let f:=ei ok g (V8 (Hr K)) λk h c _ _=>xe;generalize hs:BY (eW W) (λk _ _=>decide (k∈K)) (la (eW W)) (FN b)=s at f ⊢;let j:dB (eW W) (la W) b s:=by rw[<-hs];apply dB.walk Xr (dB.start g)
 let t:=ok.lF;let p:=λx m=>j.uT _ (by rw[j.hB];apply aR _ (a9.mpr ⟨x,m,rfl⟩))
 let n:∀B:List (Nat×Nat×Nat),Lj (B.map λx=>pP (N3 x))=aD:=λB=>by
  induction B with
  | nil=>rfl
  | cons x r E2=>
   change(NP (pP (N3 x))&&Lj _)=aD;rw[V8];apply E2
 show Uj (ZD (Zl (o2 rfl (c1 rfl Qn) (Zg6 ()))) (ZD (Zl ?_) (Wl (OB (λi st=>∃e d a,st=[aA (wP W),aA (.int (b:Int)),aA (pP (Hr K)),aA (.lst (iL (F6 (s.B.take i) (ak (la W) 0)))),aA (.lst (s.B.map λx=>pP (N3 x))),e,d,a]) rfl ⟨aB,aB,aB,rfl⟩ ?_) ?_)))
 ·change(A2 [wP W,.int (b:Int),.nv AI (pP (Hr K))]).bind _=_;rw[f,aY,Be (show NP (PV.lst _)=aD from n _)]
 ·ext i l st o ⟨e,d,a,rfl⟩;obtain⟨x,q,rfl⟩:∃x,s.B[i]?=aA x/\pP (N3 x)=l:=by simpa using o
  show⟨_,rfl,nT (Zjt rfl (uR rfl rfl) rfl (by rw[Ra,cP];apply p x (aw q))) ⟨aA (.int (x.1:Int)),aA (.int (x.2.1:Int)),aA (.int (x.2.2:Int)),?_⟩⟩;rw[show s.B.take (i+1)=s.B.take i++[x] by rw[jU,q];rfl,vQ];rfl
 ·ext st ⟨e,d,a,rfl⟩;apply W6 (uJ (c1 rfl rfl)) ⋯
def Rb{h:Nat}:∀{B:Le}{c:E1},(∀x∈B,x.2.1≠h)->(F6 B c)[h]?=c[h]?
 | [],_,_=>rfl
 | x::B,c,IF=>by change(F6 B (c.set x.2.1 _))[h]?=_;rw[Rb λy a=>IF y (aR _ a),dW (IF x ⋯)]
def Zt{x:E_}:∀{B:Le}{c:E1},(B.map (·.2.1)).Nodup->x∈B->x.2.1<la c->(F6 B c)[x.2.1]?=aA ((x.2.2:Int)-1)
 | [],_,_,h,_=>by simp at h
 | y::B,c,E3,h,Fg=>by
  rw[aa] at E3;let a:=au.mp E3;change(F6 B (c.set y.2.1 _))[x.2.1]?=_;rcases aW.mp h with e | h
  ·subst e;rw[Rb λz b e=>a.1 (a9.mpr ⟨z,b,e⟩),fR Fg]
  ·apply Zt a.2 h (by rw[cq];apply Fg)
def Zcc{W:Iz}{D:E1}{b:Nat}{s:WS}(m:la D=la W)(a:dB (eW W) (la W) b s)(k:h_ (eW W) (la W) (BR D) s)(all:∀h,h<la W->h∈s.F):F6 s.B (ak (la W) 0)=D.set b 0:=by
 let j:(s.B.map (·.2.1)).Nodup:=by let:=a.ur;rw[a.hB] at this;apply(au.mp this).2
 let l:∀x∈s.B,x.2.1≠b:=λx c e=>by let:=a.ur;rw[a.hB] at this;apply(au.mp this).1 (a9.mpr ⟨x,c,e⟩)
 apply((gq));ext h;by_cases f:h<la W
 ·by_cases e:h=b
  ·subst e;rw[Rb l,fR (),c0,Be f]
  ·let i:=all h f;rw[a.hB] at i;rcases aW.mp i with z | z
   ·apply absurd z e
   ·let⟨x,c,d⟩:=a9.mp z;let d:x.2.1=h:=d;subst d;rw[Zt j c (by rw[cP];apply f),dW (λz=>e z.symm),k.zZ x c];let g:x.2.1<la D:=()
    rw[aI g];delta BR;rw[aP,aI g];simp
 ·rw[dI (by rw[Ra,cP];lia),dI (by rw[cq];lia)]
def Zmz(i:Nat):B0 0 i=i+1:=by delta B0;rw[Fb ()]
def O2{W:Iz}(ok:Zu W)(p:Iy W):Eh [wP W]=aA (.int ((B2 (eW W) (la W-1)).length:Int)):=by
 let hp:=ok.pos;let t:=ok.lF;obtain⟨m,e⟩:∃m,W.length=m+1:=⟨W.length-1,()⟩;let d:la W-1=m:=()
 let MM:=Zkb ok p hp (λ_=>0);let sq:=S9 ok hp;rw[d] at MM sq
 let n:KO m m (KQ W 0)=KO m m (IX W 0 λ_=>0):=by
  apply az λi k=>az λj f=>by delta IX;rw[Be (by let:=av.mp f;lia)]
 let g:=w' (w:=m) (R:=wP (KO m m (KQ W 0))) () () () MM (λi j k f=>R2 ok () ()) (λi k=>by delta IX;rw[Fb ()];apply dH _) (.inr (by rw[n];rfl));let I:=To MM (aZ m)
 let dd:(FU m (IX W 0 λ_=>0) m).2=((B2 (eW W) m).length:Int):=by
  rw[I.de,Wn];delta eW;rw[e,<-Zft ⟨λa b h o=>ok.lo a b () (),λa b h o=>ok.sym a b () (),λa h=>ok.xC a ()⟩];show ZR λr c u s=>?_;delta KQ;rw[Zmz,Zmz];by_cases q:r=c
  ·subst q;rw[Be rfl,Be rfl,eh ok (),S4,e]
  ·rw[Fb (),Fb q]
 rw[dd] at g;rw[d]
 let l:CQ [wP (KO m m (KQ W 0))]=aA (.int ((B2 (eW W) m).length:Int)):=by
  change(Hv _ [aA (wP (KO m m (KQ W 0)))]).bind Ly=_
  rw[Rd (vP (by
   rw[show DA Hu (BO LP [Dz 0]) (DB (.int 0)) [aA (wP (KO m m (KQ W 0)))]=(LP [wP (KO m m (KQ W 0))]).bind λx=>Hu x (.int 0) from rfl,g];rfl))]
  rfl
 let hs:JM [wP W]=aA (wP (KO m m (KQ W 0))):=by change(Hv _ [aA (wP W)]).bind Ly=_;rw[Rd sq];rfl
 change(Hv _ [aA (wP W)]).bind Ly=_
 rw[Rd (by
  rw[Xx,Zy,show BO JM [Dz 0] [aA (wP W)]=aA (wP (KO m m (KQ W 0))) from hs];apply l)]
 rfl
end _p
namespace _f
open _l _v _p
def Zov(c:Int):∃v:Int,1<=v/\v<=9/\HG [PV.int 1,PV.int 1,PV.int 1,PV.int 2,PV.int 3] (c%5)=aA (.int v):=by
 let h:c%5=0\/c%5=1\/c%5=2\/c%5=3\/c%5=4:=()
 rcases h with h | h | h | h | h<;>rw[h]
 ·apply⟨1,∅,∅,rfl⟩
 ·apply⟨1,∅,∅,rfl⟩
 ·apply⟨1,∅,∅,rfl⟩
 ·apply⟨2,∅,∅,rfl⟩
 ·apply⟨3,∅,∅,rfl⟩
def Zow(c:Int):∃v:Int,0<=v/\v<=9/\HG [PV.int 0,PV.int 1,PV.int 0,PV.int 1,PV.int 2] (c%5)=aA (.int v):=by
 let h:c%5=0\/c%5=1\/c%5=2\/c%5=3\/c%5=4:=()
 rcases h with h | h | h | h | h<;>rw[h]
 ·apply⟨0,∅,∅,rfl⟩
 ·apply⟨1,∅,∅,rfl⟩
 ·apply⟨0,∅,∅,rfl⟩
 ·apply⟨1,∅,∅,rfl⟩
 ·apply⟨2,∅,∅,rfl⟩
abbrev stC(ns:E1)(YE n:Nat)(first:Int)(ts:List Xs)(room:Int)(x6 Kv x8 x9 y4 x11:Option PV):ZG:=
 [aA (.cst (iL ns)),aA (.int (YE:Int)),aA (.int (n:Int)),aA (.int first),aA (.int room),aA (Ng ts),x6,Kv,x8,x9,y4,x11]
def AX(n:Nat):Int:=if 4<n then(n:Int)+1 else 8
def uB{ns:E1}{YE n:Nat}(D:la ns<=63)(MH:1<=n)(Fm:n<=7):∃ts,JO [.cst (iL ns),.int (YE:Int),.int (n:Int)]=aA (Ng ts)/\b0 n ts/\AD n ts/\HF ts<=AX n:=by
 let hR:(n:Int)+1<=AX n/\AX n<=8:=by delta AX;split<;>lia
 generalize hRd:AX n=R at *;let f:=V5 D YE;generalize BR ns YE=first at f
 let⟨r,er,T⟩:=OE (most:=9) () () Fm MH;let g4:∀{s:ZG},Dz 2 s=aA (.int (n:Int))->BO En [DA KY (Dz 2) (DB (.int 4))] s=aA (.int (if 4<n then 1 else 0)):=λh=>c1 (vgt h rfl) ⋯
 let Y:∃v,JO [.cst (iL ns),.int (YE:Int),.int (n:Int)]=aA v/\∃ts,v=Ng ts/\b0 n ts/\AD n ts/\HF ts<=R:=by
  show gi (ZD (Zl (c2 rfl rfl f)) (ZD (Zl (v:=.int R) (ep (o2 rfl (g4 rfl) (by rw[<-hRd];delta AX;split<;>rfl)))) ?_));let a3:BO Gk [DA We (Dz 3) (DB (.int 2)),Dz 2,Dz 4,DB (.int 9)] [aA (.cst (iL ns)),aA (.int (YE:Int)),aA (.int (n:Int)),aA (.int first),aA (.int R),aB,aB,aB,aB,aB,aB,aB]=aA r:=c4 (xX rfl rfl) rfl rfl rfl er;let a2:K1 aD (BO Gk [DA We (Dz 3) (DB (.int 2)),Dz 2,Dz 4,DB (.int 9)]) [aA (.cst (iL ns)),aA (.int (YE:Int)),aA (.int (n:Int)),aA (.int first),aA (.int R),aB,aB,aB,aB,aB,aB,aB]=aA (.Iv (!A8 r)):=by rw[hx,a3];cases r<;>rfl
  cases G:(decide (first%2=1)&&!A8 r) with
  | true=>
   rcases T with rfl | ⟨ts,rfl,ok,_,IL,l⟩
   ·rw[aX] at G;apply absurd G.2 ∅
   ·apply Zg2 ((xa (xb (kV (uS rfl rfl) rfl)) (xb a2)).trans (congrArg aA G)) (W6 a3 ⟨ts,rfl,ok,IL,l ()⟩)
  | false=>
   show ZD (Qv ((xa (xb (kV (uS rfl rfl) rfl)) (xb a2)).trans (congrArg aA G))) (ZD rfl (Wl (vE (m:=1) (λi s=>∃ts room J H M,s=stC ns YE n first ts room J H M aB aB aB/\b0 n ts/\ts.length+1<=i/\(n:Int)-i<=room/\HF ts+room<=R/\∀h,1<=h->h<i->∃c,c<h/\Bf ts c h) rfl rfl ⟨[],R,aB,aB,aB,rfl,b0.nil n,aZ _,(),by change(0:Int)+R<=R;lia,λh MH ID=>()⟩ ?_) ?_))
   ·ext h s i1 hh ⟨ts,room,J,H,M,rfl,ok,F,hr,l,u⟩;let q:=V5 D (YE+h);generalize BR ns (YE+h)=c at q;let⟨v,v1,v9,ev⟩:=Zov (c/(h:Int));generalize hd:(if room-((n:Int)-1-(h:Int))<v then room-((n:Int)-1-(h:Int)) else v)=BB;let d1:1<=BB/\BB<=9/\BB<=room-((n:Int)-1-(h:Int)):=by rw[<-hd];split<;>lia
    let m0:=l6 c (show(h:Int)≠0 by lia);let m1:=iY c (show(0:Int)<(h:Int) by lia);let⟨t,N,o,A,hh2,w,yp⟩:=S2 (a:=(c%(h:Int)).toNat) ok () hh d1.1 d1.2.1 ();rw[ja m0] at N;show Yr (Zl (c2 rfl rfl q)) (Yr (Zl (ep (c2 (o2 rfl (uS (xX rfl rfl) rfl) ev) (uR rfl (uR (uR rfl rfl) rfl)) (by rw[<-hd];rfl)))) (Yr (S3 rfl (Zmm (uS rfl rfl) rfl) rfl N) (nT (Zl (ep (uR rfl rfl))) ⟨t,_,_,_,_,rfl,o,(),(),(),λg g1 g2=>?_⟩)));by_cases z:g<h
    ·let⟨c,a,b⟩:=u g g1 z;apply⟨c,a,w _ _ b⟩
    ·rw[show g=h by lia];apply⟨_,(),hh2⟩
   ·ext s ⟨y,E,J,H,M,rfl,X,hle1,hr1,I,u⟩;show ZD (Zl (ep (o2 rfl (o2 rfl (g4 rfl) (show _=aA (PV.int ((if 4<n then 27 else 5:Nat):Int)) by split<;>rfl)) rfl))) (Wl (Qm (λi s=>∃ts room x k B d,s=stC ns YE n first ts room J H x (aA (.int ((k:Nat):Int))) B d/\b0 n ts/\ts.length<=7+7*i/\Ext y ts/\0<=room/\HF ts+room<=R) rfl ⟨y,E,M,_,aB,aB,rfl,X,(),Ext.refl y,(),I⟩ ?_) ?_)
    ·ext a s Ff ⟨ts,room,x,k,B,d,rfl,ok,F,L,C,l⟩;show V4 (vE (m:=a+1) (λj s=>∃ts room x k d,s=stC ns YE n first ts room J H x (aA (.int ((k:Nat):Int))) (aA (.int (a:Int))) d/\b0 n ts/\ts.length<=7+7*a+(j-(a+1))/\Ext y ts/\0<=room/\HF ts+room<=R) rfl rfl ⟨ts,room,x,k,d,rfl,ok,(),L,C,l⟩ ?_) λs ⟨ts,room,x,k,d,e,ok,F,h⟩=>⟨ts,room,x,k,_,d,e,ok,(),h⟩;ext b s j1 Z ⟨ts,room,x,k,d,rfl,ok,F,L,C,l⟩;let⟨v,v0,v9,ev⟩:=Zow (BR ns k);let⟨cc,Hi⟩:=Zj0 ts (a:Int) (b:Int);show Yr (Zl (ep (o2 rfl (uS (c2 rfl rfl (V5 D k)) rfl) ev))) (Yr (Zl (ep rfl)) (rI (p:=!cc&&(decide (0<v)&&decide (v<=room))) (xa (xb (by simp[EA,Hi])) (xb (by by_cases IU:0<v<;>simp[Gg,IU]))) (λc=>?_) λ_=>nT rfl ⟨ts,room,_,k+1,_,rfl,ok,(),L,C,l⟩));dsimp[aX,decide_eq_true_eq] at c;let⟨t,N,o,A,_,w,yp⟩:=S2 ok j1 Z () v9 ();apply Yr (S3 rfl rfl rfl N) (nT (Zl (ep (uR rfl rfl))) ⟨t,_,_,k+1,_,rfl,o,(),L.trans w,(),()⟩)
    ·ext s ⟨t,U,x,k,B,d,rfl,o,A,w,_,hsu2⟩
     let all:∀P,Cl t P->∀i,i<n->(P i↔P 0):=by
      ext P O i
      induction i using Nat.strongRecOn with
      | _ i E2=>
       ext S;by_cases h0:i=0
       ·subst h0;apply tX
       ·let⟨c,G,Z⟩:=u i () S;apply(O _ _ (w _ _ Z)).symm.trans (E2 c G ())
     let⟨sF,eR,W,_,Q,hsR⟩:=yE o Fm () (first/7);apply W6 (c3 rfl (xX (c2 rfl rfl f) rfl) rfl eR) ⟨sF,rfl,W,Q λP O i j S hj=>(all P O i S).trans (all P O j hj).symm,()⟩
 let⟨v,e,ts,rfl,h⟩:=Y;apply⟨ts,e,h⟩
end _f
namespace _p
open _l _v _z _e
def O3(T:List Zm):∀(g:Iw)(P:Fh),K9 T P g=B9 P ((g.map (M0 T)).map Bq)
 | [],P=>rfl
 | t::g,P=>O3 T g _
def O4{E:List Zm}{k:Nat}(h:k<la E):M0 E k∈E:=by delta M0;rw[aP,aI h];apply cI h
def Rc(g:Iw):g=[]\/∃h x,g=h++[x]:=by
 rcases kc g with h | ⟨h,x,e⟩
 ·apply .inl h
 ·apply .inr ⟨h,x,by rw[e,jG]⟩
abbrev gP(g:Iw):PV:=pP (Hr g)
def nd{g:Iw}{f:XE}{s:ZG}(v:f s=aA (gP g)):BM (xB (DA KY (BO M5 [f]) (DB (.int 0)))) (DA Xa (DA Hu f (NR HL (DB (.int 1)))) (DB (.int 1))) (DB (.int 0)) s=aA (.int ((Ak g:Nat):Int)):=by
 let t:xB (DA KY (BO M5 [f]) (DB (.int 0))) s=aA (decide (0<(la g:Int))):=xb (o2 (a:=.int (la g:Int)) (c1 v (by rw[oS];simp[Hr])) rfl rfl);rw[ZT,t];rcases Rc g with rfl | ⟨h,x,rfl⟩
 ·rfl
 ·rw[XZ,decide_eq_true (show 0<((h++[x]).length:Int) by simp)];show o2 (a:=.int (x:Int)) (o2 v rfl ?_) rfl rfl;change HG (iL (Hr (h++[x]))) (-1)=_;delta HG
  have:Kw (iL (Hr (h++[x]))).length (-1)=aA h.length:=by
   delta Kw;simp[Hr]
   lia
  rw[this];simp[Hr]
def Zcd{W:Iz}(ok:Zu W){a:Lm}(D:∀g∈a,∀t∈g,t<la (eW W))(H:(KP (eW W) a).length<=1000)(z:∀g∈a,g.length<=100) :
  JR [wP W,.lst ((Lb W).map pP),.lst (a.map gP)]=aA (.lst ((KP (eW W) a).map gP)):=by
 let G:la (eW W)<=441:=by rw[Sb];apply(Wm ok).2
 let' st:=λA o u r=>[aA (wP W),aA (.lst ((Lb W).map pP)),aA (.lst (a.map gP)),A,o,u,r];let' acc:Nat->Option PV:=λi=>aA (.lst ((KP (eW W) (a.take i)).map gP))
 let⟨E,f1,o,u,r,rfl⟩:=UE (T:=.one 4) (fb:=(BS (Hs 5 (BO Ct [Dz 0,Dz 1,Dz 4]))
  (BS (Hs 6 (FG (BM (xB (DA KY (BO M5 [Dz 4]) (DB (.int 0)))) (DA Xa (DA Hu (Dz 4) (NR HL (DB (.int 1)))) (DB (.int 1))) (DB (.int 0)))))
  (Es 3 (HC 1 [4,5,1] (Lp [Dz 6,BO M5 [Dz 1]]) (.one 0) (xB (BO CS [Dz 2,DA Hu (Dz 3) (Dz 0)])) (FG (DA Jd (Dz 1) (DU [Dz 0])))))))) (λi s=>∃o u r,s=st (acc i) o u r) ⟨aB,aB,aB,rfl⟩ (by
  ext i l s d ⟨o,u,r,rfl⟩
  obtain⟨g,q,rfl⟩:∃g,a[i]?=aA g/\l=gP g:=by
   rw[af] at d
   cases e:a[i]? with
   | none=>rw[e] at d;cases d
   | some g=>rw[e] at d;cases d;apply⟨g,rfl,rfl⟩
  let p:=aw q;let f:=D g p
  let F:Ak g<=la (eW W):=by
   rcases Rc g with rfl | ⟨h,x,rfl⟩
   ·apply dH _
   ·rw[XZ];let:=f x ⋯;lia
  let IA:KP (eW W) (a.take (i+1))=KP (eW W) (a.take i)++(Ga (eW W) g).map λt=>g++[t]:=by delta KP;rw[kO,q];simp
  let k:(KP (eW W) (a.take (i+1))).length<=(KP (eW W) a).length:=by
   have:KP (eW W) a=KP (eW W) (a.take (i+1))++KP (eW W) (a.drop (i+1)):=by delta KP;rw[<-List.flatMap_append,jF]
   rw[this,aq];lia
  rw[IA,aq] at k;show⟨_,_,rfl,sq (Zl (c3 rfl rfl rfl (Xe ok f))) (sq (Zl (ep (nd rfl))) (PR (n:=((Ga (eW W) g).map λt=>g++[t]).map gP) ?_ rfl (by dsimp[aK] at k ⊢;lia))),aA (gP g),aA (.lst (iL (Nx (la W) (Fx W g)))),aA (.int ((Ak g:Nat):Int)),?_⟩
  ·rw[X7 (mh (Ak g) (la (eW W)-Ak g)) (λt=>PV.int (t:Int)) (λt=>gP (g++[t])) (λt=>!decide (Fx W g (M0 (eW W) t).1=Fx W g (M0 (eW W) t).2)) ?_ (by simp;lia) λt C=>?_]
   ·delta Ga;rw[bR];let e:K9 (eW W) id g=Fx W g:=O3 _ _ _;rw[e];rfl
   ·rw[RD (j:=(la (eW W):Int)) rfl (c1 rfl (by rw[tM,aK,Sb])) ⟨(),()⟩ ⟨(),()⟩];rw[List.range'_eq_map_range,bR,show((la (eW W):Int)-((Ak g:Nat):Int)).toNat=la (eW W)-Ak g by lia];rfl
   ·let m:t<la (eW W):=by rw[mj] at C;lia
    let⟨c,y⟩:=OX m;let B:=rU _ (O4 m);let lt:(M0 (eW W) t).1<la W/\(M0 (eW W) t).2<la W:=⟨(),B.2.1⟩;let w:∀x,x<la W->HG (iL (Nx (la W) (Fx W g))) ((x:Nat):Int)=aA (.int ((Fx W g x:Nat):Int)):=λx v=>by rw[Xy (by rw[ZY];apply v),YM v]
    show⟨[aA (.int (t:Int)),aA (gP g),aA (.lst (iL (Nx (la W) (Fx W g)))),aA (.lst ((Lb W).map pP))],rfl,xb (c2 rfl (o2 rfl rfl (WA (by rw[af,y];rfl))) ?_),λ_=>uJ (o2 (b:=pP [(t:Int)]) rfl rfl ?_)⟩
    ·change Hw 2 GQ _=_;show Yu (ret (ep (o2 (o2 rfl (o2 rfl rfl rfl) (w _ lt.1)) (o2 rfl (o2 rfl rfl rfl) (w _ lt.2)) ?_)));simp
     lia
    ·rw[Q5 (by let:=z g p;simp[Hr];lia)];simp[Hr]
  ·change _=st (aA (.lst ((KP (eW W) (a.take (i+1))).map gP))) _ _ _;rw[IA,bO];rfl)
 show Yu (sq rfl (sq f1 (ret ?_)));change acc (a.map gP).length=_;simp[acc]
def bn8:∀k,k<=8->∀s,s<=6->bn k s<=300:=by decide +kernel
def yf{W:Iz}(ok:Zu W)(k:Iy W)(d:la (eW W)<=8){m:Int}(p:((B2 (eW W) (la W-1)).length:Int)<=m):Jm [wP W,.int m]=aA (.lst ((B2 (eW W) (la W-1)).map gP)):=by
 let o:=ok.lF;let e:=O2 ok k;let' st:=λh a=>[aA (wP W),aA (.int m),aA (.lst ((Lb W).map pP)),h,a]
 let⟨n,f1,a,rfl⟩:=UE (T:=.one 4) (fb:=Hs 3 (BO JR [Dz 0,Dz 2,Dz 3])) (ls:=D7 1 (la W-1)) (λi s=>∃a,s=st (aA (.lst ((B2 (eW W) i).map gP))) a) ⟨aB,rfl⟩ (by
  ext i l s f ⟨a,rfl⟩;let⟨q,rfl⟩:=kP f;let c:=Wb (eW W) i;show⟨_,_,rfl,Zl (c3 rfl rfl rfl (Zcd ok (λg b t j=>(c g b).1.lt t j) ?_ λg b=>by rw[(c g b).2];lia)),_,rfl⟩;change(B2 (eW W) (i+1)).length<=_;rw[Wn];let:=OM (eW W) id (i+1);let:=bn8 _ d (i+1) ()
  lia)
 rw[U8] at f1;show Yu (sq (Qv (xb (o2 (c1 rfl e) rfl (show aA (PV.Iv (decide (m<((B2 (eW W) (la W-1)).length:Int))))=_ by rw[decide_eq_false ()])))) (sq (Zl (c1 rfl (Wm ok).1)) (sq rfl (sq (s1:=st (aA (.lst ((B2 (eW W) (la W-1)).map gP))) a) ?_ (ret rfl)))));rw[vK,RD rfl (c1 rfl (by rw[oS,aK])) ⟨(),()⟩ ⟨(),()⟩,show((la W:Int)-1).toNat=la W-1 by lia];apply f1
def Zm0{W:Iz}:∀{g:Iw},Gv (eW W) g->l4 (la W) (K9 (eW W) id g) ((g.map (M0 (eW W))).map Bq):=by
 let c:∀(k:Nat)(g:Iw),g.length=k->Gv (eW W) g->l4 (la W) (K9 (eW W) id g) ((g.map (M0 (eW W))).map Bq):=by
  ext k
  induction k with
  | zero=>
   ext g h _;rw[bY.mp h];apply l4.start _
  | succ k E2=>
   ext g h a;rcases Rc g with rfl | ⟨l,t,rfl⟩
   ·simp at h
   let f:l.length=k:=by simpa using h
   let e:Gv (eW W) l:=⟨λx b=>a.lt x (aj _ b),(eI.mp a.vJ).1,λi x b=>by
    let m:=(aS.mp b).1;let:=a.xH i x (by rw[bM m];apply b);rw[eu ()] at this;apply this⟩
   let d:=a.xH l.length t ⋯;rw[ju rfl] at d;let j:=a.lt t ⋯;let lt:=Xr _ (O4 j);let:=(E2 l f e).step lt.2 lt.1 (λz=>d z.symm);rw[RU,bO,bO];apply this
 apply λ{g} a=>c (la g) g rfl a
def QY{W:Iz}(ok:Zu W){g:Iw}(b:Gv (eW W) g)(i:la g+1=la W){q:Fh}(c:∀t∈g,q (M0 (eW W) t).1=q (M0 (eW W) t).2):∀x,x<la W->q x=q 0:=
 ho (Zm0 b) ok.pos (by rw[aK,aK];lia) λe a=>by let⟨f,d,rfl⟩:=a9.mp a;let⟨t,h,rfl⟩:=a9.mp d;apply(c t h).symm
def VR{W:Iz}(ok:Zu W){g:Iw}(lt:∀t∈g,t<la (eW W))(a:g.Pairwise (· < ·))(r:la g+1=la W)(o:∀q:Nat->Nat,(∀t∈g,q (M0 (eW W) t).1=q (M0 (eW W) t).2)->∀x,x<la W->q x=q 0):Gv (eW W) g:=by
 show⟨lt,a,λi t d=>?_⟩;let j:=(aS.mp d).1;let c:g=g.take i++t::g.drop (i+1):=by let e:=(aS.mp d).2;rw[<-e,<-j8 j,jF]
 let h:∀e∈(g.map (M0 (eW W))).map Bq,e.1<la W/\e.2<la W:=λe n=>by let⟨f,k,rfl⟩:=a9.mp n;let⟨u,b,rfl⟩:=a9.mp k;let p:=lt u b;let l:=O4 p;let:=Xr _ l;apply⟨this.2,this.1⟩
 let m:((g.map (M0 (eW W))).map Bq).map Bq=g.map (M0 (eW W)):=by
  rw[bR]
  conv=>rhs;rw[<-kG (g.map (M0 (eW W)))]
  apply az λ_ _=>rfl
 let:=Zfv (A:=((g.take i).map (M0 (eW W))).map Bq) (B:=((g.drop (i+1)).map (M0 (eW W))).map Bq) (e:=Bq (M0 (eW W) t)) ok.pos h (by rw[aK,aK];lia) (by
  rw[m]
  apply o _ λu b=>S8 _ (jc b)) (by
  conv=>lhs;rw[c]
  dsimp[bO,aa])
 rw[O3];apply λz=>this z.symm
def O5{T:List Zm}:∀{k:Nat}{g:Iw},g.length=k->Gv T g->g∈B2 T k
 | 0,g,h,_=>by rw[bY.mp h];simp[B2]
 | k+1,g,h,gv=>by
  rcases Rc g with rfl | ⟨l,t,rfl⟩
  ·simp at h
  let d:l.length=k:=by simpa using h
  let c:Gv T l:=⟨λx a=>gv.lt x (aj _ a),(eI.mp gv.vJ).1,λi x a=>by
   let j:=(aS.mp a).1;let:=gv.xH i x (by rw[bM j];apply a);rw[eu ()] at this;apply this⟩
  let b:=gv.xH l.length t ⋯;rw[ju rfl] at b;let m:=gv.lt t ⋯;change l++[t]∈KP T (B2 T k);show gE.mpr ⟨l,O5 d c,a9.mpr ⟨t,?_,rfl⟩⟩;delta Ga
  let f:Ak l<=t:=by
   rcases kc l with e | ⟨r,u,e⟩
   ·rw[e];apply dH _
   ·rw[e,jG,XZ];let:=(eI.mp gv.vJ).2.2 u (by rw[e,jG];simp) t ⋯
    lia
  rw[dM,mj];apply⟨⟨f,()⟩,by dsimp[jL,decide_eq_false_iff_not];apply b⟩
section
variable {E:List Zm}{n b m:Nat}{s:WS}{φ:Hf}{g:Iw}
def R3:∀{m:Nat}{s:WS}{x:E_},x∈(BY E φ m s).B->x∈s.B\/KN E s.L x.2.1+1<=x.2.2
 | 0,s,x,h=>.inl h
 | m+1,s,x,h=>by
  delta BY at h;split at h
  ·rename_i k a;rcases R3 (s:=DI E φ s k) h with z | z
   ·delta DI at z;split at z
    ·rcases ag.mp z with y | y
     ·apply .inl y
     ·rw[aO.mp y];apply .inr (by rw[Wi (UY a).2.1];apply aZ _)
    ·apply .inl z
   ·rw[RX] at z;show .inr (cA (Nat.succ_le_succ ?_) z);delta KN;rw[qY,aq]
    lia
  ·apply .inl h
def SN{D:Fp}(g:∀e∈E,e.1<n/\e.2<n):∀{m:Nat}{s:WS},dB E n b s->(∀x∈(BY E φ m s).B,(x.2.2:Int)=D x.2.1+1)->(∀h,h<n->h∈(BY E φ m s).F)->BY E (Lw D) m s=BY E φ m s
 | 0,s,_,_,_=>rfl
 | m+1,s,i,hD,all=>by
  let f:=dB.walk (φ:=φ) (m:=m+1) g i;delta BY at hD all f ⊢
  cases z:Nh E s.L s.F with
  | none=>rfl
  | some k=>
   rw[z] at hD all f;simp only at hD all f ⊢;let⟨k1,k2,_⟩:=YO z;let⟨p,B,o,C,A⟩:=UY z;let u:=O4 (E:=E) k1
   let lt:Hz E s.F k<n:=by
    let:=g _ u;rcases A with y | y<;>rw[y] at this
    ·apply this.2
    ·apply this.1
   let same:DI E (Lw D) s k=DI E φ s k:=by
    by_cases c:φ k (Hz E s.F k) (KN E (s.L++[k]) (Hz E s.F k))=aD
    ·let d:(k,Hz E s.F k,KN E (s.L++[k]) (Hz E s.F k))∈(DI E φ s k).B:=by delta DI;rw[Be c];simp
     let:=hD _ (RZ d);simp only at this;delta DI;let j:Lw D k (Hz E s.F k) (KN E (s.L++[k]) (Hz E s.F k))=aD:=decide_eq_true ();rw[Be c,Be j]
    ·let r:=all _ lt;rw[f.hB] at r;let l:(DI E φ s k).B=s.B:=by delta DI;rw[Fb c]
     rcases aW.mp r with y | y
     ·apply absurd (y▸(by rw[i.hB];simp:b∈s.F)) p
     ·let⟨x,d,a⟩:=a9.mp y;let a:x.2.1=Hz E s.F k:=a;let v:=hD x d;rcases R3 d with w | w
      ·rw[l] at w;let t:Hz E s.F k∈b::s.B.map (·.2.1):=aR _ (a9.mpr ⟨x,w,a⟩);apply absurd (i.hB.symm▸t) p
      ·rw[RX,a] at w;rw[a] at v;delta DI;rw[Fb c,Fb]
       apply λq=>by
        let:=of_decide_eq_true q
        lia
   rw[same];apply SN g (i.step g z) hD all
structure uk(E:List Zm)(g:Iw)(s:WS):Prop where
 two:∀k∈s.L,k∈g->(M0 E k).1∈s.F/\(M0 E k).2∈s.F
 sub:∀x∈s.B,x.1∈g
def uk.walk:∀{m:Nat}{s:WS},uk E g s->uk E g (BY E (λk _ _=>decide (k∈g)) m s)
 | 0,s,i=>i
 | m+1,s,i=>by
  delta BY;split
  ·rename_i k l;show uk.walk ?_;let⟨p,n,o,b,e⟩:=UY l;delta DI;by_cases q:k∈g
   ·rw[Be (decide_eq_true q)];show⟨λj d a=>?_,λx f=>?_⟩
    ·rcases ag.mp d with y | y
     ·let:=i.two j y a;apply⟨aj _ this.1,aj _ this.2⟩
     ·rw[aO.mp y];let b:o∈s.F++[Hz E s.F k]:=aj _ b;let c:Hz E s.F k∈s.F++[Hz E s.F k]:=⋯
      generalize Hz E s.F k=h at e b c;rcases e with y | y<;>rw[y]
      ·apply⟨b,c⟩
      ·apply⟨c,b⟩
    ·rcases ag.mp f with y | y
     ·apply i.sub x y
     ·rw[aO.mp y];apply q
   ·rw[Fb (~~~q)];show⟨λj d a=>?_,i.sub⟩;rcases ag.mp d with y | y
    ·apply i.two j y a
    ·rw[aO.mp y] at a;apply absurd a q
  ·apply i
end
structure qa(W:Iz)(s:WS):Prop where
 lk:∀k∈s.L,(M0 (eW W) k).1∈s.F\/(M0 (eW W) k).2∈s.F
 lF:∀i x,s.B[i]?=aA x->(x.2.2:Int)<=B7 W x.2.1 (s.F.take (i+1))
def Zce{W:Iz}(ok:Zu W){L F:Iw}(l:L.Nodup)(lt:∀k∈L,k<la (eW W))(b:F.Nodup)(d:∀h∈F,h<la W)(r:∀k∈L,(M0 (eW W) k).1∈F\/(M0 (eW W) k).2∈F){h:Nat}(n:h<la W)(f:h∉F):(KN (eW W) L h:Int)<=B7 W h F:=by
 rw[<-OZ ok n b λo i=>⟨d o i,λz=>f (z▸i)⟩]
 let sub:∀x∈L.filter (E8 (eW W) h),x∈(aQ (la (eW W))).filter (Ju (eW W) h F):=λx j=>by
  let⟨e,c⟩:=dM.mp j;show dM.mpr ⟨av.mpr (lt x e),?_⟩;let p:=lt x e;let m:=O4 p;let s:=(rU _ m).1;let a:=r x e;delta E8 at c;dsimp[ig,decide_eq_true_eq] at c;show iM.mpr ?_;delta Ds;by_cases q:h=(M0 (eW W) x).1
  ·rcases a with y | y
   ·apply absurd (q▸y) f
   ·apply⟨_,y,decide_eq_true (by rw[Be (),q])⟩
  ·let g:=c.resolve_left q;rcases a with y | y
   ·apply⟨_,y,decide_eq_true (by rw[Fb (),g])⟩
   ·apply absurd (g▸y) f
 let:=Tn (l.filter _) sub;rw[ip];delta KN
 lia
def qa.walk{W:Iz}(ok:Zu W){b:Nat}{φ:Hf}:∀{m:Nat}{s:WS},dB (eW W) (la W) b s->qa W s->qa W (BY (eW W) φ m s)
 | 0,s,_,i=>i
 | m+1,s,Dm,i=>by
  delta BY;split
  ·rename_i k d;show qa.walk ok (Dm.step Xr d) ?_;let⟨k1,k2,_⟩:=YO d;let⟨r,t,o,g,e⟩:=UY d;let l:=O4 (E:=(eW W)) k1
   let lt:Hz (eW W) s.F k<la W:=by
    let:=Xr _ l;rcases e with y | y<;>rw[y] at this
    ·apply this.2
    ·apply this.1
   let f:∀j∈s.L++[k],(M0 (eW W) j).1∈s.F\/(M0 (eW W) j).2∈s.F:=λj c=>by
    rcases ag.mp c with y | y
    ·apply i.lk j y
    ·rw[aO.mp y];generalize Hz (eW W) s.F k=h at e;rcases e with y | y<;>rw[y]
     ·apply .inl g
     ·apply .inr g
   delta DI;split
   ·show⟨λj c=>?_,λj x a=>?_⟩
    ·rcases f j c with y | y
     ·apply .inl (aj _ y)
     ·apply .inr (aj _ y)
    ·let p:s.F.length=s.B.length+1:=by rw[Dm.hB];simp
     by_cases q:j<s.B.length
     ·rw[bM q] at a;rw[eu ()];apply i.lF j x a
     ·let n:=(aS.mp a).1;rw[aq,bu] at n;have:j=s.B.length:=()
      subst this;rw[bc (aZ _),Nat.sub_self] at a;let a:=bG a;subst a;rw[show s.B.length+1=s.F.length from p.symm,ju rfl];show Zce ok (YY Dm.ym k2) (λj c=>?_) Dm.ur Dm.uT f lt r;rcases ag.mp c with y | y
      ·apply Dm.wH j y
      ·rw[aO.mp y];apply k1
   ·apply⟨f,i.lF⟩
  ·apply i
def qa.start(W:Iz)(b:Nat):qa W (FN b):=⟨λk c=>by simp[FN] at c,λi x a=>by simp[FN] at a⟩
structure Dw(W:Iz)(b:Nat)(D:E1):Prop where
 len:la D=la W
 base:BR D b=0
 set:∃F,i_ W b D F
def NK(W:Iz)(b:Nat)(g:Iw):List Int:=F6 (BY (eW W) (λk _ _=>decide (k∈g)) (la (eW W)) (FN b)).B (ak (la W) 0)
def Oa{l:E1}{i:Nat}{v:Int}(h:l[i]?=aA v):BR l i=v:=by delta BR;rw[aP,h];rfl
def Wo{W:Iz}(ok:Zu W){b:Nat}(l:b<la W){g:Iw}(A:Gv (eW W) g)(O:la g+1=la W):Dw W b (NK W b g)/\NB W (NK W b g) b=g:=by
 delta NK NB NU;generalize hs:BY (eW W) (λk _ _=>decide (k∈g)) (la (eW W)) (FN b)=s;let d:dB (eW W) (la W) b s:=by rw[<-hs];apply dB.walk Xr (dB.start l)
 let E:uk (eW W) g s:=by rw[<-hs];apply uk.walk ⟨λk p=>by simp[FN] at p,λx a=>by simp[FN] at a⟩
 let P:qa W s:=by rw[<-hs];apply qa.walk ok (dB.start l) (qa.start W b)
 let N:Nh (eW W) s.L s.F=aB:=by rw[<-hs];apply S7 Xr (dB.start l) ⋯
 let L:b∈s.F:=by rw[d.hB];simp
 let all:=λh f=>by
  let o:=QY ok A O (q:=λx=>if x∈s.F then 1 else 0) λt I=>by
   by_cases q:t∈s.L
   ·let:=E.two t q I;dsimp[this.1,this.2]
   ·let:=ZZ N (A.lt t I) q;dsimp[this]
  let r:=o h f;let G:=o b l;dsimp[L] at G;rw[<-G] at r;by_cases q:h∈s.F
  ·apply q
  ·simp[q] at r
 let v:(s.B.map (·.2.1)).Nodup:=by let:=d.ur;rw[d.hB] at this;apply(au.mp this).2
 let R:=λx a e=>by let:=d.ur;rw[d.hB] at this;apply(au.mp this).1 (a9.mpr ⟨x,a,e⟩)
 let m:=λx a=>d.uT _ (by rw[d.hB];apply aR _ (a9.mpr ⟨x,a,rfl⟩));let' D:=F6 s.B (ak (la W) 0);let J:D.length=la W:=by change(F6 _ _).length=_;rw[Ra,cP]
 let y:∀x∈s.B,(x.2.2:Int)=BR D x.2.1+1:=λx a=>by let:=Oa (Zt (c:=ak (la W) 0) v a (by rw[cP];apply m x a));rw[this];lia
 let T:BR D b=0:=Oa (by change(F6 _ _)[b]?=_;rw[Rb R,c0,Be l]);let same:BY (eW W) (Lw (BR D)) (la (eW W)) (FN b)=s:=by rw[<-hs];apply SN Xr (dB.start l) (by rw[hs];apply y) (by rw[hs];apply all)
 let one:∀h,h<la W->h≠b->∃(i:Nat) (x:E_),s.B[i]?=aA x/\x.2.1=h:=λh f j=>by
  let:=all h f;rw[d.hB] at this;rcases aW.mp this with z | z
  ·apply absurd z j
  ·let⟨x,a,w⟩:=a9.mp z;let⟨i,S,e⟩:=dJ a;apply⟨i,x,by rw[aI S,e],w⟩
 show⟨⟨J,T,?_⟩,?_⟩
 ·let⟨F,_,B,IA⟩:=W4 ok J l
  let sub:∀k,k<=s.B.length->∀h∈s.F.take (k+1),h∈F:=by
   ext k
   induction k with
   | zero=>
    ext _ h f;rw[d.hB] at f;rw[show h=b by simpa using f];apply aw B.hd
   | succ k u=>
    ext p h f;let u:=u ();rw[jU] at f;rcases ag.mp f with z | z
    ·apply u h z
    ·obtain⟨x,a⟩:∃x,s.B[k]?=aA x:=⟨_,aI ()⟩;let H:h=x.2.1:=by rw[d.hB,nO,af,a] at z;simpa using z
     let n:h<la W:=by rw[H];apply m x (aw a)
     by_cases q:h∈F
     ·apply q
     ·let U:=OT IA n q;let Z:=U1 ok n (d.ur.sublist (gm _ _)) u B.lt;let M:=P.lF k x a;let C:=y x (aw a);rw[<-H] at M C
      lia
  show⟨F,λh f j=>?_,B,IA,λh f=>?_⟩
  ·let⟨i,x,a,w⟩:=one h f j;let C:=y x (aw a);rw[w] at C;let:=R3 (by rw[hs];apply aw a);rcases this with z | z
   ·simp[FN] at z
   ·change 0<=BR D h
    lia
  ·let Y:s.F.length=s.B.length+1:=by rw[d.hB];simp
   let:=sub s.B.length (aZ _) h;rw[cK ()] at this;apply this (all h f)
 ·change Fz ((BY (eW W) (Lw (BR D)) (la (eW W)) (FN b)).B.map (·.1))=g;rw[same];let X:=Xi d all
  let Q:=UH d.yn (λk p=>by
   let⟨x,a,rfl⟩:=a9.mp p;apply E.sub x a) (by rw[aK];lia)
  delta Fz;let r:Hr g=sortI (Hr (s.B.map λx=>x.1)):=kn (Q.symm.map _) (dU.mpr (A.vJ.imp λh=>()));rw[<-r];delta Hr;rw[bR]
  conv=>rhs;rw[<-kG g]
  apply az λx _=>fV x
def i_.len{W:Iz}{b:Nat}{D:E1}{F:Iw}(s:i_ W b D F):la F=la W:=by
 let d:=s.ny.len;let c:=Tn (l:=aQ (la W)) (m:=F) gD λx a=>s.all x (av.mp a);rw[b8] at c
 lia
def V_{W:Iz}(ok:Zu W){b:Nat}(l:b<la W){D:E1}(st:Dw W b D):NK W b (NB W D b)=D/\Gv (eW W) (NB W D b)/\(NB W D b).length+1=la W:=by
 let⟨F,j⟩:=st.set;let p:=j.len;let a:dB (eW W) (la W) b (NU W D b):=dB.walk Xr (dB.start l);let u:h_ (eW W) (la W) (BR D) (NU W D b):=h_.walk Xr (h_.start j.free);let all:=Zcb ok l j.ny p j.free;let g:=YI ((NU W D b).B.map (·.1));let n:=Xi a all;let lt:(NB W D b).length+1=la W:=by change(Fz _).length+1=_;rw[g.length_eq,aK];apply n
 show⟨?_,VR ok (λt s=>?_) ?_ lt λq o x c=>?_,lt⟩
 ·delta NK;rw[q6,Zcc st.len a u all];have:D[b]?=aA 0:=by let v:=st.len;let k:=st.base;rw[aI ()];delta BR at k;rw[aP,aI ()] at k;apply congrArg aA k
  apply((gq));ext i;rw[bw];split
  ·rename_i e;subst e;rw[Be (by let:=st.len;lia),this]
  ·rfl
 ·let⟨x,c,rfl⟩:=a9.mp (g.mem_iff.mp s);apply a.wH _ (a.Iv x c)
 ·let m:=g.nodup_iff.mpr a.yn;let f:=VG (Hr ((NU W D b).B.map (·.1)));rw[<-WR] at f;let f:=dU.mp f
  apply(f.and m).imp λh=>by
   lia
 ·let d:=λx c=>a.cn q (λy r=>o y.1 (g.mem_iff.mpr (a9.mpr ⟨y,r,rfl⟩))) x (all x c);apply(d x c).trans (d 0 ok.pos).symm
def FX(W:Iz)(b:Nat):List (List Int):=(B2 (eW W) (la W-1)).map (NK W b)
def O6{W:Iz}(ok:Zu W){b:Nat}(a:b<la W){D:E1}:D∈FX W b↔Dw W b D:=by
 delta FX;rw[a9];constructor
 ·ext⟨g,c,rfl⟩;let⟨f,i⟩:=Wb _ _ g c;apply(Wo ok a f ()).1
 ·ext st;let⟨e,d,h⟩:=V_ ok a st;apply⟨_,O5 () d,e⟩
def Zki{c:Lm}(h:c.Pairwise IH):c.Nodup:=h.imp λ{a b} q e=>by
 subst e
 induction a with
 | nil=>apply q
 | cons x r E2=>rcases q with q | q;apply cO _ q;apply E2 q.2
def Vb{W:Iz}(ok:Zu W){b:Nat}(f:b<la W):(FX W b).Nodup:=by let d:=Wb (eW W) (la W-1);let i:=Zki (Qp (eW W) (la W-1));show dU.mpr ?_;let two:(B2 (eW W) (la W-1)).Pairwise λa c=>a∈B2 (eW W) (la W-1)/\c∈B2 (eW W) (la W-1):=List.pairwise_iff_forall_sublist.mpr λ{a c} hs=>⟨hs.subset ⋯,hs.subset ⋯⟩;show(i.and two).imp λ{a c} h e=>h.1 ?_;let⟨g,j⟩:=d a h.2.1;let⟨c1,c2⟩:=d c h.2.2;rw[<-(Wo ok f g ()).2,<-(Wo ok f c1 ()).2,e]
def Kf(W:Iz)(T:E1):Prop:=∃g,T=Hr g/\Gv (eW W) g/\g.length+1=la W
section
variable {W:Iz}{T:E1}{K:Iw}
def Zm1(h:∀t∈T,0<=t):T=Hr (T.map jD):=by
 delta Hr;rw[bR]
 conv=>lhs;rw[<-kG T]
 show az λt a=>?_;let:=h t a;change t=((t.toNat:Nat):Int)
 lia
def Zm2{g:Iw}(e:Hr K=Hr g):K=g:=by let:=congrArg (List.map jD) e;simpa [Hr,ma] using this
def Zcf:∀{l acc:E1},acc.Nodup->(l.foldl KW acc).Nodup
 | [],_,h=>h
 | k::l,acc,h=>Zcf (l:=l) (by
  delta KW;split
  ·apply h
  ·rename_i q;apply YY h q)
def rb:Hr K=sortI (Fy K)↔K.Pairwise (· < ·):=by
 constructor
 ·ext h;let a:=VG (Fy K);let b:=(sortI_perm (Fy K)).nodup_iff.mpr (Zcf cC);rw[<-h] at a b
  apply((dU.mp a).and (dU.mp b)).imp λh=>by
   lia
 ·ext h;let e:Fy K=Hr K:=RG (dU.mpr (h.imp λz=>()));rw[e];apply kn (kR _) (dU.mpr (h.imp λz=>()))
def Zcg(ok:Zu W)(d:∀k∈K,k<la (eW W))(b:la K+1=la W):(Hr K=sortI (Fy K)/\CB W K=1)↔Gv (eW W) K:=by
 constructor
 ·ext⟨hs,i⟩;let one:=Zkd i ok.pos;show VR ok d (rb.mp hs) b λq j x a=>OR (λe m=>?_) (λx y _ _ e=>congrArg q e) x 0 a ok.pos (one x a);let⟨f,h,rfl⟩:=a9.mp m;let⟨k,c,rfl⟩:=a9.mp h;let:=Xr _ (O4 (d k c));apply⟨(j k c).symm,this.2,this.1⟩
 ·ext g;apply⟨rb.mpr g.vJ,Zke ok.pos (QY ok g b λt l=>(S8 (Bq (M0 (eW W) t)) (jc (jc l))).symm)⟩
def WW(ok:Zu W)(o:la (eW W)<=32)(w:la T<=30):∃v,JW [wP W,pP T]=aA (.Iv v)/\(v=aD↔Kf W T):=by
 let u:=ok.lF
 let d:HK (xB (DA (KD aD) (BO M5 [Dz 1]) (DA Tq (BO M5 [Dz 0]) (DB (.int 1))))) (HR (xB (BO K4 [HC 1 [2] (Nk (Dz 1)) (.one 0) Ac (Gg oLe Ah (DB (.int 0)) (Dz 0) (BO M5 [Dz 1]))]))) [aA (wP W),aA (pP T),aA (.lst ((Lb W).map pP))]=aA (!(decide ((la T:Int)=(la W:Int)-1)&&T.all λt=>decide (0<=t)&&decide (t<(la (eW W):Int)))):=by
  show(xo (xb (o2 (a:=.int (la T:Int)) (c1 rfl ?_) (uR (c1 rfl Qn) rfl) (Zi8 ..))) (xn (xb (c1 (a:=.lst ((T.map λt=>decide (0<=t)&&decide (t<(la (eW W):Int))).map PV.Iv)) ((Z2 T PV.int (λt=>.Iv (decide (0<=t)&&decide (t<(la (eW W):Int)))) (PJ rfl) () λt f=>⟨_,rfl,rfl,?_⟩).trans ?_) (VE _))))).trans ?_
  ·change aA (PV.int ((iL T).length:Int))=_;rw[aK]
  ·change((aA (PV.Iv (decide ((0:Int)<=t)))).bind Eu).bind (λk=>if k=aD then aA (PV.Iv (decide (t<(((Lb W).map pP).length:Int)))) else aA (.Iv aC))=_;rw[aK,<-Sb];by_cases q:(0:Int)<=t
   ·rw[decide_eq_true q];rfl
   ·rw[decide_eq_false q];rfl
  ·rw[bR];rfl
  ·rw[mC,Bool.not_and];rfl
 let j:∀{p:Bool},(p=aD↔la T+1=la W/\∀t∈T,0<=t/\t<(la (eW W):Int))->(decide ((la T:Int)=(la W:Int)-1)&&T.all λt=>decide (0<=t)&&decide (t<(la (eW W):Int)))=p:=λh=>by
  rw[jr,h];dsimp[aX,decide_eq_true_eq,bK];apply and_congr_left λ_=>()
 by_cases c:la T+1=la W/\∀t∈T,0<=t/\t<(la (eW W):Int)
 ·rw[j ⟨λ_=>c,λ_=>rfl⟩] at d;let⟨l,c2⟩:=c;let m:=Zm1 λt f=>(c2 t f).1;generalize T.map jD=K at m;subst m
  let i:∀k∈K,k<la (eW W):=λk b=>by
   let:=(c2 (k:Int) (jc b)).2
   lia
  let n:la K+1=la W:=by simpa [Hr] using l
  show⟨decide (Hr K=sortI (Fy K))&&decide ((CB W K:Int)=1),Uj (ZD (Zl (c1 rfl (Wm ok).1)) (ZD (Qv d) (W6 (ep (ea (o2 (c1 rfl (Be (Xu _))) (vB rfl (Zkc (λk b=>by let:=i k b;lia) ())) (Zi9 ..)) (kV (vB (c3 rfl rfl rfl (Xe ok i)) ?_) rfl))) rfl))),?_⟩
  ·change(F2 (iL (Nx (la W) (Fx W K)))).bind (λns=>if ns.length<=1000 then aA (PV.int ((ns.foldl gO []).length:Int)) else aB)=_;rw[Yl,aY,Be (by rw[ZY];lia)];rfl
  ·rw[aX,decide_eq_true_eq,decide_eq_true_eq,show(CB W K:Int)=1↔CB W K=1 by lia,Zcg ok i n];apply⟨λh=>⟨K,rfl,h,n⟩,λ⟨g,e,h,_⟩=>by rw[Zm2 e];apply h⟩
 ·rw[j (p:=aC) ⟨λz=>(by cases z),λz=>absurd z c⟩] at d;show⟨aC,Uj (ZD (Zl (c1 rfl (Wm ok).1)) (Zg2 d (W6 (ep rfl) rfl))),⟨λz=>(by cases z),?_⟩⟩;ext⟨g,rfl,r,s⟩;show absurd ⟨by simpa [Hr] using s,λt f=>?_⟩ c;let⟨k,b,rfl⟩:=a9.mp f;let:=r.lt k b
  lia
def z_{l:E1}{k:Int}(b:la l<=1000):Js [pP l,.int k]=aA (.Iv (decide ((la l:Int)=k))):=by
 show Yu (ret (ep ((ea rfl (ea (p2:=aD) (kV (a:=(la l:Int)) (c1 rfl ?_) rfl) (c1 (a:=.lst ((l.map λ_=>aD).map PV.Iv)) ((Z2 l PV.int (λ_=>.Iv aD) (PJ rfl) () λi c=>⟨_,rfl,rfl,c1 rfl (Sy i)⟩).trans ?_) ?_))).trans ?_)))
 ·change aA (PV.int ((iL l).length:Int))=_;rw[aK]
 ·rw[bR];rfl
 ·rw[VE];simp
 ·rw[Bool.and_true,tK]
end
def Kt(W:Iz)(D:E1)(L:Iw)(h:Nat):List Nat:=if h∉L/\BR D h<B7 W h L then L++[h] else L
structure vx(W:Iz)(b:Nat)(F L:Iw):Prop where
 E3:L.Nodup
 sub:∀x∈L,x∈F
 IF:b∈L
def vx.step{W:Iz}(ok:Zu W){D:E1}{b h:Nat}{F L:Iw}(B:f_ W D b F)(e:Lf W D F=aB)(i:vx W b F L)(a:h<la W):vx W b F (Kt W D L h):=by
 delta Kt;split
 ·rename_i q
  let c:h∈F:=by
   by_cases z:h∈F
   ·apply z
   ·let g:=OT e a z;let f:=U1 ok a i.E3 i.sub B.lt
    lia
  show⟨YY i.E3 q.1,λx d=>?_,aj _ i.IF⟩;rcases ag.mp d with z | z
  ·apply i.sub x z
  ·rw[aO.mp z];apply c
 ·apply i
def Ug{W:Iz}{D:E1}{L:Iw}{h x:Nat}(a:x∈L):x∈Kt W D L h:=by
 delta Kt;split
 ·apply aj _ a
 ·apply a
def Zf6{W:Iz}(ok:Zu W){D:E1}{b h:Nat}{F L G:Iw}(B:f_ W D b F)(i:vx W b F L)(d:h<la W)(c:G.Nodup)(sub:∀x∈G,x∈L)(lt:BR D h<B7 W h G):h∈Kt W D L h:=by
 delta Kt;let e:=U1 ok d c sub λx a=>B.lt x (i.sub x a);by_cases z:h∈L
 ·rw[Fb (λq=>q.1 z)];apply z
 ·rw[Be ⟨z,()⟩];simp
def vx.len{W:Iz}{D:E1}{b:Nat}{F L:Iw}(B:f_ W D b F)(i:vx W b F L):la L<=la W:=Qq i.E3 λx a=>B.lt x (i.sub x a)
def W_{W:Iz}(ok:Zu W){D:E1}(C:la D=la W){b:Nat}{F:Iw}(B:f_ W D b F)(t:Lf W D F=aB):L6 [wP W,pP D,.int (b:Int)]=aA (.Iv (decide (la F=la W))):=by
 let A:=ok.lF;let m:=aw B.hd;let' st:=λL f d c=>[aA (wP W),aA (pP D),aA (.int (b:Int)),aA (.lst (iL (Hr L))),f,d,c];show Uj (ZD rfl (Wl (Qm (λi s=>∃L f d c,s=st L f d c/\vx W b F L/\∀x∈F.take (i+1),x∈L) (c1 rfl Qn) ⟨[b],aB,aB,aB,rfl,⟨⋯,λx a=>by rw[aO.mp a];apply m,⋯⟩,λx a=>?_⟩ ?_) ?_))
 ·let:=B.hd
  cases F with
  | nil=>simp at this
  | cons y r=>simp at this;subst this;simpa using a
 ·ext i s n ⟨w,f,d,c,rfl,o,v⟩;show V4 (Qm (λj s=>∃L d c,s=st L (aA (.int (i:Int))) d c/\vx W b F L/\(∀x∈F.take (i+1),x∈L)/\∀x,F[i+1]?=aA x->x<j->x∈L) (c1 rfl Qn) ⟨w,d,c,rfl,o,v,λx _ h=>()⟩ ?_) ?_
  ·ext j s k ⟨L,d,c,rfl,e,g,l⟩;let G:=e.len B;show Yr (Zl (ep (sl ok k (λx a=>B.lt x (e.sub x a)) () rfl rfl rfl))) (V4 (R:=λs=>s=st (Kt W D L j) (aA (.int (i:Int))) (aA (.int (j:Int))) (aA (.int (B7 W j L)))) (rI (xa (xb (o2 rfl rfl (gI j L))) (xb (o2 (o2 rfl rfl (Xy ())) rfl rfl))) (λq=>nT (gw (ep rfl) rfl ()) ?_) λq=>nT rfl ?_) ?_)
   ·dsimp[aX,jL,decide_eq_false_iff_not,decide_eq_true_eq] at q;delta Kt;rw[Be q];rfl
   ·delta Kt;rw[Fb λz=>by dsimp[decide_eq_false z.1,decide_eq_true z.2] at q;cases q];rfl
   ·ext s rfl;show⟨_,_,_,rfl,e.step ok B t k,λx a=>Ug (g x a),λx a p=>?_⟩;by_cases q:x=j
    ·subst q;let n:=(aS.mp a).1;let st:=B.st (i+1) () n;rw[a] at st;apply Zf6 ok B e k (B.E3.sublist (gm _ _)) (λy u=>g y u) (V7 st).2.2
    ·apply Ug (l x a ())
  ·ext s ⟨L,d,c,rfl,e,g,l⟩;show⟨L,_,d,c,rfl,e,λx a=>?_⟩;rw[jU] at a;rcases ag.mp a with z | z
   ·apply g x z
   ·let a:F[i+1]?=aA x:=by simpa using z
    apply l x a (B.lt x (aw a))
 ·ext s ⟨L,f,d,c,rfl,e,tk⟩;let H:=B.len;rw[cK ()] at tk;let E:=Tn e.E3 e.sub;let p2:=Tn B.E3 tk;apply W6 (ep ((kV (c1 rfl Zjw) (c1 rfl Qn)).trans (by rw[show L.length=la F by lia,decide_eq_decide.mpr Int.ofNat_inj]))) rfl
def Zch{D:E1}{b:Nat}(n:b<la D):(if D.take b++D.drop (b+1)=[] then(0:Int) else Ef (D.take b++D.drop (b+1)))<0↔¬Lx D b=[]:=by
 let c:∀x,x∈D.take b++D.drop (b+1)↔∃h,h<la D/\h≠b/\BR D h=x:=λx=>by
  rw[ag,List.mem_take_iff_getElem,List.mem_drop_iff_getElem];let f:∀h,(k:h<la D)->BR D h=D[h]:=λh k=>by delta BR;rw[aP,aI k];rfl
  constructor
  ·ext(⟨i,m,e⟩ | ⟨i,m,e⟩)
   ·apply⟨i,(),(),by rw[f i (),e]⟩
   ·apply⟨b+1+i,(),(),by rw[f _ (),<-e]⟩
  ·ext⟨h,g,j,e⟩;rw[f h g] at e;by_cases q:h<b
   ·apply .inl ⟨h,(),e⟩
   ·show .inr ⟨h-(b+1),(),?_⟩;rw[<-e];congr 1;lia
 rw[XA];split
 ·rename_i h;show⟨λz=>(),λz=>?_⟩;exfalso;show z λx d a=>?_;let:=(c (BR D x)).mpr ⟨x,d,a,rfl⟩;rw[h] at this;simp at this
 ·rename_i h;let l:=RE h;constructor
  ·ext z y;let⟨x,g,j,e⟩:=(c _).mp l.1;let:=y x g j
   lia
  ·ext z;by_cases q:Ef (D.take b++D.drop (b+1))<0
   ·apply q
   ·show absurd (λx d a=>?_) z;let:=l.2 _ ((c (BR D x)).mpr ⟨x,d,a,rfl⟩)
    lia
def TX{W:Iz}(ok:Zu W){D:E1}(d:la D=la W){b:Nat}(f:b<la W){F:Iw}(B:f_ W D b F)(e:Lf W D F=aB):N8 [wP W,pP D,.int (b:Int)]=aA (.Iv (decide (Lx D b=[])&&decide (la F=la W))):=by
 let g:=ok.lF
 let a:K' (pP (D.take b++D.drop (b+1)))=aA (.int (if D.take b++D.drop (b+1)=[] then(0:Int) else Ef (D.take b++D.drop (b+1)))):=by
  change(F2 (iL (D.take b++D.drop (b+1)))).bind _=_;rw[Yl];dsimp[aY];split<;>rfl
 let c:=Zch (D:=D) (b:=b) ();show Yu (sq (Zl (uJ (o2 (VQ rfl rfl ()) (Yp rfl rfl ()) (Q5 (by rw[bz,fL];lia))))) ?_);by_cases q:Lx D b=[]
 ·rw[decide_eq_true q];apply sq (Qv (xb (o2 (vB rfl a) rfl (congrArg (λz=>aA (PV.Iv z)) (decide_eq_false λz=>c.mp z q))))) (ret (c3 rfl rfl rfl (W_ ok d B e)))
 ·rw[decide_eq_false q];apply z6 (zL (xb (o2 (vB rfl a) rfl (congrArg (λz=>aA (PV.Iv z)) (decide_eq_true (c.mpr q))))) (ret (ep rfl)))
section
variable {W:Iz}{b:Nat}{A B C D E R S:E1}{F:Iw}{v:Int}
def O7{g:Nat}(v:Int)(h:g≠b):BR (D.set b v) g=BR D g:=by delta BR;rw[aP,aP,dW (bN h)]
def SG(ok:Zu W)(s:b<la W)(i:Dw W b D){h:Nat}(g:h<la W):0<=BR D h/\BR D h<=63:=by
 let⟨F,c⟩:=i.set;by_cases e:h=b
 ·subst e;rw[i.base];apply⟨∅,∅⟩
 ·show⟨c.free h g e,?_⟩;let⟨k,m,ek⟩:=dJ (c.all h g);let d:F[k]?=aA h:=by rw[aI m,ek]
  let k0:k≠0:=λz=>by subst z;rw[c.ny.hd] at d;apply e (bG d).symm
  let st:=c.ny.st k () m;rw[d] at st;let lt:=(V7 st).2.2;let o:=c.ny.len;let n:=ok.lF
  have:∀l:List Nat,(∀x∈l,x<la W)->B7 W h l<=9*(la l:Int):=by
   ext l
   induction l with
   | nil=>ext _;apply fM 0
   | cons a r E2=>
    ext j;let q:=E2 λx f=>j x (by simp[f]);let p:=ok.E5 h a g (j a ⋯);have:B7 W h (a::r)=DD W h a+B7 W h r:=by delta B7;rw[aa,bj]
    rw[bB]
    lia
  let:=this (F.take k) λx f=>c.ny.lt x (eD f);rw[bz] at this
  lia
def Zm3:∀k,k<=8->∀s,s<=6->(3<s->k<=s+2)->bn k s<64:=by decide +kernel
def Uz(ok:Zu W)(v:Iy W)(f:b<la W)(i:la (eW W)<=8)(u:4<la W->la (eW W)<=la W+1){m:Int}(h:((B2 (eW W) (la W-1)).length:Int)<=m):AQ [wP W,.int (b:Int),.int m]=aA (.lst ((Li (FX W b)).map pP)):=by
 let y:=ok.lF;let t:(B2 (eW W) (la W-1)).length<64:=by rw[Wn];apply g6 (OM _ _ _) (Zm3 _ i _ () λq=>by let:=u ();lia)
 let n:=yf ok v i h;let s:=Vb ok f;let k:=λD=>O6 (D:=D) ok f
 let d:∀D∈FX W b,NC (la W) D=aD:=λD c=>by
  let st:=(k D).mp c;delta NC;dsimp[aX,decide_eq_true_eq,bK];show⟨st.len,λx o=>?_⟩;let⟨j,l,rfl⟩:=T7 o;let:=SG ok f st (by rw[<-st.len];apply l)
  lia
 show Yu (ret (c1 (a:=.lst ((FX W b).map pP)) ?_ ?_))
 ·delta FX;rw[bR];show Z2 (B2 (eW W) (la W-1)) gP (λg=>pP (NK W b g)) ?_ () λg z=>⟨_,rfl,rfl,c3 rfl rfl rfl (Qu ok f)⟩;change(BO Jm [Dz 0,Dz 2] _).bind LF=_;rw[c2 rfl rfl n];rfl
 ·change(Ce ((FX W b).map λp=>PV.tup (iL p))).bind _=_;rw[VP,aY]
  cases e:FX W b with
  | nil=>
   simp[Li]
  | cons D r=>
   let c:=d D (by rw[e];simp);let w:la D=la W:=by delta NC at c;dsimp[aX,decide_eq_true_eq] at c;apply c.1
   rw[Be];rw[<-e];show⟨by change((B2 _ _).map _).length<64;rw[aK];apply t,s,?_,bK.mpr ?_⟩
   ·rw[e];change 1<=la D;lia
   ·rw[show((FX W b).headD []).length=la W by rw[e];apply w];apply d
end
def ZN{f g h:Zm->Nat}:∀{l:List Zm},(∀p∈l,f p<=g p+h p)->(l.map f).sum<=(l.map g).sum+(l.map h).sum
 | [],_=>⋯
 | p::r,H=>by
  let b:=H p ⋯;let:=ZN (l:=r) λq a=>H q (by simp[a]);dsimp[aa,bj]
  lia
def D5(n:Nat)(M:Iz):Nat:=((Bo n).map λp=>(DD M p.1 p.2).toNat).sum
def Zm4(W:Iz):la (eW W)=D5 (la W) W:=by delta eW NZ D5;rw[iD];congr 1;show az λp _=>?_;rw[cP]
def Zf7{n:Nat}(d:n<=7){M:Iz}{e:Xs}(ok:ff n M)(h:e.1<e.2.1/\e.2.1<n/\1<=e.2.2/\e.2.2<=9):D5 n (Ar M e)<=D5 n M+e.2.2.toNat:=by
 let a:=ZN (f:=λp:Zm=>(DD (Ar M e) p.1 p.2).toNat) (g:=λp=>(DD M p.1 p.2).toNat) (h:=λp=>if p=(e.1,e.2.1) then e.2.2.toNat else 0) (l:=Bo n) λp hp=>by
  let:=i5.mp (hp);rw[OD ok h];by_cases q:e.1=p.1/\e.2.1=p.2
  ·rw[Be (t6 q.1.symm q.2.symm)];lia
  ·rw[Fb q];lia
 let b:=RV (f:=λp:Zm=>if p=(e.1,e.2.1) then e.2.2.toNat else 0) (Zbv n d) λq _ i=>Fb i
 let c:(if(e.1,e.2.1)∈Bo n then(if(e.1,e.2.1)=(e.1,e.2.1) then e.2.2.toNat else 0) else 0)<=e.2.2.toNat:=by
  split
  ·rw[Be rfl];apply aZ _
  ·lia
 rw[b] at a;apply cA a (pY c _)
def WQ{n:Nat}(d:n<=7):∀(l:List Xs)(M:Iz),(∀e∈l,e.1<e.2.1/\e.2.1<n/\1<=e.2.2/\e.2.2<=9)->ff n M->(D5 n (l.foldl Ar M):Int)<=(D5 n M:Int)+HF l
 | [],M,_,_=>by change(D5 n M:Int)<=(D5 n M:Int)+(0:Int);lia
 | e::r,M,Fg,hM=>by
  let c:=Fg e ⋯;let a:=Zf7 d hM c;let b:=WQ d r _ (λf h'=>Fg f (by simp[h'])) (hM.step c);rw[RP];change(D5 n (r.foldl Ar (Ar M e)):Int)<=_
  lia
abbrev Hk(n:Nat):List (List Int):=ak n (ak n 0)
def Z8{n a b:Nat}(c:a<n)(d:b<n):DD (Hk n) a b=0:=by delta DD FK BR;simp[c,d]
def Zci{n:Nat}{ts:List Xs}(ok:b0 n ts)(a:n<=7):(D5 n (HH n ts):Int)<=HF ts:=by
 let h:=WQ a ts (Hk n) ok.ok (ff.zero n)
 let z:D5 n (Hk n)=0:=by
  have:∀l:List Zm,(∀p∈l,p.1<n/\p.2<n)->(l.map λp=>(DD (Hk n) p.1 p.2).toNat).sum=0:=by
   ext l
   induction l with
   | nil=>ext _;rfl
   | cons p r E2=>
    ext H;let hp:=H p ⋯;rw[aa,bj,E2 λq b=>H q (by simp[b]),Z8 hp.1 hp.2];rfl
  apply this _ λp hp=>by
   let:=i5.mp (hp)
   lia
 let e:D5 n (HH n ts)=D5 n (ts.foldl Ar (Hk n)):=rfl
 lia
def fl(c:Int):∃n:Nat,1<=n/\n<=7/\L7 [.int c]=aA (.int (n:Int)):=by
 let b:M4 c 4:=PX () ();let a:M4 c 16:=PX () ();by_cases q:c/4%4=3
 ·show⟨(5+c/16%3).toNat,(),(),?_⟩;rw[show(((5+c/16%3).toNat:Nat):Int)=5+c/16%3 by lia];change Hw 1 Cu _=_;delta Cu;simp[Hw,Lg,b,a,q]
 ·show⟨(1+c%4).toNat,(),(),?_⟩;rw[show(((1+c%4).toNat:Nat):Int)=1+c%4 by lia];change Hw 1 Cu _=_;delta Cu;simp[Hw,Lg,b,q]
section
variable {W:Iz}{b:Nat}{D T:E1}
def uj{F:Iw}(a:la D<=1000)(c:LQ [wP W,pP D,.int (b:Int)]=aA (.lst (iL (Hr F)))):Gu [wP W,pP D,.int (b:Int)]=aA (.Iv (decide (((Lx D b).length:Int)=0)&&decide ((la F:Int)=(la W:Int)))):=
 let l1:∀L:List Nat,M5 [.lst (iL (Hr L))]=aA (.int (la L:Int)):=λL=>by change aA (PV.int ((iL (Hr L)).length:Int))=_;rw[aK];delta Hr;rw[aK]
 Yu (ret (ep (ea (kV (c1 (c2 rfl rfl (o' a)) (l1 _)) rfl) (kV (c1 (c3 rfl rfl rfl c) (l1 _)) (c1 rfl Qn)))))
def Rf(ok:Zu W)(f:la D=la W)(d:b<la W):∃v,Gu [wP W,pP D,.int (b:Int)]=aA (.Iv v)/\N8 [wP W,pP D,.int (b:Int)]=aA (.Iv v)/\(v=aD↔∃F,i_ W b D F):=by
 let k:=ok.lF;let⟨F,j,B,IA⟩:=W4 ok f d;let c:=uj () j;rw[decide_eq_decide.mpr (show((Lx D b).length:Int)=0↔Lx D b=[] by rw[<-bY];lia),decide_eq_decide.mpr (show(F.length:Int)=(la W:Int)↔F.length=la W by lia)] at c;show⟨_,c,TX ok f d B IA,?_⟩;rw[aX,decide_eq_true_eq,decide_eq_true_eq,XA];constructor
 ·ext⟨i,l⟩;show⟨F,λh a ne=>i h () ne,B,IA,λh a=>?_⟩;show eO λz=>?_
  let:=Qq (YY B.E3 z) λx g=>by
   rcases ag.mp g with y | y
   ·apply B.lt x y
   ·rw[aO.mp y];apply a
  rw[aq,bu] at this
  lia
 ·ext⟨G,st⟩;let e:=B.uniq st.ny IA st.stop;subst e;apply⟨λh a ne=>st.free h () ne,st.len⟩
end
def Zkj{s:ZG}{f g:XE}(q:f s=aA (.int 1))(a:g s=aA (.int 1)):xB (DA (KD aD) f g) s=aA aC:=xb (o2 q a ⋯)
def sp(m:Int):Gw [.Bs "TooMany" (.int m)]=aA (.int 4):=
 Uj (ZD (Zl rfl) (ZD (Zl rfl) (ZD (Zl rfl) (ZD (Qv ((xo (xn (xb rfl)) (Zkj rfl rfl)).trans rfl)) (W6 (ep rfl) rfl)))))
def nr{m:Int}(h:m.natAbs<2^100):JE (.int m)=aD:=by
 change decide (m.natAbs.log2<1920)=aD;rw[decide_eq_true_eq];by_cases q:m.natAbs=0
 ·rw[q];decide
 ·let:=(Nat.log2_lt q).mpr h
  lia
section
variable {W:Iz}{b:Nat}{m d:Int}
def Zcj(b:Eh [wP W]=aA (.int d))(a:m<d)(hs:m.natAbs<2^100):Ax [wP W,.int m]=aA (("TooMany" : tP),.int m):=by delta Ax;change LU _ _ _ [aA (wP W),aA (.int m),aB,aB,aB]=_;delta LU Gi;rw[show xB (DA KY (BO Eh [Dz 0]) (Dz 1)) [aA (wP W),aA (.int m),aB,aB,aB]=aA aD from xb (o2 (c1 rfl b) rfl (show aA (PV.Iv (decide (m<d)))=_ by rw[decide_eq_true a]))];change(match (if JE (.int m)=aD then aA (("TooMany" : tP),PV.int m) else aB) with | some c=>aA c | none=>_)=_;rw[Be (nr hs)]
def f'(c:Eh [wP W]=aA (.int d))(a:m<d)(hs:m.natAbs<2^100):N2 [wP W,.int (b:Int),.int m]=aA (("TooMany" : tP),.int m):=by delta N2;change(HE [Dz 0,Dz 2] [aA (wP W),aA (.int (b:Int)),aA (.int m)]).bind Ax=_;apply Zcj c a hs
def WH(hs:m.natAbs<2^100){s:ZG}(a:Dz 3 s=aA (.Bs "TooMany" (.int m)))(f:Dz 4 s=aA (.int m)) :
  FG (DW (K1 aD (Dz 3)) (DW (DA (KD aC) (BO Gw [Dz 3]) (DB (.int 4))) (DW (BO Gm [AK "TooMany" (Dz 3)]) (DA (KD aC) (AK "TooMany" (Dz 3)) (Dz 4))))) s=aA (.Iv aD):=by
 let c:AK "TooMany" (Dz 3) s=aA (.int m):=by delta AK;rw[a];simp[nr hs]
 let e:K1 aD (Dz 3) s=aA (.Iv aD):=by delta K1;rw[a];rfl
 let KC:DA (KD aC) (BO Gw [Dz 3]) (DB (.int 4)) s=aA (.Iv aD):=(kV (b:=4) (c1 a (sp m)) rfl).trans ⋯;let d:DA (KD aC) (AK "TooMany" (Dz 3)) (Dz 4) s=aA (.Iv aD):=(kV c f).trans ⋯;apply ep (ea e (ea KC (ea (c1 c (Sy m)) d)))
def Zck(c:Eh [wP W]=aA (.int d))(a:m<d)(hs:m.natAbs<2^100):LL [wP W,.int (b:Int),.int m]=aA (.Iv aD):=by show Yu (sq rfl (sq rfl (sq (s1:=[aA (wP W),aA (.int (b:Int)),aA (.int m),aA (.Bs "TooMany" (.int m)),aA (.int m),aB]) ?_ (ret (WH hs rfl rfl)))));rw[U9,show xB (K1 aC (Dz 2)) _=aA aC from rfl];delta Jt;rw[show HE [Dz 0,Dz 1,Dz 2] _=aA [wP W,.int (b:Int),.int m] from rfl];dsimp[aY,f' c a hs];rfl
def Ul(c:Eh [wP W]=aA (.int d))(a:300<d):LL [wP W,.int (b:Int),.IB]=aA (.Iv aD):=by show Yu (sq rfl (sq rfl (sq (s1:=[aA (wP W),aA (.int (b:Int)),aA .IB,aA (.Bs "TooMany" (.int 300)),aA (.int 300),aB]) ?_ (ret (WH (m:=300) ∅ rfl rfl)))));rw[U9,show xB (K1 aC (Dz 2)) _=aA aD from rfl];dsimp[aY,if_true];show sq rfl ?_;delta Jt;rw[show HE [Dz 0,Dz 1] _=aA [wP W,.int (b:Int)] from rfl];dsimp[aY,nZ,oP,f' c a ∅];rfl
end
def HV:List (List Int):=[[0,4,0,5],[4,0,4,0],[0,4,0,4],[5,0,4,0]]
def Zm5:Zu HV:=by
 let h:∀i,i<4->(FK HV i).length=4/\DD HV i i=0/\∀j,j<4->0<=DD HV i j/\DD HV i j<=9/\DD HV i j=DD HV j i:=∅
 apply⟨∅,∅,λi a=>(h i a).1,λi j a b=>((h i a).2.2 j b).1,λi j a b=>((h i a).2.2 j b).2.1,λi j a b=>((h i a).2.2 j b).2.2,λi a=>(h i a).2.1⟩
def Zf8:Iy HV:=λP h=>by
 let a:P 0↔P 1:=h 0 1 ∅ ∅ ∅;let b:P 1↔P 2:=h 1 2 ∅ ∅ ∅;let d:P 2↔P 3:=h 2 3 ∅ ∅ ∅
 let all:∀i,i<4->(P i↔P 0):=λi c=>by
  have:i=0\/i=1\/i=2\/i=3:=()
  rcases this with rfl | rfl | rfl | rfl
  ·apply tX
  ·apply a.symm
  ·apply b.symm.trans a.symm
  ·apply d.symm.trans (b.symm.trans a.symm)
 apply λi j c e=>(all i c).trans (all j e).symm
def Zm6:DN (eW HV) id 3=304:=by decide +kernel
def k_{b:Nat}:LL [wP HV,.int (b:Int),.IB]=aA (.Iv aD):=
 Ul (d:=304) (by
  let:=O2 Zm5 Zf8;rw[Wn] at this;rw[this,show HV.length-1=3 from rfl,Zm6];rfl) ∅
section
variable {W:Iz}{b:Nat}{g:Iw}
variable {D E:E1}{F:Iw}
def WG(h:∀g,g≠b->BR D g=BR E g)(a:b∈F):Lf W D F=Lf W E F:=by
 delta Lf;congr 1;funext g;by_cases q:g=b
 ·rw[q];simp[a]
 ·rw[h g q]
def Zz(s:i_ W b D F)(h:∀g,g≠b->BR D g=BR E g):i_ W b E F:=by
 let a:=s.ny.hd;show⟨λg c ne=>by rw[<-h g ne];apply s.free g c ne,⟨s.ny.E3,s.ny.lt,a,λk e d=>?_⟩,?_,s.all⟩
 ·rw[<-WG h (aw (i:=0) (by rw[mw ()];apply a))];apply s.ny.st k e d
 ·rw[<-WG h (aw a)];apply s.stop
def X_(ok:Zu W)(d:b<W.length)(i:la (eW W)<=8)(a:Gv (eW W) g)(e:g.length+1=W.length):GA [wP W,.int (b:Int),gP g]=aA (pP (NK W b g)):=by let h:=ok.lF;let⟨v,c,f⟩:=WW (T:=Hr g) ok () (by simp[Hr];lia);have:v=aD:=f.mpr ⟨g,rfl,a,e⟩;subst this;apply Yu (sq (Qv (xn (xb (c2 rfl rfl c)))) (ret (c3 rfl rfl rfl (Qu ok d))))
def vi(ok:Zu W)(c:b<W.length)(e:Gv (eW W) g)(f:g.length+1=W.length){v:Int}:Cv [wP W,.int (b:Int),pP ((NK W b g).set b v)]=aA (gP g):=by
 let⟨st,IT⟩:=Wo ok c e f;let lS:=st.len;let d:((NK W b g).set b v).length=W.length:=by rw[cq];apply lS
 let⟨u,i,_,h⟩:=Rf (D:=(NK W b g).set b v) ok d c
 have:u=aD:=h.mpr (by
  let⟨F,j⟩:=st.set;apply⟨F,Zz j λk a=>(O7 v a).symm⟩)
 subst this;rw[mb ok d c i];have:NB W ((NK W b g).set b v) b=g:=by rw[NB,s6 (D':=NK W b g) λk a=>O7 v a];apply IT
 rw[this]
end
def Zoz{f:XE}{s:ZG}{v:PV}(h:FG f s=aA v):f s=aA v:=by
 rw[Wd] at h;let⟨l,b,a⟩:=Zc h;split at a
 ·cases a;apply b
 ·cases a
section
variable {W:Iz}{ns:E1}{n b:Nat}{gs:Lm}
abbrev wW(ns:E1)(n:Nat)(W:Iz)(b:Nat)(gs:Lm)(f:Iz)(x6 Kv x8 x9 y4:Option PV):ZG:=
 [aA (.cst (iL ns)),aA (.int (n:Int)),aA (wP W),aA (.int (b:Int)),aA (.lst (f.map pP)),aA (.lst (gs.map gP)),x6,Kv,x8,x9,y4]
def Zcl(o:la ns<=63)(ok:Zu W)(y:la W=n)(c:b<la W)(w:la (eW W)<=8)(C:∀g∈gs,Gv (eW W) g/\g.length=la W-1)(I:la gs<64){i:Nat}(p:i<la gs)(d m:Option PV) :
  M9 (BS (Hs 7 (BO GA [Dz 2,Dz 3,DA Hu (Dz 5) (Dz 6)]))
  (BS (HB (HK (HR (xB (BO Js [Dz 7,Dz 1]))) (HK (xB (DA (KD aD) (DA Hu (Dz 7) (Dz 3)) (DB (.int 0)))) (HR (xB (BO N8 [Dz 2,Dz 7,Dz 3]))))) (Hv (FG (DB (.Iv aC)))) KI)
  (BS (Hs 8 (FG (DA Tq (DA XI (BO Aq [Dz 0,DA Xa (DB (.int 13)) (DA XI (Dz 6) (DB (.int 48)))]) (DB (.int 41))) (DB (.int 20)))))
  (BS (HB (xB (DA (KD aD) (BO Cv [Dz 2,Dz 3,DA Jd (DA Jd (Ho F4 (Dz 7) F9 (Lr (Dz 3))) (DU [Dz 8])) (Ho F4 (Dz 7) (Lr (DA Xa (Dz 3) (DB (.int 1)))) F9)]) (DA Hu (Dz 5) (Dz 6)))) (Hv (FG (DB (.Iv aC)))) KI)
  (Ln 4 (FG (Dz 7))))))) (wW ns n W b gs ((gs.take i).map (NK W b)) (aA (.int (i:Int))) d m aB aB) λs=>∃x6 d m,s=wW ns n W b gs ((gs.take (i+1)).map (NK W b)) x6 d m aB aB:=by
 let H:=ok.lF;let⟨q,J⟩:=C gs[i] (cI p);let j:gs[i].length+1=la W:=()
 let r:∀s:ZG,Dz 5 s=aA (.lst (gs.map gP))->Dz 6 s=aA (.int (i:Int))->DA Hu (Dz 5) (Dz 6) s=aA (gP gs[i]):=λs t A=>o2 t A (WA (by rw[af,aI p];rfl));let z:=X_ ok c w q j;let⟨st,IT⟩:=Wo ok c q j;let⟨u,_,E,F⟩:=Rf (D:=NK W b gs[i]) ok st.len c;have:u=aD:=F.mpr st.set;subst this;let x:Js [pP (NK W b gs[i]),.int (n:Int)]=aA (.Iv aD):=by rw[z_ (by rw[st.len];lia),st.len,y];simp
 let B:Aq [.cst (iL ns),.int (13+(i:Int)%48)]=aA (.int (BR ns (13+i%48))):=by
  let:=V5 o (13+i%48)
  rwa [show(((13+i%48:Nat)):Int)=13+(i:Int)%48 by lia] at this
 show Yr (Zl (c3 rfl rfl (r _ rfl rfl) z)) (Yr (Qv ?_) (Yr (Zl (v:=.int (BR ns (13+i%48)%41-20)) (ep (uR (uS (b:=41) (c2 rfl (y7 (a:=13) rfl (uS (b:=48) rfl rfl)) B) rfl) rfl))) (Yr (Qv ?_) (nT (TK pP (uJ rfl) rfl ?_) ⟨aA (.int (i:Int)),aA (pP (NK W b gs[i])),aA (.int (BR ns (13+i%48)%41-20)),?_⟩))))
 ·show(xo (xn (xb (c2 rfl rfl x))) (xo (xb (o2 (o2 rfl rfl (Xy (by rw[st.len];apply c))) rfl (show KD aD (.int (BR (NK W b gs[i]) b)) (.int 0)=aA (.Iv aC) by rw[st.base];simp))) (xn (xb (c3 rfl rfl rfl E))))).trans rfl
 ·let G:=λs=>Zj5 (l:=NK W b gs[i]) (k:=b) (v:=BR ns (13+i%48)%41-20) (f:=Dz 7) (g:=Dz 3) (h:=Dz 8) (s:=s);show xb (o2 (c3 rfl rfl (Zoz (G _ rfl rfl rfl (by rw[st.len];apply c) (by rw[st.len];lia))) (vi ok c q j)) (r _ rfl rfl) ?_);change KD aD (pP (Hr gs[i])) (pP (Hr gs[i]))=_;simp
 ·rw[aK,bz];lia
 ·let e:(gs.take (i+1)).map (NK W b)=(gs.take i).map (NK W b)++[NK W b gs[i]]:=by rw[fY p,bO];rfl
  rw[e];rfl
def Zcm(ok:Zu W)(d:b<la W)(g:(FX W b).length<64):LM [.lst ((FX W b).map pP)]=aA (.lst ((Li (FX W b)).map pP)):=by
 let k:=Vb ok d;let l:=ok.lF;let hp:=ok.pos
 let a:∀D∈FX W b,NC (la W) D=aD:=λD c=>by
  let st:=(O6 ok d).mp c;delta NC;dsimp[aX,decide_eq_true_eq,bK];show⟨st.len,λx h=>?_⟩;let⟨j,f,rfl⟩:=T7 h;let:=SG ok d st (by rw[<-st.len];apply f)
  lia
 change(Ce ((FX W b).map λp=>PV.tup (iL p))).bind _=_;rw[VP,aY]
 cases e:FX W b with
 | nil=>simp[Li]
 | cons D r=>
  let c:=a D (by rw[e];simp);let i:D.length=la W:=by delta NC at c;dsimp[aX,decide_eq_true_eq] at c;apply c.1
  rw[Be];rw[<-e];show⟨g,k,?_,bK.mpr ?_⟩
  ·rw[e];change 1<=D.length;lia
  ·rw[show((FX W b).headD []).length=la W by rw[e];apply i];apply a
end
def Zcn{v:PV}(a:Bool)(h:K0 8 v v=aD):KD a v v=aA (.Iv (!a)):=by
 delta KD;rw[Be h];cases a<;>simp
def VW(c:Bool)(L:Iz):KD c (.lst (L.map pP)) (.lst (L.map pP))=aA (.Iv (!c)):=Zcn c (WL (λa b=>nS 5 a b) L L)
def law_true:∀ns:List Int,ns.length<=63->(∀n∈ns,n.natAbs.log2<=1048576)->D_law [.cst (iL ns)]=aA (.Iv aD):=by
 ext ns e _;let⟨n,y,k,M⟩:=fl (BR ns 0);let⟨ts,E,d,N,h⟩:=_f.uB (YE:=1) e y k;let J:=od d k;let ok:Zu (HH n ts):=(Pk d).web y k;let r:(HH n ts).length=n:=(Pk d).len;let m:Iy (HH n ts):=N.conn d;let T:((eW (HH n ts)).length:Int)<=HF ts:=by rw[Zm4,r];apply Zci d k
 generalize HH n ts=W at *
 let f:la (eW W)<=8/\(4<W.length->la (eW W)<=W.length+1):=by
  delta _f.AX at h;split at h<;>lia
 obtain⟨b,g,G⟩:∃b:Nat,b<W.length/\BR ns 12%(n:Int)=(b:Int):=by let R:=l6 (BR ns 12) (show(n:Int)≠0 by lia);let S:=iY (BR ns 12) (show(0:Int)<(n:Int) by lia);apply⟨(BR ns 12%(n:Int)).toNat,(),()⟩
 obtain⟨c,Q⟩:∃c:Nat,BR ns 61%4=(c:Int):=⟨(BR ns 61%4).toNat,()⟩;let F:(B2 (eW W) (W.length-1)).length<64:=by rw[Wn];apply g6 (OM _ _ _) (Zm3 _ f.1 _ () λq=>by let:=f.2 ();lia)
 let C:=O2 ok m;let L:=Wb (eW W) (W.length-1);let A:(λls=>Jm (ls++[.int 300])) [wP W]=aA (.lst ((B2 (eW W) (W.length-1)).map gP)):=yf ok m f.1 ();let st:(λls=>AQ (ls++[.int 300])) [wP W,.int (b:Int)]=aA (.lst ((Li (FX W b)).map pP)):=Uz ok m g f.1 f.2 ();let BQ:=Uz ok m g f.1 f.2 (fM _);let x:(FX W b).length=(B2 (eW W) (W.length-1)).length:=aK _;let o:=Zcm ok g ();let B:=Vb ok g;let I:LL [wP W,.int (b:Int),.int (((B2 (eW W) (W.length-1)).length:Int)-1)]=aA (.Iv aD):=Zck C () ();let O:∀D∈Li (FX W b),Js [pP D,.int (n:Int)]=aA (.Iv aD):=λD t=>by let:=((O6 ok g).mp ((VN _).mem_iff.mp t)).len;rw[z_ (),this,r];simp
 let lS:(Li (FX W b)).length<64:=by rw[(VN _).length_eq];lia
 let lt:_h.GF (.lst ((FX W b).map pP))=aA (.int ((B2 (eW W) (W.length-1)).length:Int)):=by change(Ce ((FX W b).map λp=>PV.tup (iL p))).bind _=_;rw[VP,aY,Be ⟨B,()⟩,x]
 let u:M5 [.lst ((FX W b).map pP)]=aA (.int ((B2 (eW W) (W.length-1)).length:Int)):=by rw[tM,aK,x]
 let H:FX W b=(B2 (eW W) (W.length-1)).map (NK W b):=rfl;let z:M5 [.lst ((B2 (eW W) (W.length-1)).map gP)]=aA (.int ((B2 (eW W) (W.length-1)).length:Int)):=by rw[tM,aK]
 generalize B2 (eW W) (W.length-1)=gs at *;show Uj (ZD (Zl (c1 (c2 rfl rfl (V5 e 0)) M)) (ZD (Zl (c2 (c3 rfl rfl rfl E) rfl J)) (ZD (Zl (v:=.int (b:Int)) (ep ((uS (c2 rfl rfl (V5 e 12)) (b:=(n:Int)) rfl).trans (by rw[G])))) (ZD (s1:=wW ns n W b [] [] aB aB aB aB aB |>.set 5 aB) rfl (ZD (s1:=wW ns n W b gs [] aB aB aB aB aB) (Zl (c1 rfl A)) (Wl (Qm (n:=gs.length) (λi s=>∃w j l,s=wW ns n W b gs ((gs.take i).map (NK W b)) w j l aB aB) (c1 rfl z) ⟨aB,aB,aB,rfl⟩ ?_) ?_))))))
 ·ext i s P ⟨w,j,l,rfl⟩;apply Zcl e ok r g f.1 L F P j l
 ext s ⟨w,j,l,rfl⟩;rw[dQ,<-H];show ZD (Zl (c2 rfl rfl st)) (ZD (Qv ?_) (ZD (Qv ?_) (ZD rfl (ZD (Zl (v:=wP HV) rfl) (ZD (Qv ?_) (W6 (v:=.Iv aD) ?_ rfl))))))
 ·apply(xo (xn (xb (c2 (D:=Az) rfl rfl rfl))) (xo (xb (o2 rfl (c1 rfl o) (VW aD _))) (xb (o2 (vB rfl lt) (c1 rfl u) (show KD aD (.int _) (.int _)=aA (.Iv aC) by simp))))).trans rfl
 ·show(xo (xn (xb (p:=aD) (c1 (a:=.lst (((Li (FX W b)).map λ_=>aD).map PV.Iv)) ((Z2 (Li (FX W b)) pP (λ_=>.Iv aD) rfl () λD t=>⟨_,rfl,rfl,c2 rfl rfl (O D t)⟩).trans (by rw[bR];rfl)) ?_))) (xb (o2 (c3 rfl rfl (c1 rfl u) BQ) (c1 rfl o) (VW aD _)))).trans rfl;rw[VE];simp
 ·apply xn (xb (c3 rfl ((uS (b:=4) (c2 rfl rfl (V5 e 61)) rfl).trans (by rw[Q])) rfl k_))
 ·apply ep (ea (c3 rfl rfl (uR (b:=1) (c1 rfl u) rfl) I) (o2 (c2 rfl rfl st) (c1 rfl o) (VW aC _)))
section
open _z
variable {P:bC}{w:bU}{K:aH}{mg:Bp}{base:b7}
abbrev Wc:cJ:=G3 0 (DH 6)
def vX{C d fI:aM}{e:gj}(i:MU K "__init__" "TooMany.__init__" Wc fI e)(f:AV K C y6 "ValueError.__new__" fI=aD)(g:uQ K d "ValueError.__init__")(o:mg "PurseError" = aA (.ref d))(m:ba K (.ref C) "__setattr__" = aA (aA (.builtin "object.__setattr__")))(ve:Cs K C=aD)(tk:sH K C "most" = aA aB)(j:(nC K C).any (·.hasDict)=aD) :
  FD P w K mg base Nc 1 fI e ["self","most"] (JF C "most"):=
 i.ok (k:=0) (N:=["self","most"]) ⟨rfl,rfl,rfl,by decide +kernel,rfl,by decide +kernel,by decide +kernel⟩ (λ_ _ _ _ h=>h.1) λl A c s H vs Q E n h=>by show⟨_,Q8 (YF (Zab (pl:=?pl) F.excBase_ValueError g f rfl o rfl (ZA (pv 0) (ZA (Zel n (pv 1)) Yc)))) (rz (Zej f m ve tk j rfl (pv 0) (pv 1))),?_⟩;apply oc (a:="self") (b:="most") h
end
def all_mk{P:bC}{w:bU}{K:aH}{h:b7}{mg:Bp}{fa:aM}(X:K.In h)(G:h.Ns bP mg)(hfa:mg "law" = aA (.ref fa))(B:Blt mg)
  (d0:Def K mg "_law_houses" Ou)
  (d1:Def K mg "_law_square" Ov)
  (d2:Def K mg "ties_of" Ms)
  (d3:Def K mg "reduced" Mu)
  (d4:Def K mg "evened" Ig)
  (d5:Def K mg "determinant" TV)
  (d6:Def K mg "ties_at" Mv)
  (d7:Def K mg "row_of" Ih)
  (d8:Def K mg "square_without" Vp)
  (d9:Def K mg "square_of" Qi)
  (d10:Def K mg "tree_count" SV)
  (d11:Def K mg "pieces_of" Qj)
  (d12:Def K mg "is_between" SW)
  (d13:Def K mg "grown" ET)
  (d14:UI K mg "trees" Tj 300)
  (d15:Def K mg "tie_to_look_at" Vq)
  (d16:Def K mg "walked" Ii)
  (d17:Def K mg "still_by" Oy)
  (d18:UI K mg "stills" Vr 300)
  (d19:Def K mg "_law_cell" Il)
  (d20:Def K mg "_law_renamed" Qk)
  (d21:Def K mg "_law_read_times" US)
  (d22:Def K mg "_law_times" Oz)
  (d23:Def K mg "is_tree" Mw)
  (d24:Def K mg "still_of" OA)
  (d25:Def K mg "_law_whole" Mx)
  (d26:Def K mg "_law_kind" Ip)
  (d27:Def K mg "_law_too_many" SY)
  (d28:Def K mg "tree_by" My)
  (d29:Def K mg "in_debt" Mz)
  (d30:Def K mg "ties_to" MA)
  (d31:Def K mg "house_to_burn" Ui)
  (d32:Def K mg "burnt" EU)
  (d33:Def K mg "is_settled" S0)
  (d34:Def K mg "tree_of" MB)
  (d35:Def K mg "_law_tuple" MC)
  (d36:Def K mg "_law_all_burn" S1)
  (d37:Def K mg "_law_settled" Ql)
  (d38:Def K mg "law" G')
  {s_ tp qi n7 bh ir qe n5 q0 tm qy Cb fW:aM}{odW anW:I'}{slW:L4}{kVW dcW pmW cdW ctW:aG}
  (qNoWeb:cB K bP "NoWeb" = aA (aA (.ref s_)))
  (qApart:cB K bP "Apart" = aA (aA (.ref tp)))
  (qNoText:cB K bP "NoText" = aA (aA (.ref qi)))
  (qNoOrder:cB K bP "NoOrder" = aA (aA (.ref n7)))
  (qTooMany:cB K bP "TooMany" = aA (aA (.ref bh)))
  (qNotSettled:cB K bP "NotSettled" = aA (aA (.ref ir)))
  (qNoTree:cB K bP "NoTree" = aA (aA (.ref qe)))
  (qNoTotal:cB K bP "NoTotal" = aA (aA (.ref n5)))
  (qNoEnds:cB K bP "NoEnds" = aA (aA (.ref q0)))
  (qNoRow:cB K bP "NoRow" = aA (aA (.ref tm)))
  (qNoName:cB K bP "NoName" = aA (aA (.ref qy)))
  (qB:cB K bP "PurseError" = aA (aA (.ref Cb)))
  (xB:fP K Cb "BaseException" = aD)
  (g1:qc K (.ref Cb) "__getattribute__" = aA (aA (.builtin "type.__getattribute__")))
  (g2:PySem.W.readsIn K Cb (.type "type")=aD)
  (g3:PySem.W.findCls K (.ref Cb) (.type "type") "__init__" = aA (.val (.builtin "ValueError.__init__")))
  (iW:ba K (.ref bh) "__init__" = aA (aA (.ref fW)))
  (lW:K.lookup fW=aA ⟨.type "function",odW,.func (cX "__init__" "TooMany.__init__" (HI Wc) (FQ Wc) (DG Wc) .none kVW dcW pmW anW cdW ctW),slW⟩)
  (cW:da K cdW "TooMany.__init__" = aD)
  (kW:eB K (.ref fW)=aD)
  (eW:_z.AV K bh _z.y6 "ValueError.__new__" fW=aD)
  (sW:ba K (.ref bh) "__setattr__" = aA (aA (.builtin "object.__setattr__")))
  (vW:_z.Cs K bh=aD)
  (uW:sH K bh "most" = aA aB)
  (hW:(nC K bh).any (·.hasDict)=aD)
  (bW:_z.AO K bh Cb=aD)
  (nW:ba K (.ref bh) "most" = aA aB)
  (x1W:fP K bh "BaseException" = aD)
  (x4W:ba K (.ref bh) "__getattribute__" = aA (aA (.builtin "BaseException.__getattribute__")))
  (x5W:ba K (.ref bh) "__getattr__" = aA aB)
  (x6W:ba K (.ref bh) "__class__" = aA (aA (.builtin "object.__class__")))
  (x7W:kl K bh (.type "object")=aA aD)
  (x8W:bT K (.ref bh) (.type "ValueError")=aA aD)
  (tNoWebW:bT K (.ref bh) (.ref s_)=aA aC)
  (tApartW:bT K (.ref bh) (.ref tp)=aA aC)
  (tNoTextW:bT K (.ref bh) (.ref qi)=aA aC)
  (tNoOrderW:bT K (.ref bh) (.ref n7)=aA aC)
  (tTooManyW:bT K (.ref bh) (.ref bh)=aA aD)
  (tNotSettledW:bT K (.ref bh) (.ref ir)=aA aC)
  (tNoTreeW:bT K (.ref bh) (.ref qe)=aA aC)
  (tNoTotalW:bT K (.ref bh) (.ref n5)=aA aC)
  (tNoEndsW:bT K (.ref bh) (.ref q0)=aA aC)
  (tNoRowW:bT K (.ref bh) (.ref tm)=aA aC)
  (tNoNameW:bT K (.ref bh) (.ref qy)=aA aC)
  (sbW:_z.AO K bh bh=aD)
  : ∃fd:gj,(∀(s:aN)(u:aG),qh s fd ⟨[u],[]⟩ [("_law_script",u)])/\∀base:b7,K.In base->base.Ns bP mg->FD P w K mg base Nc 9 fa fd ["_law_script"] (DS K D_law 1):=by
 let mB:=dS X G qB;let BI:_z.uQ K Cb "ValueError.__init__":=⟨g1,g2,g3⟩;let FW:MU K "__init__" "TooMany.__init__" Wc fW _:=dP (st:=Wc) lW cW kW
 let QW:∀base:b7,_z.QF "TooMany" P w K mg base bh Cb:=λbase=>
  ⟨qTooMany,dS X G qTooMany,⟨fW,_,_,eW,lW,rfl,FW.binds (λ_ _ _ _ _ _ us Fg=>match us,Fg with | [_,_],_=>rfl),vX FW eW BI mB sW vW uW hW⟩,⟨qTooMany,⟨x4W,x5W,x6W,x7W,x1W⟩,nW,hW⟩,bW,λcx Fq=>by
   delta _z.JS at Fq;dsimp[aW,cM,or_false] at Fq;rcases Fq with rfl | rfl | rfl | rfl | rfl | rfl | rfl | rfl | rfl | rfl | rfl
   ·apply⟨s_,dS X G qNoWeb,tNoWebW⟩
   ·apply⟨tp,dS X G qApart,tApartW⟩
   ·apply⟨qi,dS X G qNoText,tNoTextW⟩
   ·apply⟨n7,dS X G qNoOrder,tNoOrderW⟩
   ·apply⟨bh,dS X G qTooMany,tTooManyW⟩
   ·apply⟨ir,dS X G qNotSettled,tNotSettledW⟩
   ·apply⟨qe,dS X G qNoTree,tNoTreeW⟩
   ·apply⟨n5,dS X G qNoTotal,tNoTotalW⟩
   ·apply⟨q0,dS X G qNoEnds,tNoEndsW⟩
   ·apply⟨tm,dS X G qNoRow,tNoRowW⟩
   ·apply⟨qy,dS X G qNoName,tNoNameW⟩,x8W⟩
 show uL d38 hfa (λ_ _ _ _ _ _ _=>rfl) λbase f fd _ _ F=>?_;let B:BX P w K mg base:=⟨B⟩;let Q:_z.Q3 "TooMany" P w K mg base bh Cb:=⟨mB,xB,QW base,sbW⟩;let e0:=Tz B d0;let Ko:=U2 B d1;let e2:=xd B d2;let IM:=dx B d3;let e4:=w3 B d4 IM;let e5:=Ox B d5 e4;let e6:=u5 B d6;let e7:=vZ B d7 e6;let e8:=SU B d8 e7;let e9:=YR B d9 e8;let yD:=vq B d10 e5 e9;let e11:=ZO B d11;let e12:=yd B d12;let e13:=Zba B d13 e11 e12;let e14:=Zbb B d14 yD e2 e13;let e15:=w0 B d14 yD e2 e13;let e16:=h7 B d14 Q yD;let e17:=dT B d14 Q yD;let e18:=SX B d15;let e19:=tl B d16 e2 e18;let zY:=WT B d17 e19;let e21:=wi B d18 zY e15;let e22:=tu B d18 zY e15;let e23:=dK d18 B Q  e16;let e24:=bI d18 B Q  e16;let e25:=hJ B d19;let e26:=X2 B d20;let e27:=QA B d21;let e28:=O0 B d22 e25 e27 e26;let e29:=vU B d23 e2 e11;let e30:=OY B d24 e29 zY;let e31:=ob B d25;let e32:=sa B d26  Q;let e33:=ZQ B d27 e31 e32 Q e24 e23;let e34:=h2 B d28 e19;let e35:=h1 B d29;let e36:=yi B d30;let e37:=RN B d31 e36;let e38:=Zbc B d32 e37;let e39:=sg B d33 e38 e35;let e40:=mA B d34 e39 e34;let e41:=es B d35 e31;let e42:=Qo B d36;let e43:=uO B d37 e42;apply Zjn B F e0 e25 Ko e28 e14 e30 e43 e41 e40 e21 e22 e33
end _p
structure PySem.W.Fast:Prop where(tw12503174066892024822 tw7126125533093321526 tw1796733481462362605 tw12190631224648045942 tw10443599485374261531 tw14140207243879710083 tw923863037558147849 tw5860367888900593092 tw15625818489036025147 tw11343426788554236881 tw13499791682349942991 tw17517297508697093305 tw18385349391862102185 tw16949250016355824628 tw10124203466200326053 tw251526528935355880 tw16874431162713939346 tw12150376496149961102 tw7132259298343374593 tw16489145301065707158 tw4113767784673866136 tw18160043706337571414 tw7962240634070716606 tw6933238243435720232 tw3288391587441889506 tw12103299857775978991 tw16409251178858762755 tw11175788877016197726 tw17225914317542287474 tw1682855265554632760 tw10738401725736596704 tw18080020377551615689 tw1622384849078750235 tw11313302684765800318 tw1055925942912861475 tw7400637715317916444 tw11117328259787274217 tw10684941195519260785 tw5447340529608509628 tw17086812581391163979 tw13181762692884997730 tw5424926508191251669 tw4193107229961644554 tw17769004157656266386 tw17198547037444564497 tw6534450288511137063 tw9983775169394695409 tw7443248128361007851 tw8130521973038969524 tw7269490931777456325 tw3344936003234204081 tw8413679277940886844 tw16157822500589850513 tw14797810786969098336 tw7131697955319805485 tw5661524891328056754 tw12141824491225370721 tw6308217618741555711 tw6706374827221492568 tw16101749921443313426 tw13105365814400358817 tw10258550235430841399 tw453225948254523814 tw4074140981502679658 tw12201720861764781317 tw3760354853405731805 tw17708988914542510472 tw12810749877420132457 tw14678556999991154547 tw7599255429254921390 tw16937535424227770518 tw13433380563884254215 tw1903609091947491636 tw4340912321361228107 tw11373175035616157239 tw11802638058428694294 tw1394524959144807341 tw8819425681749760523 tw12674513971171890846 tw12601929034934705452 tw969159991919394562 tw1452084922525688514 tw16120910622522685163 tw16645255871788628175 tw15965042749241946551 tw16957780838786043661 tw8137514089496756087 tw11869979765038912931 tw5745405554027750635 tw371443582070780250 tw9443824931954127650 tw14311097426968989244 tw6070867845305628101 tw13696162783190538589 tw745502067876923578 tw12425929127883300669 tw10978417243669107273 tw4359574975082819664 tw10344766276005939994 tw8916190058622616082 tw3249500022811529306 tw15935408072556258280 tw2658014013944805242 tw12660649430444626212 tw5134746090113666297 tw9935532797646848836 tw169904299575323506 tw11881703706878372027 tw14159174890606558662 tw4426888676636539701 tw12166104472316214359 tw14341450223582407350 tw1132626986790482046:True)
open PySem.W
set_option maxRecDepth 100000 in
theorem PySem.Challenge.cw_purseweb_k54_whole_trees_and_still_purse_holds : PySem.Challenge.rw_purseweb_k54_whole_trees_and_still_purse.Holds := by
 w_on;o_law;k_head;(case hw=>w_witness2)
 k_fill
 show _v.law_walkT (l:=kd) (D:=_p.D_law) (x:="_law_script") 9 rfl rfl ⟨rfl,∅,∅,rfl⟩ (λw=>by kernel_rfl) _p.law_true (λw h Y=>PySem.W.km_in_of Y) ?F
 case F=>
  ext w mg fa h KX G hmg
  refine' _p.all_mk KX G hmg ?B ?d0 ?d1 ?d2 ?d3 ?d4 ?d5 ?d6 ?d7 ?d8 ?d9 ?d10 ?d11 ?d12 ?d13 ?d14 ?d15 ?d16 ?d17 ?d18 ?d19 ?d20 ?d21 ?d22 ?d23 ?d24 ?d25 ?d26 ?d27 ?d28 ?d29 ?d30 ?d31 ?d32 ?d33 ?d34 ?d35 ?d36 ?d37 ?d38 ?qNoWeb ?qApart ?qNoText ?qNoOrder ?qTooMany ?qNotSettled ?qNoTree ?qNoTotal ?qNoEnds ?qNoRow ?qNoName ?qB ?xB ?g1 ?g2 ?g3 ?iW ?lW ?cW ?kW ?eW ?sW ?vW ?uW ?hW ?bW ?nW ?x1W ?x4W ?x5W ?x6W ?x7W ?x8W ?tNoWebW ?tApartW ?tNoTextW ?tNoOrderW ?tTooManyW ?tNotSettledW ?tNoTreeW ?tNoTotalW ?tNoEndsW ?tNoRowW ?tNoNameW ?sbW
  case B=>constructor<;>(show PySem.W.mg_none_of KX G ?_;k_is)
  case d0 | d1 | d2 | d3 | d4 | d5 | d6 | d7 | d8 | d9 | d10 | d11 | d12 | d13 | d15 | d16 | d17 | d19 | d20 | d21 | d22 | d23 | d24 | d25 | d26 | d27 | d28 | d29 | d30 | d31 | d32 | d33 | d34 | d35 | d36 | d37 | d38=>(refine' _l.def_mk KX G ?a ?l ?c ?k;(case a=>k_is);(case l=>k_is);(case c=>k_is);(case k=>k_is))
  case d14 | d18=>(refine' _v.defD_mk KX G ?a ?l ?c ?k ?lt ?d;(case a=>k_is);(case l=>k_is);(case c=>k_is);(case k=>k_is);(case lt=>k_is);(case d=>rfl))
  (case qNoWeb=>k_is)
  (case qApart=>k_is)
  (case qNoText=>k_is)
  (case qNoOrder=>k_is)
  (case qTooMany=>k_is)
  (case qNotSettled=>k_is)
  (case qNoTree=>k_is)
  (case qNoTotal=>k_is)
  (case qNoEnds=>k_is)
  (case qNoRow=>k_is)
  (case qNoName=>k_is)
  (case qB=>k_is)
  (case xB=>kernel_rfl)
  (case g1=>kernel_rfl)
  (case g2=>kernel_rfl)
  (case g3=>kernel_rfl)
  (case iW=>k_is)
  (case lW=>k_is)
  (case cW=>k_is)
  (case kW=>k_is)
  (case eW=>kernel_rfl)
  (case sW=>k_is)
  (case vW=>kernel_rfl)
  (case uW=>kernel_rfl)
  (case hW=>kernel_rfl)
  (case bW=>kernel_rfl)
  (case nW=>k_is)
  (case x1W=>kernel_rfl)
  (case x4W=>k_is)
  (case x5W=>k_is)
  (case x6W=>k_is)
  (case x7W=>k_is)
  (case x8W=>kernel_rfl)
  (case tNoWebW=>kernel_rfl)
  (case tApartW=>kernel_rfl)
  (case tNoTextW=>kernel_rfl)
  (case tNoOrderW=>kernel_rfl)
  (case tTooManyW=>kernel_rfl)
  (case tNotSettledW=>kernel_rfl)
  (case tNoTreeW=>kernel_rfl)
  (case tNoTotalW=>kernel_rfl)
  (case tNoEndsW=>kernel_rfl)
  (case tNoRowW=>kernel_rfl)
  (case tNoNameW=>kernel_rfl)
  (case sbW=>kernel_rfl)
